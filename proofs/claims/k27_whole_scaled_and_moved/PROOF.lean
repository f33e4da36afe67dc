import PyProof.Rows.All
import Wide.All
import OpenK.AllK
import Wide.FinOn
import Lean
import PyProof.EqAt
import PyProof.EqKinds
import PyProof.TupleCall
import PyProof.ZipIter
import PyProof.TupleIter
import PyProof.WalksMore
import PyProof.EnumMake
import PyProof.Draws
import PyProof.P3In
import KE.KSortTup
import PyProof.Rows.SortWalk
import KE.IntBitsLaws
import KE.KRevIter
import PyProof.TupleOfGen
import PySem.Challenge.RW_tokenmoor_k27_whole_scaled_and_moved
local macro_rules | `(tactic| omega)=>`(tactic| lia)
set_option Elab.async false
set_option linter.all false
set_option maxRecDepth 100000
namespace L2
open PySem PySem.Spec PyProof.Rows
abbrev Key:=Sum Int Str
def keyIs:Key→Value→Bool
 | .inl k,v=>Value.isInt k v
 | .inr x,v=>Value.isStrOf x v
def keyH (w:World):Key→Int
 | .inl k=>hashInt k
 | .inr x=>hashStr w x
theorem keyIs_shape:∀ {k:Key} {v:Value},keyIs k v=true→(∃ i t,k=Sum.inl i∧v=Value.int i t)∨(∃ x t,k=Sum.inr x∧v=Value.str x t)
 | .inl i,v,h=>by
  obtain ⟨t,e⟩:=Value.isInt_shape (k:=i) (v:=v) h
  exact .inl ⟨i,t,rfl,e⟩
 | .inr x,v,h=>by
  obtain ⟨t,e⟩:=Value.isStrOf_shape (x:=x) (v:=v) h
  exact .inr ⟨x,t,rfl,e⟩
theorem key_ll (a b:Int):decide ((Sum.inl a:Key)=Sum.inl b)=(a == b):=by
 by_cases e:a=b
 ·subst e; simp
 ·have h:¬ (Sum.inl a:Key)=Sum.inl b:=fun q=>e (Sum.inl.inj q)
  rw [decide_eq_false h]
  exact (beq_eq_false_iff_ne.mpr e).symm
theorem key_rr (a b:Str):decide ((Sum.inr a:Key)=Sum.inr b)=decide (a=b):=by
 by_cases e:a=b
 ·subst e; simp
 ·have h:¬ (Sum.inr a:Key)=Sum.inr b:=fun q=>e (Sum.inr.inj q)
  rw [decide_eq_false h,decide_eq_false e]
theorem key_lr (a:Int) (b:Str):decide ((Sum.inl a:Key)=Sum.inr b)=false:=decide_eq_false (fun q=>nomatch q)
theorem key_rl (a:Str) (b:Int):decide ((Sum.inr a:Key)=Sum.inl b)=false:=decide_eq_false (fun q=>nomatch q)
def mixKind (prog:Program) (w:World):PySem.KeyKind prog w Key where
 is:=keyIs
 hash:=keyH w
 inj:=fun v a b ha hb=>by
  rcases keyIs_shape ha with ⟨i,t,rfl,rfl⟩ | ⟨x,t,rfl,rfl⟩
  ·rcases keyIs_shape hb with ⟨j,u,rfl,e⟩ | ⟨y,u,rfl,e⟩
   ·injection e with e1 _; rw [e1]
   ·exact nomatch e
  ·rcases keyIs_shape hb with ⟨j,u,rfl,e⟩ | ⟨y,u,rfl,e⟩
   ·exact nomatch e
   ·injection e with e1 _; rw [e1]
 byValue:=fun k v h=>by
  rcases keyIs_shape h with ⟨i,t,rfl,rfl⟩ | ⟨x,t,rfl,rfl⟩ <;> rfl
 pyHash:=fun hv h=>by
  rcases keyIs_shape hv with ⟨i,t,rfl,rfl⟩ | ⟨x,t,rfl,rfl⟩
  ·exact wpAny_pyHash_int h
  ·exact wpAny_pyHash_str h
 eqBool:=fun hu hv h=>by
  rcases keyIs_shape hu with ⟨i,t,rfl,rfl⟩ | ⟨x,t,rfl,rfl⟩
  ·rcases keyIs_shape hv with ⟨j,u,rfl,rfl⟩ | ⟨y,u,rfl,rfl⟩
   ·rw [key_ll] at h; exact wpAny_eqBool_int h
   ·rw [key_lr] at h; exact SeqAt.EqAt.int_str i t y u _ _ _ _ h
  ·rcases keyIs_shape hv with ⟨j,u,rfl,rfl⟩ | ⟨y,u,rfl,rfl⟩
   ·rw [key_rl] at h; exact SeqAt.EqAt.str_int x t j u _ _ _ _ h
   ·rw [key_rr] at h; exact wpAny_eqBool_str h
 «strs»:=fun k x t v h=>by
  rcases keyIs_shape h with ⟨i,u,rfl,e⟩ | ⟨y,u,rfl,e⟩
  ·exact nomatch e
  ·injection e with e1 _
   subst e1
   cases v <;> rfl
end L2
namespace L2
open PySem PySem.Spec PyProof.Rows
inductive V where
 | non | bl (b:Bool) | int (i:Int) | str (x:Str) | byt (b:Array UInt8) | flt (b:UInt64) | ref (a:Addr) | ty (n:String)
 deriving DecidableEq
def RelV:V→Value→Prop
 | .non,u=>u=Value.none
 | .bl b,u=>u=Value.bool b
 | .int i,u=>∃ t,u=Value.int i t
 | .str x,u=>∃ t,u=Value.str x t
 | .byt b,u=>∃ t,u=Value.bytes b t
 | .flt b,u=>∃ t,u=Value.float b t
 | .ref a,u=>u=Value.ref a
 | .ty n,u=>u=Value.type n
abbrev Vals:List V→List Value→Prop:=Paired RelV
theorem Vals.length {xs:List V} {us:List Value} (r:Vals xs us):xs.length=us.length:=Paired.length r
theorem Vals.get:∀ {xs:List V} {us:List Value} {i:Nat} {x:V},Vals xs us→xs[i]?=some x→∃ u,us[i]?=some u∧RelV x u
 | _,_,_,_,.nil,e=>by simp at e
 | _,_,0,_,.cons r _,e=>by simp at e; subst e; exact ⟨_,rfl,r⟩
 | _,_,i+1,x,.cons _ t,e=>by
  obtain ⟨u,h1,h2⟩:=Vals.get (i:=i) (x:=x) t (by simpa using e)
  exact ⟨u,by simpa using h1,h2⟩
theorem Vals.set {x:V} {u:Value} (r:RelV x u):∀ {xs:List V} {us:List Value} (i:Nat),Vals xs us→Vals (xs.set i x) (us.set i u)
 | _,_,_,.nil=>.nil
 | _,_,0,.cons _ t=>.cons r t
 | _,_,i+1,.cons q t=>.cons q (Vals.set r i t)
theorem Vals.append:∀ {xs ys:List V} {us ws:List Value},Vals xs us→Vals ys ws→Vals (xs++ys) (us++ws)
 | _,_,_,_,.nil,s=>s
 | _,_,_,_,.cons r t,s=>.cons r (Vals.append t s)
theorem Vals.take:∀ {xs:List V} {us:List Value} (n:Nat),Vals xs us→Vals (xs.take n) (us.take n)
 | _,_,0,_=>.nil
 | _,_,_+1,.nil=>.nil
 | _,_,n+1,.cons r t=>.cons r (Vals.take n t)
theorem Vals.drop:∀ {xs:List V} {us:List Value} (n:Nat),Vals xs us→Vals (xs.drop n) (us.drop n)
 | _,_,0,r=>r
 | _,_,_+1,.nil=>.nil
 | _,_,n+1,.cons _ t=>Vals.drop n t
def RelO:Option V→Option Value→Prop
 | some v,some u=>RelV v u
 | none,none=>True
 | _,_=>False
def KV {κ:Type}:List (κ×V)→List (κ×Value)→Prop:=Paired fun (p:κ×V) (q:κ×Value)=>p.1=q.1∧RelV p.2 q.2
def kV:Key→V
 | .inl i=>.int i
 | .inr x=>.str x
inductive HO where
 | lst (xs:List V)
 | tup (xs:List V)
 | dK (kvs:List (Key×V)) | dT (kvs:List (List Key×V))
 | set (S:Int→Bool) (n:Nat)
 | ins (C dx:Addr) (fs:List (Str×V))
 | own (x:Addr)
 | xd (fs:List (Str×V))
 | met (f x:Addr)
 | rng (lo hi:Int)
 | frz (o:Obj) (u:HO)
 | tbl (ps:Array Value)
 | ext (φ:Heap→Prop)
abbrev Hp:=Addr→Option HO
def upd (H:Hp) (a:Addr) (o:HO):Hp:=fun b=>if b=a then some o else H b
theorem upd_same {H:Hp} {a:Addr} {o:HO}:upd H a o a=some o:=by unfold upd; rw [if_pos rfl]
theorem upd_ne {H:Hp} {a b:Addr} {o:HO} (h:b≠a):upd H a o b=H b:=by unfold upd; rw [if_neg h]
theorem ne_of_none {H:Hp} {a b:Addr} {o:HO} (h:H a=some o) (h':H b=none):a≠b:=by
 intro e; subst e; rw [h] at h'; cases h'
section
variable (P:Program) (w:World)
def ObjOk (H:Hp) (h:Heap) (a:Addr):HO→Prop
 | .lst xs=>xs.length≤sizeLine∧∃ (its:List Value) (n:Nat),Vals xs its∧h.get? a=some { cls:=.type "list",data:=.seq its.toArray n }
 | .tup xs=>xs.length≤sizeLine∧∃ its:List Value,Vals xs its∧IsTup h a its.toArray
 | .dK kvs=>kvs.length≤sizeLine∧(a == sysModules)=false∧∃ vs,KV kvs vs∧h.DictOf (mixKind P w) a vs
 | .dT kvs=>kvs.length≤sizeLine∧(a == sysModules)=false∧∃ xs:List (List Key×Addr×Value),
   Paired (fun (p:List Key×V) (q:List Key×Addr×Value)=>p.1=q.1∧H q.2.1=some (.tup (p.1.map kV))∧RelV p.2 q.2.2) kvs xs ∧
   ∃ o es ep,h.get? a=some o∧o.ExactDict∧o.data=.dict es ep∧es.toList=xs.map (entryOfKey (tupleKind (mixKind P w)))∧(xs.map (·.1)).Nodup
 | .set S n=>h.SetOf (intKind P w) a S n
 | .ins C dx fs=>H dx=some (.own a)∧fs.length≤1000∧dx≠a∧h.get? a=some (PySem.W.instObj C dx) ∧
   ∃ mA,h.Ns1 dx mA∧(∀ f,RelO (fs.lookup f) (mA f))∧PySem.Within mA (fs.map (·.1))
 | .own _=>∃ o,h.get? a=some o
 | .xd fs=>∃ mA,h.Ns1 a mA∧∀ f,RelO (fs.lookup f) (mA f)
 | .rng lo hi=>∃ t u v,h.get? a=some { cls:=.type "range",data:=.fields #[.int lo t,.int hi u,.int 1 v] }
 | .frz o u=>h.get? a=some o∧ObjOk H h a u
 | .tbl ps=>h.get? a=some { cls:=.none,data:=.fields ps }
 | .met f x=>h.get? a=some (PySem.W.methodObj (.ref f) (.ref x))
 | .ext φ=>φ h∧(∃ o,h.get? a=some o)∧∀ h1 h2:Heap,φ h1→(∀ o,h1.get? a=some o→h2.get? a=some o)→φ h2
def HOk (H:Hp) (h:Heap):Prop:=∀ a o,H a=some o→ObjOk P w H h a o
end
section
variable {P:Program} {w:World} {H H':Hp} {h h':Heap} {a:Addr} {o:HO}
theorem ObjOk.lt (x:ObjOk P w H h a o):a<h.objs.size:=by
 cases o with
 | lst xs=>obtain ⟨_,_,_,_,e⟩:=x; exact Heap.lt_size e
 | tup xs=>obtain ⟨_,_,_,p⟩:=x; exact p.lt
 | dK kvs=>obtain ⟨_,_,_,_,o,_,_,e,_⟩:=x; exact Heap.lt_size e
 | dT kvs=>obtain ⟨_,_,_,_,o,_,_,e,_⟩:=x; exact Heap.lt_size e
 | set S n=>obtain ⟨o,_,_,_,e,_⟩:=x; exact Heap.lt_size e
 | ins C dx fs=>obtain ⟨_,_,_,e,_⟩:=x; exact Heap.lt_size e
 | own y=>obtain ⟨_,e⟩:=x; exact Heap.lt_size e
 | xd fs=>obtain ⟨_,⟨_,_,_,e,_⟩,_⟩:=x; exact Heap.lt_size e
 | rng lo hi=>obtain ⟨_,_,_,e⟩:=x; exact Heap.lt_size e
 | frz ob u=>obtain ⟨e,_⟩:=x; exact Heap.lt_size e
 | tbl ps=>exact Heap.lt_size (show h.get? a=some _ from x)
 | met f y=>exact Heap.lt_size (show h.get? a=some _ from x)
 | ext φ=>obtain ⟨_,⟨_,e⟩,_⟩:=x; exact Heap.lt_size e
theorem Paired.mapP {α β:Type} {F G:α→β→Prop}:∀ {l₁:List α} {l₂:List β},Paired F l₁ l₂→(∀ a b,F a b→G a b)→Paired G l₁ l₂
 | _,_,.nil,_=>.nil
 | _,_,.cons r t,f=>.cons (f _ _ r) (Paired.mapP t f)
theorem ObjOk.stay (x:ObjOk P w H h a o) (k:∀ b u,(b=a∨H b=some (.own a))→h.get? b=some u→h'.get? b=some u)
  (ho:∀ b,H b=some (.own a)→H' b=some (.own a)) (ht:∀ b xs,H b=some (.tup xs)→H' b=some (.tup xs)):ObjOk P w H' h' a o:=by
 induction o with
 | lst xs=>obtain ⟨z,its,n,r,e⟩:=x; exact ⟨z,its,n,r,k _ _ (.inl rfl) e⟩
 | tup xs=>obtain ⟨z,its,r,ob,e,c⟩:=x; exact ⟨z,its,r,ob,k _ _ (.inl rfl) e,c⟩
 | dK kvs=>obtain ⟨z,y,vs,r,ob,es,ep,e,c⟩:=x; exact ⟨z,y,vs,r,ob,es,ep,k _ _ (.inl rfl) e,c⟩
 | dT kvs=>
  obtain ⟨z,y,xs,r,ob,es,ep,e,c⟩:=x
  exact ⟨z,y,xs,Paired.mapP r fun p q z=>⟨z.1,ht _ _ z.2.1,z.2.2⟩,ob,es,ep,k _ _ (.inl rfl) e,c⟩
 | set S n=>obtain ⟨ob,es,ep,t,e,c⟩:=x; exact ⟨ob,es,ep,t,k _ _ (.inl rfl) e,c⟩
 | ins C dx fs=>
  obtain ⟨d,z,ne,e,mA,⟨od,es,ep,e2,c⟩,r⟩:=x
  exact ⟨ho _ d,z,ne,k _ _ (.inl rfl) e,mA,⟨od,es,ep,k _ _ (.inr d) e2,c⟩,r⟩
 | own y=>obtain ⟨ob,e⟩:=x; exact ⟨ob,k _ _ (.inl rfl) e⟩
 | xd fs=>obtain ⟨mA,⟨od,es,ep,e,c⟩,r⟩:=x; exact ⟨mA,⟨od,es,ep,k _ _ (.inl rfl) e,c⟩,r⟩
 | rng lo hi=>obtain ⟨t,u,v,e⟩:=x; exact ⟨t,u,v,k _ _ (.inl rfl) e⟩
 | frz ob u ih=>obtain ⟨e,q⟩:=x; exact ⟨k _ _ (.inl rfl) e,ih q⟩
 | tbl ps=>
  have e:h.get? a=some { cls:=.none,data:=.fields ps }:=x
  show h'.get? a=some { cls:=.none,data:=.fields ps }
  exact k a _ (.inl rfl) e
 | met f y=>
  have e:h.get? a=some (PySem.W.methodObj (.ref f) (.ref y)):=x
  show h'.get? a=some (PySem.W.methodObj (.ref f) (.ref y))
  exact k a _ (.inl rfl) e
 | ext φ=>obtain ⟨p,⟨o,e⟩,st⟩:=x; exact ⟨st _ _ p fun o q=>k _ _ (.inl rfl) q,⟨o,k _ _ (.inl rfl) e⟩,st⟩
theorem HOk.lt (x:HOk P w H h) (e:H a=some o):a<h.objs.size:=(x a o e).lt
theorem HOk.fresh (x:HOk P w H h) (e:h.objs.size≤a):H a=none:=by
 cases q:H a with
 | none=>rfl
 | some u=>exact absurd (Nat.lt_of_lt_of_le (x.lt q) e) (Nat.lt_irrefl _)
theorem HOk.kept (x:HOk P w H h) (k:∀ b u,h.get? b=some u→h'.get? b=some u):HOk P w H h':=fun a o e=>
 (x a o e).stay (fun b u _ q=>k b u q) (fun _ q=>q) fun _ _ q=>q
theorem HOk.laid (x:HOk P w H h) (k:∀ b u,h.get? b=some u→h'.get? b=some u) (hp:h.objs.size≤a) (new:ObjOk P w (upd H a o) h' a o):HOk P w (upd H a o) h':=fun b u e=>by
 have hn:=x.fresh hp
 by_cases hb:b=a
 ·subst hb; rw [upd_same] at e; cases e; exact new
 ·rw [upd_ne hb] at e
  exact (x b u e).stay (fun c v _ q=>k c v q) (fun c q=>by rw [upd_ne (ne_of_none q hn)]; exact q) fun c xs q=>by rw [upd_ne (ne_of_none q hn)]; exact q
end
def Rd (H:Hp) (a:Addr) (u:HO):Prop:=H a=some u∨∃ o,H a=some (.frz o u)
theorem Rd.ok {P:Program} {w:World} {H:Hp} {h:Heap} {a:Addr} {u:HO} (r:Rd H a u) (x:HOk P w H h):ObjOk P w H h a u:=by
 rcases r with r | ⟨o,r⟩
 ·exact x a u r
 ·obtain ⟨_,q⟩:=x a _ r
  exact q
def Mut:Option HO→Prop
 | some (.lst _)=>True
 | some (.dK _)=>True
 | some (.dT _)=>True
 | some (.set _ _)=>True
 | some (.ins _ _ _)=>True
 | some (.ext _)=>True
 | _=>False
section
variable {P:Program} {w:World} {H:Hp} {h h':Heap} {x e:Addr} {o':HO}
theorem HOk.write (ok:HOk P w H h) (mu:Mut (H x)) (he:e=x∨H e=some (.own x)) (k:∀ b u,b≠e→h.get? b=some u→h'.get? b=some u) (heo:∃ u,h'.get? e=some u)
  (new:ObjOk P w (upd H x o') h' x o'):HOk P w (upd H x o') h':=fun b u q=>by
 have nown:∀ c y,H c=some (.own y)→c≠x:=fun c y r z=>by subst z; rw [r] at mu; exact mu
 have ntup:∀ c xs,H c=some (.tup xs)→c≠x:=fun c xs r z=>by subst z; rw [r] at mu; exact mu
 by_cases hb:b=x
 ·subst hb; rw [upd_same] at q; cases q; exact new
 ·rw [upd_ne hb] at q
  by_cases hbe:b=e
  ·have q':H b=some (.own x):=by
    rcases he with z | z
    ·exact absurd (hbe.trans z) hb
    ·rw [hbe]; exact z
   rw [q] at q'; cases q'
   obtain ⟨v,hv⟩:=heo
   exact ⟨v,by rw [hbe]; exact hv⟩
  ·refine (ok b u q).stay (fun c v hc r=>k c v ?_ r) (fun c r=>by rw [upd_ne (nown c b r)]; exact r) fun c xs r=>by rw [upd_ne (ntup c xs r)]; exact r
   rcases hc with rfl | hc
   ·exact hbe
   ·rintro rfl
    rcases he with z | z
    ·exact nown c b hc z
    ·rw [hc] at z; cases z; exact hb rfl
end
structure Un (fs ex:List Addr) (H H':Hp) (h h':Heap):Prop where
 keep:∀ b o,h.get? b=some o→H b=none→b∉fs→b∉ex→h'.get? b=some o
 slot:∀ b o,h.get? b=some o→H b=none→b∈fs→b∉ex→∃ sl,h'.get? b=some { o with slots:=sl }
 free:∀ b o,h.get? b=some o→H b=none→b∉ex→H' b=none
 there:∀ b o,h.get? b=some o→b∉ex→∃ o',h'.get? b=some o'
 tups:∀ b xs,H b=some (.tup xs)→H' b=some (.tup xs)
 frzs:∀ b o u,H b=some (.frz o u)→H' b=some (.frz o u)
 tbls:∀ b ps,H b=some (.tbl ps)→∃ more,H' b=some (.tbl (ps++more))
section
variable {fs fs' ex ex':List Addr} {H H1 H2:Hp} {h h1 h2 h':Heap} {a x e:Addr} {o:HO}
theorem Un.any (u:Un fs ex H H1 h h1) {b:Addr} {ob:Obj} (q:h.get? b=some ob) (n:H b=none) (hx:b∉ex):∃ sl,h1.get? b=some { ob with slots:=sl }:=by
 by_cases hb:b∈fs
 ·exact u.slot b ob q n hb hx
 ·exact ⟨ob.slots,u.keep b ob q n hb hx⟩
theorem Un.kept (k:∀ b u,h.get? b=some u→h'.get? b=some u):Un fs ex H H h h':=
 ⟨fun b ob q _ _ _=>k b ob q,fun b ob q _ _ _=>⟨ob.slots,k b ob q⟩,fun _ _ _ n _=>n,fun b ob q _=>⟨ob,k b ob q⟩,fun _ _ q=>q,fun _ _ _ q=>q,fun _ ps q=>⟨#[],by rw [q]; simp⟩⟩
theorem Un.refl:Un fs ex H H h h:=Un.kept fun _ _ q=>q
theorem Un.laid (k:∀ b u,h.get? b=some u→h'.get? b=some u) (hp:h.objs.size≤a) (hn:H a=none):Un fs ex H (upd H a o) h h' where
 keep:=fun b u q _ _ _=>k b u q
 slot:=fun b u q _ _ _=>⟨u.slots,k b u q⟩
 free:=fun b u q n _=>by rw [upd_ne (Nat.ne_of_lt (Nat.lt_of_lt_of_le (Heap.lt_size q) hp))]; exact n
 there:=fun b u q _=>⟨u,k b u q⟩
 tups:=fun b xs q=>by rw [upd_ne (ne_of_none q hn)]; exact q
 frzs:=fun b u xs q=>by rw [upd_ne (ne_of_none q hn)]; exact q
 tbls:=fun b ps q=>⟨#[],by rw [upd_ne (ne_of_none q hn),q]; simp⟩
theorem Un.write (mu:Mut (H x)) (he:e=x∨H e=some (.own x)) (k:∀ b u,b≠e→h.get? b=some u→h'.get? b=some u) (heo:∃ u,h'.get? e=some u):Un fs ex H (upd H x o) h h':=by
 have hx:∀ b,H b=none→b≠x:=fun b n z=>by subst z; rw [n] at mu; exact mu
 have hb:∀ b,H b=none→b≠e:=fun b n z=>by
  subst z
  rcases he with r | r
  ·exact hx b n r
  ·rw [n] at r; cases r
 have hm:∀ b u,H b=some u→¬ Mut (some u)→b≠x:=fun b u q nm z=>by subst z; rw [q] at mu; exact nm mu
 refine ⟨fun b u q n _ _=>k b u (hb b n) q,fun b u q n _ _=>⟨u.slots,k b u (hb b n) q⟩,fun b u q n _=>by rw [upd_ne (hx b n)]; exact n,fun b u q _=>?_,
  fun b xs q=>by rw [upd_ne (hm b _ q fun z=>z)]; exact q,fun b u xs q=>by rw [upd_ne (hm b _ q fun z=>z)]; exact q,fun b ps q=>⟨#[],by rw [upd_ne (hm b _ q fun z=>z),q]; simp⟩⟩
 by_cases hbe:b=e
 ·subst hbe; exact heo
 ·exact ⟨u,k b u hbe q⟩
end
def trk (h:Heap) (H:Hp):List Addr:=(List.range h.objs.size).filter fun a=>(H a).isSome
def hidT (h:Heap) (H:Hp):Heap:=PySem.W.hideAll h (trk h H)
theorem hidT_size (h:Heap) (H:Hp):(hidT h H).objs.size=h.objs.size:=PySem.W.hideAll_size _ _
theorem hidT_get {h:Heap} {H:Hp} {b:Addr} {o:Obj} (e:h.get? b=some o) (n:H b=none):(hidT h H).get? b=some o:=
 PySem.W.hideAll_get _ e fun hm=>by
  have q:(H b).isSome=true:=(List.mem_filter.mp hm).2
  rw [n] at q; simp at q
theorem of_hidT {h:Heap} {H:Hp} {b:Addr} {o:Obj} (e:(hidT h H).get? b=some o):h.get? b=some o∧H b=none:=by
 have e':h.get? b=some o:=PySem.W.of_hideAll (trk h H) e
 refine ⟨e',?_⟩
 cases q:H b with
 | none=>rfl
 | some x=>
  have hm:b∈trk h H:=List.mem_filter.mpr ⟨List.mem_range.mpr (Heap.lt_size e'),by simp [q]⟩
  have z:(hidT h H).get? b=none:=PySem.W.hideAll_none (trk h H) hm
  rw [z] at e; cases e
def allNews (g h:Heap) (L:Addr):List (Addr×Obj):=(List.range h.objs.size).filterMap fun a=>if a=L∨(g.get? a).isSome=true then none else (h.get? a).map fun o=>(a,o)
def rest (g h:Heap) (L d:Addr):List (Addr×Obj):=(allNews g h L).filter fun p=>decide (p.1≠d)
end L2
namespace L2
open PySem PySem.Spec PyProof.Rows
structure Mod (K:PySem.W.Frag) (mg:Str→Option Value) (base:Heap):Prop where
 kin:K.In base
 glob:base.Ns mainGlobals mg
 blt:∃ mb,base.Ns builtinsNs mb∧∀ x:Str,x ≠ "__name__" → mb x=bootBuiltins x
 nolimit:base.NoLimit
structure Cx where
 prog:Program
 w:World
 K:PySem.W.Frag
 mg:Str→Option Value
 base:Heap
 A:Around
 N:List Str
 s₀:Shared
 H₀:Hp
 env:Env
 outer:List Env
 stack:List Env
 ex:List Addr
 fn:Str→Bool
 calm:Bool
 pn:List (Addr×Obj)
 xe:Value→Shared→Prop
def frs (l:List Env):List Addr:=l.filterMap (·.frame)
abbrev Cx.fs (X:Cx):List Addr:=frs X.outer
def Vis (sc:Scope) (x:Str):Prop:=sc.names.lookup x=some .local∨sc.names.lookup x=some .cell∨sc.names.lookup x=some .free
def Loc (sc:Scope) (x:Str):Prop:=sc.names.lookup x=some .local∨sc.names.lookup x=some .cell
def Look (env:Env) (h:Heap) (m:Str→Option Value) (x:Str) (u:Value):Prop:=
 (env.kindOf x=some .local∧m x=some u)∨((env.kindOf x=some .cell∨env.kindOf x=some .free)∧∃ c,env.cells.lookup x=some c∧h.IsCell c (some u))
structure Cx.Ok (X:Cx):Prop where
 mod:Mod X.K X.mg X.base
 kind:X.env.scope.kind=.function
 glob:X.env.globals=mainGlobals
 blt:X.env.builtins=builtinsNs
 above:X.s₀.heap.objs.size≤X.env.locals
 inj:∀ x y c,X.env.cells.lookup x=some c→X.env.cells.lookup y=some c→x=y
 has:∀ x,(X.env.kindOf x=some .cell∨X.env.kindOf x=some .free)→∃ c,X.env.cells.lookup x=some c
 cab:∀ x c,X.fn x=true→X.env.cells.lookup x=some c→X.s₀.heap.objs.size≤c
 hd:X.calm=true→X.A.handled=none
 frames:X.A.frames=some X.stack
 stk:X.stack=X.outer∨(X.stack=X.env::X.outer∧X.env.frame=some X.env.locals)
 exf:∀ b∈X.ex,b≠X.env.locals∧∀ x c,X.env.cells.lookup x=some c→c≠b
 bs:∀ b o,X.base.get? b=some o→X.s₀.heap.get? b=some o∧X.H₀ b=none
 bsz:X.base.objs.size≤X.s₀.heap.objs.size
 noex:∀ b o,X.base.get? b=some o→b∉X.ex
 exfs:∀ b∈X.ex,b∉X.fs
 funs:X.s₀.heap.FunFrames X.base X.outer
 frf:∀ b∈X.fs,X.H₀ b=none
structure Inv (X:Cx) (pins:List (Addr×Obj)) (σ:List (Option V)) (H:Hp) (s:Shared):Prop where
 ok:X.Ok
 os:s.os=X.s₀.os
 bare:AllBare s.gens
 base:Un X.fs X.ex X.H₀ H X.s₀.heap s.heap
 loc:∃ m,s.heap.Ns X.env.locals m∧∀ (i:Nat) (x:Str) (v:V),X.N[i]?=some x→σ[i]?=some (some v)→Vis X.env.scope x→∃ u,RelV v u∧Look X.env s.heap m x u
 cell:∀ x c,X.env.cells.lookup x=some c→∃ v,s.heap.IsCell c v
 free:H X.env.locals=none
 freeC:∀ x c,X.env.cells.lookup x=some c→H c=none
 pin:∀ p∈X.pn++pins,s.heap.get? p.1=some p.2∧H p.1=none∧p.1≠X.env.locals∧p.1∉X.fs∧∀ v,p.2.data≠.cell v
 hok:HOk X.prog X.w H s.heap
 len:σ.length=X.N.length
section
variable {X:Cx} {pins:List (Addr×Obj)} {σ:List (Option V)} {H H':Hp} {s:Shared} {h':Heap}
theorem Cx.Ok.nofr (ok:X.Ok) {b:Addr} {o:Obj} (e:X.base.get? b=some o):b∉X.fs:=fun hb=>by
 have:=(ok.funs.mem hb).1
 rw [e] at this; cases this
theorem Inv.bs (I:Inv X pins σ H s):∀ b o,X.base.get? b=some o→s.heap.get? b=some o∧H b=none:=fun b o e=>
 ⟨I.base.keep b o (I.ok.bs b o e).1 (I.ok.bs b o e).2 (I.ok.nofr e) (I.ok.noex b o e),I.base.free b o (I.ok.bs b o e).1 (I.ok.bs b o e).2 (I.ok.noex b o e)⟩
theorem Inv.bk (I:Inv X pins σ H s):∀ b o,X.base.get? b=some o→s.heap.get? b=some o:=fun b o e=>(I.bs b o e).1
theorem Inv.mod (I:Inv X pins σ H s):Mod X.K X.mg X.base:=I.ok.mod
theorem Inv.kIn (I:Inv X pins σ H s):X.K.In s.heap:=I.ok.mod.kin.keeps I.bk
theorem Inv.fr (I:Inv X pins σ H s):∃ m,Fr X.base X.env.locals s.heap m:=
 let ⟨m,hn,_⟩:=I.loc
 ⟨m,hn,I.bk,Nat.le_trans I.ok.bsz I.ok.above⟩
theorem Inv.lt (I:Inv X pins σ H s):X.env.locals<s.heap.objs.size:=let ⟨_,hn,_⟩:=I.loc; hn.lt
theorem Inv.sz (I:Inv X pins σ H s):X.s₀.heap.objs.size≤s.heap.objs.size:=Nat.le_trans I.ok.above (Nat.le_of_lt I.lt)
theorem Inv.nofs (I:Inv X pins σ H s) {a:Addr} (h:s.heap.objs.size≤a):a∉X.fs:=fun hb=>by
 obtain ⟨_,o,ho,_⟩:=I.ok.funs.mem hb
 exact absurd (Nat.lt_of_lt_of_le (Heap.lt_size ho) (Nat.le_trans I.sz h)) (Nat.lt_irrefl _)
theorem Inv.cne (I:Inv X pins σ H s):∀ x c,X.env.cells.lookup x=some c→c≠X.env.locals:=fun x c e z=>by
 obtain ⟨v,o,ho,hd⟩:=I.cell x c e
 obtain ⟨m,⟨o',es,ep,ho',hd',_⟩,_⟩:=I.loc
 rw [z,ho'] at ho; cases ho; rw [hd'] at hd; cases hd
theorem Inv.funs (I:Inv X pins σ H s):s.heap.FunFrames X.base X.outer:=by
 have all:∀ (l:List Env),(∀ b∈frs l,b∈X.fs)→X.s₀.heap.FunFrames X.base l→s.heap.FunFrames X.base l:=by
  intro l
  induction l with
  | nil=>intro _ _; trivial
  | cons env r ih=>
   intro hs hl
   obtain ⟨hk,⟨L,o,hf,hn,ho,hd⟩,hr⟩:=hl
   have hL:L∈X.fs:=hs L (by unfold frs; rw [List.filterMap_cons,hf]; exact List.mem_cons_self)
   obtain ⟨sl,e⟩:=I.base.slot L o ho (I.ok.frf L hL) hL fun z=>I.ok.exfs L z hL
   exact ⟨hk,⟨L,_,hf,hn,e,hd⟩,ih (fun b hb=>hs b (by unfold frs; rw [List.filterMap_cons,hf]; exact List.mem_cons_of_mem _ hb)) hr⟩
 exact all X.outer (fun _ hb=>hb) I.ok.funs
theorem Inv.stack (I:Inv X pins σ H s):s.heap.FunFrames X.base X.stack:=by
 rcases I.ok.stk with e | ⟨e,hf⟩
 ·rw [e]; exact I.funs
 ·rw [e]
  obtain ⟨m,hn,_⟩:=I.loc
  refine .cons (by rw [I.ok.kind]; decide) hf hn ?_ I.funs
  exact Heap.get?_none_of_le (Nat.le_trans I.ok.bsz I.ok.above)
theorem Inv.stkSub (I:Inv X pins σ H s):∀ b∈frs X.stack,b∈X.env.locals::X.fs:=fun b hb=>by
 rcases I.ok.stk with e | ⟨e,hf⟩
 ·rw [e] at hb; exact List.mem_cons_of_mem _ hb
 ·rw [e] at hb
  unfold frs at hb
  rw [List.filterMap_cons,hf] at hb
  exact hb
theorem Inv.stkFree (I:Inv X pins σ H s):∀ b∈frs X.stack,H b=none:=fun b hb=>by
 rcases List.mem_cons.mp (I.stkSub b hb) with e | hb
 ·rw [e]; exact I.free
 ·obtain ⟨_,o,ho,_⟩:=I.ok.funs.mem hb
  exact I.base.free b o ho (I.ok.frf b hb) fun z=>I.ok.exfs b z hb
theorem Inv.step {g':Array GenState} {t':Nat} {d':Drawn} {ch:List Addr} (I:Inv X pins σ H s)
  (hch:∀ b∈ch,(b∈X.ex∨X.s₀.heap.objs.size≤b)∧b≠X.env.locals∧(∀ x c,X.env.cells.lookup x=some c→c≠b)∧∀ p∈X.pn++pins,p.1≠b)
  (keep:∀ b o,b≠X.env.locals→b∉X.fs→b∉ch→s.heap.get? b=some o→H b=none→h'.get? b=some o)
  (slot:∀ b o,b≠X.env.locals→b∈X.fs→b∉ch→s.heap.get? b=some o→H b=none→∃ sl,h'.get? b=some { o with slots:=sl }) (free:∀ b o,b∉ch→s.heap.get? b=some o→H b=none→H' b=none)
  (there:∀ b o,b∉ch→s.heap.get? b=some o→∃ o',h'.get? b=some o')
  (tups:∀ b xs,H b=some (.tup xs)→H' b=some (.tup xs)) (frzs:∀ b o u,H b=some (.frz o u)→H' b=some (.frz o u)) (tbls:∀ b ps,H b=some (.tbl ps)→∃ more,H' b=some (.tbl (ps++more)))
  (ns:∀ m,s.heap.Ns X.env.locals m→h'.Ns X.env.locals m) (hok:HOk X.prog X.w H' h') (hg:AllBare g') :
  Inv X pins σ H' { s with heap:=h',gens:=g',drawn:=d',toks:=t' }:=by
 have neL:∀ b o,X.s₀.heap.get? b=some o→b≠X.env.locals:=fun b o e=>Nat.ne_of_lt (Nat.lt_of_lt_of_le (Heap.lt_size e) I.ok.above)
 have neC:∀ b o,X.s₀.heap.get? b=some o→b∉X.ex→b∉ch:=fun b o e hx hb=>by
  rcases (hch b hb).1 with z | z
  ·exact hx z
  ·exact absurd (Nat.lt_of_lt_of_le (Heap.lt_size e) z) (Nat.lt_irrefl _)
 have cellK:∀ x c,X.env.cells.lookup x=some c→∀ v,s.heap.IsCell c v→h'.IsCell c v:=fun x c e v ⟨o,ho,hd⟩=>by
  have nch:c∉ch:=fun z=>(hch c z).2.2.1 x c e rfl
  by_cases hc:c∈X.fs
  ·obtain ⟨sl,q⟩:=slot c o (I.cne x c e) hc nch ho (I.freeC x c e)
   exact ⟨_,q,hd⟩
  ·exact ⟨o,keep c o (I.cne x c e) hc nch ho (I.freeC x c e),hd⟩
 refine ⟨I.ok,I.os,hg,⟨fun b o e n hb hx=>?_,fun b o e n hb hx=>?_,fun b o e n hx=>?_,fun b o e hx=>?_,fun b xs e=>tups b xs (I.base.tups b xs e),fun b o xs e=>frzs b o xs (I.base.frzs b o xs e),fun b ps e=>?_⟩,?_,fun x c e=>?_,?_,fun x c e=>?_,fun p hp=>?_,hok,I.len⟩
 ·exact keep b o (neL b o e) hb (neC b o e hx) (I.base.keep b o e n hb hx) (I.base.free b o e n hx)
 ·obtain ⟨sl,e1⟩:=I.base.slot b o e n hb hx
  obtain ⟨sl',e2⟩:=slot b _ (neL b o e) hb (neC b o e hx) e1 (I.base.free b o e n hx)
  exact ⟨sl',e2⟩
 ·obtain ⟨o',e1⟩:=I.base.there b o e hx
  exact free b o' (neC b o e hx) e1 (I.base.free b o e n hx)
 ·obtain ⟨o',e1⟩:=I.base.there b o e hx
  exact there b o' (neC b o e hx) e1
 ·obtain ⟨m1,e1⟩:=I.base.tbls b ps e
  obtain ⟨m2,e2⟩:=tbls b _ e1
  exact ⟨m1++m2,by rw [e2,Array.append_assoc]⟩
 ·obtain ⟨m,hn,hl⟩:=I.loc
  refine ⟨m,ns m hn,fun i x v e1 e2 e3=>?_⟩
  obtain ⟨u,r,l⟩:=hl i x v e1 e2 e3
  refine ⟨u,r,?_⟩
  rcases l with l | ⟨k,c,e,z⟩
  ·exact .inl l
  ·exact .inr ⟨k,c,e,cellK x c e _ z⟩
 ·obtain ⟨v,z⟩:=I.cell x c e
  exact ⟨v,cellK x c e v z⟩
 ·obtain ⟨m,⟨o,_,_,ho,_⟩,_⟩:=I.loc
  exact free _ o (fun z=>(hch _ z).2.1 rfl) ho I.free
 ·obtain ⟨v,o,ho,hd⟩:=I.cell x c e
  exact free c o (fun z=>(hch c z).2.2.1 x c e rfl) ho (I.freeC x c e)
 ·obtain ⟨e,n,ne,nf,d⟩:=I.pin p hp
  have nch:p.1∉ch:=fun z=>(hch p.1 z).2.2.2 p hp rfl
  exact ⟨keep p.1 p.2 ne nf nch e n,free p.1 p.2 nch e n,ne,nf,d⟩
theorem Inv.un {t':Nat} (I:Inv X pins σ H s) (u:Un X.fs [] H H' s.heap h') (hok:HOk X.prog X.w H' h'):Inv X pins σ H' { s with heap:=h',toks:=t' }:=by
 obtain ⟨m,⟨o,es,ep,ho,r⟩,_⟩:=id I.loc
 obtain ⟨sl,hL⟩:=u.any ho I.free (by simp)
 exact I.step (g':=s.gens) (d':=s.drawn) (ch:=[]) (fun _ z=>nomatch z) (fun b o _ hb _ e n=>u.keep b o e n hb (by simp)) (fun b o _ hb _ e n=>u.slot b o e n hb (by simp)) (fun b o _ e n=>u.free b o e n (by simp)) (fun b o _ e=>u.there b o e (by simp)) u.tups u.frzs u.tbls (fun m' hm=>by
  obtain ⟨o',es',ep',ho',r'⟩:=hm
  rw [ho] at ho'; cases ho'
  exact ⟨_,es',ep',hL,r'⟩) hok I.bare
theorem Inv.call {g':Array GenState} {t':Nat} {d':Drawn} {ch:List Addr} (I:Inv X pins σ H s) (u:Un (frs X.stack) ch H H' s.heap h') (hok:HOk X.prog X.w H' h') (hg:AllBare g')
  (hch:∀ b∈ch,(b∈X.ex∨X.s₀.heap.objs.size≤b)∧b≠X.env.locals∧(∀ x c,X.env.cells.lookup x=some c→c≠b)∧∀ p∈X.pn++pins,p.1≠b) :
  Inv X pins σ H' { s with heap:=h',gens:=g',drawn:=d',toks:=t' }:=by
 obtain ⟨m,⟨o,es,ep,ho,r⟩,_⟩:=id I.loc
 obtain ⟨sl,hL⟩:=u.any ho I.free fun z=>(hch _ z).2.1 rfl
 exact I.step (ch:=ch) hch (fun b o hL hb hc e n=>u.keep b o e n (fun z=>(List.mem_cons.mp (I.stkSub b z)).elim hL hb) hc) (fun b o _ _ hc e n=>u.any e n hc) (fun b o hc e n=>u.free b o e n hc) (fun b o hc e=>u.there b o e hc) u.tups u.frzs u.tbls (fun m' hm=>by
  obtain ⟨o',es',ep',ho',r'⟩:=hm
  rw [ho] at ho'; cases ho'
  exact ⟨_,es',ep',hL,r'⟩) hok hg
theorem Inv.turned {t':Nat} {it:Addr} (I:Inv X pins σ H s) (k:∀ b o,b≠it→s.heap.get? b=some o→h'.get? b=some o) (hn:H it=none) (hL:it≠X.env.locals)
  (h1:it∈X.ex∨X.s₀.heap.objs.size≤it) (h2:∀ x c,X.env.cells.lookup x=some c→c≠it) (h3:∀ p∈X.pn++pins,p.1≠it):Inv X pins σ H { s with heap:=h',toks:=t' }:=by
 have nit:∀ b u,H b=some u→b≠it:=fun b u e z=>by rw [z,hn] at e; cases e
 refine I.step (g':=s.gens) (d':=s.drawn) (ch:=[it]) (fun b hb=>?_) (fun b o _ _ hc e _=>k b o (fun z=>hc (by simp [z])) e) (fun b o _ _ hc e _=>⟨o.slots,k b o (fun z=>hc (by simp [z])) e⟩) (fun _ _ _ _ n=>n)
  (fun b o hc e=>⟨o,k b o (fun z=>hc (by simp [z])) e⟩) (fun _ _ e=>e) (fun _ _ _ e=>e) (fun b ps e=>⟨#[],by rw [e]; simp⟩) (fun m hm=>?_) (fun b u e=>?_) I.bare
 ·have e:b=it:=by simpa using hb
  subst e
  exact ⟨h1,hL,h2,h3⟩
 ·obtain ⟨o,es,ep,ho,r⟩:=hm
  exact ⟨o,es,ep,k _ o (Ne.symm hL) ho,r⟩
 ·refine (I.hok b u e).stay (fun c v hc q=>k c v ?_ q) (fun _ q=>q) fun _ _ q=>q
  rcases hc with z | z
  ·rw [z]; exact nit b u e
  ·exact nit c _ z
theorem Inv.tok (I:Inv X pins σ H s) (t:Nat):Inv X pins σ H { s with toks:=t }:=I.un (h':=s.heap) (t':=t) Un.refl I.hok
theorem Inv.kept {t':Nat} (I:Inv X pins σ H s) (k:∀ b u,s.heap.get? b=some u→h'.get? b=some u):Inv X pins σ H { s with heap:=h',toks:=t' }:=I.un (Un.kept k) (I.hok.kept k)
theorem Inv.laid {a:Addr} {o:HO} {t':Nat} (I:Inv X pins σ H s) (k:∀ b u,s.heap.get? b=some u→h'.get? b=some u) (hp:s.heap.objs.size≤a) (new:ObjOk X.prog X.w (upd H a o) h' a o) :
  Inv X pins σ (upd H a o) { s with heap:=h',toks:=t' }:=I.un (Un.laid k hp (I.hok.fresh hp)) (I.hok.laid k hp new)
theorem Inv.write {x e:Addr} {o:HO} {t':Nat} (I:Inv X pins σ H s) (mu:Mut (H x)) (he:e=x∨H e=some (.own x)) (k:∀ b u,b≠e→s.heap.get? b=some u→h'.get? b=some u) (heo:∃ u,h'.get? e=some u)
  (new:ObjOk X.prog X.w (upd H x o) h' x o):Inv X pins σ (upd H x o) { s with heap:=h',toks:=t' }:=I.un (Un.write mu he k heo) (I.hok.write mu he k heo new)
theorem Inv.weak {σ':List (Option V)} (I:Inv X pins σ H s) (hl:σ'.length=σ.length) (w:∀ (i:Nat) v,σ'[i]?=some (some v)→σ[i]?=some (some v)):Inv X pins σ' H s:=
 ⟨I.ok,I.os,I.bare,I.base,let ⟨m,hn,hl'⟩:=I.loc; ⟨m,hn,fun i x v e1 e2 e3=>hl' i x v e1 (w i v e2) e3⟩,I.cell,I.free,I.freeC,I.pin,I.hok,hl.trans I.len⟩
theorem Inv.pins_of {pins':List (Addr×Obj)} (I:Inv X pins σ H s) (h:∀ p∈pins',s.heap.get? p.1=some p.2∧H p.1=none∧p.1≠X.env.locals∧p.1∉X.fs∧∀ v,p.2.data≠.cell v):Inv X pins' σ H s:=
 ⟨I.ok,I.os,I.bare,I.base,I.loc,I.cell,I.free,I.freeC,fun p hp=>(List.mem_append.mp hp).elim (fun z=>I.pin p (List.mem_append_left _ z)) (h p),I.hok,I.len⟩
theorem nodup_ix {N:List Str} (hN:N.Nodup) {i j:Nat} {x:Str} (a:N[i]?=some x) (b:N[j]?=some x):i=j:=by
 obtain ⟨h1,e1⟩:=List.getElem?_eq_some_iff.mp a
 obtain ⟨h2,e2⟩:=List.getElem?_eq_some_iff.mp b
 exact (List.getElem_inj hN).mp (e1.trans e2.symm)
theorem store_ok2 {M:Model} {A:Around} {E:Value→Shared→Prop} {i:Nat} {x:Str} {v:V} {u:Value} {Q:Unit→Shared→Prop} (I:Inv X pins σ H s) (hN:X.N.Nodup) (hi:X.N[i]?=some x) (hx:Loc X.env.scope x) (r:RelV v u)
  (h:∀ s',Inv X pins (σ.set i (some v)) H s'→(∃ a,Heap.SameBut a s.heap s'.heap∧(a=X.env.locals∨X.env.cells.lookup x=some a))→Q () s') (hf:X.fn x=true∨X.env.scope.names.lookup x=some .local:=by first | exact .inl rfl | exact .inr rfl | assumption):wpAny M A (storeName X.env x u) Q E s:=by
 obtain ⟨m,hn,hl⟩:=id I.loc
 have hcls:(X.env.scope.kind == .class||(X.env.scope.kind == .module&&X.env.locals != X.env.globals))=false:=by rw [I.ok.kind]; rfl
 have hiσ:i<σ.length:=by rw [I.len]; exact (List.getElem?_eq_some_iff.mp hi).1
 have cne:=I.cne
 have tracked:∀ {a:Addr} {h':Heap},(∃ o,s.heap.get? a=some o∧H a=none)→Heap.SameBut a s.heap h'→HOk X.prog X.w H h':=fun {a h'} ha hs b ob e=>by
  obtain ⟨_,_,hfree⟩:=ha
  refine (I.hok b ob e).stay (fun c w' hc q=>(hs.2 c ?_).trans q) (fun _ q=>q) fun _ _ q=>q
  rintro rfl
  rcases hc with rfl | hc
  ·rw [hfree] at e; cases e
  ·rw [hfree] at hc; cases hc
 rcases hx with hk | hk
 ·refine wpAny_storeName_local hk hn (fun h' hn' hs=>?_) hcls
  obtain ⟨oL,_,_,hoL,_⟩:=id hn
  refine h _ ⟨I.ok,I.os,I.bare,⟨fun b o e n hb hx=>?_,fun b o e n hb hx=>?_,I.base.free,fun b o e hx=>?_,I.base.tups,I.base.frzs,I.base.tbls⟩,⟨_,hn',fun j y v' e1 e2 e3=>?_⟩,fun y c e=>?_,I.free,I.freeC,fun p hp=>?_,tracked ⟨oL,hoL,I.free⟩ hs,by simpa using I.len⟩ ⟨_,hs,.inl rfl⟩
  ·exact (hs.2 b (Nat.ne_of_lt (Nat.lt_of_lt_of_le (Heap.lt_size e) I.ok.above))).trans (I.base.keep b o e n hb hx)
  ·obtain ⟨sl,e1⟩:=I.base.slot b o e n hb hx
   exact ⟨sl,(hs.2 b (Nat.ne_of_lt (Nat.lt_of_lt_of_le (Heap.lt_size e) I.ok.above))).trans e1⟩
  ·obtain ⟨o',e1⟩:=I.base.there b o e hx
   exact ⟨o',(hs.2 b (Nat.ne_of_lt (Nat.lt_of_lt_of_le (Heap.lt_size e) I.ok.above))).trans e1⟩
  ·by_cases hj:j=i
   ·subst hj
    rw [hi] at e1; cases e1
    rw [List.getElem?_set_self hiσ] at e2
    cases e2
    exact ⟨u,r,.inl ⟨hk,by simp⟩⟩
   ·rw [List.getElem?_set_ne (Ne.symm hj)] at e2
    obtain ⟨u',r',q⟩:=hl j y v' e1 e2 e3
    refine ⟨u',r',?_⟩
    rcases q with ⟨k,e⟩ | ⟨k,c,e,z⟩
    ·refine .inl ⟨k,?_⟩
     have:y≠x:=fun e=>hj (nodup_ix hN e1 (e ▸ hi))
     simp [this,e]
    ·exact .inr ⟨k,c,e,z.sameBut hs (cne y c e)⟩
  ·obtain ⟨w',z⟩:=I.cell y c e
   exact ⟨w',z.sameBut hs (cne y c e)⟩
  ·obtain ⟨e,n,ne,nf,d⟩:=I.pin p hp
   exact ⟨(hs.2 p.1 ne).trans e,n,ne,nf,d⟩
 ·have hfn:X.fn x=true:=by
   rcases hf with z | z
   ·exact z
   ·rw [z] at hk; cases hk
  obtain ⟨c,hc⟩:=I.ok.has x (.inl hk)
  obtain ⟨w',z⟩:=I.cell x c hc
  refine wpAny_storeName_cell I.ok.kind hk hc z (fun h' hc' hs=>?_)
  obtain ⟨oc,hoc,hocd⟩:=id z
  refine h { s with heap:=h' } ⟨I.ok,I.os,I.bare,⟨fun b o e n hb hx=>?_,fun b o e n hb hx=>?_,I.base.free,fun b o e hx=>?_,I.base.tups,I.base.frzs,I.base.tbls⟩,⟨m,hn.sameBut hs (Ne.symm (cne x c hc)),fun j y v' e1 e2 e3=>?_⟩,fun y c' e=>?_,I.free,I.freeC,fun p hp=>?_,tracked ⟨oc,hoc,I.freeC x c hc⟩ hs,by simpa using I.len⟩ ⟨c,hs,.inr hc⟩
  ·exact (hs.2 b (Nat.ne_of_lt (Nat.lt_of_lt_of_le (Heap.lt_size e) (I.ok.cab x c hfn hc)))).trans (I.base.keep b o e n hb hx)
  ·obtain ⟨sl,e1⟩:=I.base.slot b o e n hb hx
   exact ⟨sl,(hs.2 b (Nat.ne_of_lt (Nat.lt_of_lt_of_le (Heap.lt_size e) (I.ok.cab x c hfn hc)))).trans e1⟩
  ·obtain ⟨o',e1⟩:=I.base.there b o e hx
   exact ⟨o',(hs.2 b (Nat.ne_of_lt (Nat.lt_of_lt_of_le (Heap.lt_size e) (I.ok.cab x c hfn hc)))).trans e1⟩
  ·by_cases hj:j=i
   ·subst hj
    rw [hi] at e1; cases e1
    rw [List.getElem?_set_self hiσ] at e2
    cases e2
    exact ⟨u,r,.inr ⟨.inl hk,c,hc,hc'⟩⟩
   ·rw [List.getElem?_set_ne (Ne.symm hj)] at e2
    obtain ⟨u',r',q⟩:=hl j y v' e1 e2 e3
    refine ⟨u',r',?_⟩
    rcases q with q | ⟨k,c',e,z'⟩
    ·exact .inl q
    ·refine .inr ⟨k,c',e,z'.sameBut hs ?_⟩
     rintro rfl
     exact hj (nodup_ix hN e1 (I.ok.inj _ _ _ e hc ▸ hi))
  ·by_cases hcc:c'=c
   ·subst hcc; exact ⟨_,hc'⟩
   ·obtain ⟨w2,z2⟩:=I.cell y c' e
    exact ⟨w2,z2.sameBut hs hcc⟩
  ·obtain ⟨e,n,ne,nf,d⟩:=I.pin p hp
   refine ⟨(hs.2 p.1 ?_).trans e,n,ne,nf,d⟩
   intro q
   rw [q,hoc] at e
   have q':oc=p.2:=Option.some.inj e
   exact d w' (by rw [← q']; exact hocd)
theorem store_ok {M:Model} {A:Around} {E:Value→Shared→Prop} {i:Nat} {x:Str} {v:V} {u:Value} {Q:Unit→Shared→Prop} (I:Inv X pins σ H s) (hN:X.N.Nodup) (hi:X.N[i]?=some x) (hx:Loc X.env.scope x) (r:RelV v u)
  (h:∀ s',Inv X pins (σ.set i (some v)) H s'→Q () s') (hf:X.fn x=true∨X.env.scope.names.lookup x=some .local:=by first | exact .inl rfl | exact .inr rfl | assumption):wpAny M A (storeName X.env x u) Q E s:=
 store_ok2 I hN hi hx r (fun s' I' _=>h s' I') hf
theorem Inv.call' {s':Shared} {ch:List Addr} (I:Inv X pins σ H s) (ho:s'.os=s.os) (u:Un (frs X.stack) ch H H' s.heap s'.heap) (hok:HOk X.prog X.w H' s'.heap) (hg:AllBare s'.gens)
  (hch:∀ b∈ch,(b∈X.ex∨X.s₀.heap.objs.size≤b)∧b≠X.env.locals∧(∀ x c,X.env.cells.lookup x=some c→c≠b)∧∀ p∈X.pn++pins,p.1≠b):Inv X pins σ H' s':=by
 obtain ⟨h',g',d',t',o'⟩:=s'
 have e:o'=s.os:=ho
 subst e
 exact I.call (g':=g') (t':=t') (d':=d') u hok hg hch
end
abbrev XK:=Value→Option Addr→Hp→Prop
abbrev St:=List (Option V)
abbrev VK:=V→Hp→Prop
abbrev TE:=St→Hp→VK→Prop
abbrev TT:=St→Hp→(Bool→Hp→Prop)→Prop
abbrev TA:=St→Hp→(List V→Hp→Prop)→Prop
structure Ends where
 nx:St→Hp→Prop
 rt:VK
 bk:St→Hp→Prop:=fun _ _=>False
 ct:St→Hp→Prop:=fun _ _=>False
abbrev TS:=Ends→St→Hp→Prop
def EP (X:Cx) (pins:List (Addr×Obj)) (σ:St) (Q:VK) (u:Value) (s':Shared):Prop:=∃ v H',Inv X pins σ H' s'∧RelV v u∧Q v H'
def TP (X:Cx) (pins:List (Addr×Obj)) (σ:St) (Q:Bool→Hp→Prop) (b:Bool) (s':Shared):Prop:=∃ H',Inv X pins σ H' s'∧Q b H'
def AP (X:Cx) (pins:List (Addr×Obj)) (σ:St) (Q:List V→Hp→Prop) (us:List Value) (s':Shared):Prop:=∃ vs H',Inv X pins σ H' s'∧Vals vs us∧Q vs H'
def SP (X:Cx) (pins:List (Addr×Obj)) (D:Ends) (f:Flow) (s':Shared):Prop:=
 match f with
 | .next=>∃ σ' H',Inv X pins σ' H' s'∧D.nx σ' H'
 | .brk=>∃ σ' H',Inv X pins σ' H' s'∧D.bk σ' H'
 | .cont=>∃ σ' H',Inv X pins σ' H' s'∧D.ct σ' H'
 | .ret u=>∃ v σ' H',Inv X pins σ' H' s'∧RelV v u∧D.rt v H'
def PE (X:Cx) (e:Expr) (t:TE):Prop:=
 ∀ (pins:List (Addr×Obj)) (s:Shared) (σ:St) (H:Hp) (Q:VK),Inv X pins σ H s→t σ H Q→wpAny (model X.prog X.w) X.A (eval e X.env) (EP X pins σ Q) X.xe s
def PT (X:Cx) (e:Expr) (t:TT):Prop:=
 ∀ (pins:List (Addr×Obj)) (s:Shared) (σ:St) (H:Hp) (Q:Bool→Hp→Prop),Inv X pins σ H s→t σ H Q→wpAny (model X.prog X.w) X.A (isTrue e X.env (eval e X.env)) (TP X pins σ Q) X.xe s
def PW (X:Cx) (e:Expr) (t:TT):Prop:=
 ∀ (whole:Sem Value) (pins:List (Addr×Obj)) (s:Shared) (σ:St) (H:Hp) (Q:Bool→Hp→Prop),Inv X pins σ H s→t σ H Q→wpAny (model X.prog X.w) X.A (isTrue e X.env whole) (TP X pins σ Q) X.xe s
theorem PW.pt {X:Cx} {e:Expr} {t:TT} (h:PW X e t):PT X e t:=h _
def PA (X:Cx) (es:List Expr) (t:TA):Prop:=
 ∀ (pos:Pos) (pins:List (Addr×Obj)) (s:Shared) (σ:St) (H:Hp) (Q:List V→Hp→Prop),Inv X pins σ H s→t σ H Q→wpAny (model X.prog X.w) X.A (spliced (backTo pos (starEach es X.env))) (AP X pins σ Q) X.xe s
def PS (X:Cx) (st:Stmt) (t:TS):Prop:=
 ∀ (pins:List (Addr×Obj)) (s:Shared) (σ:St) (H:Hp) (D:Ends),Inv X pins σ H s→t D σ H→wpAny (model X.prog X.w) X.A (exec st X.env) (SP X pins D) X.xe s
def PSs (X:Cx) (st:List Stmt) (t:TS):Prop:=
 ∀ (pins:List (Addr×Obj)) (s:Shared) (σ:St) (H:Hp) (D:Ends),Inv X pins σ H s→t D σ H→wpAny (model X.prog X.w) X.A (execs st X.env) (SP X pins D) X.xe s
theorem thn {α:Type} {t:Sem α} {Q Q':α→Shared→Prop} {M:Model} {A:Around} {E:Value→Shared→Prop} {s:Shared} (h:wpAny M A t Q E s) (hQ:∀ a s,Q a s→Q' a s):wpAny M A t Q' E s:=wpAny_mono h hQ fun _ _ x=>x
end L2
namespace L2
open PySem PySem.Spec PyProof.Rows
section
variable {X:Cx}
def tVar (i:Nat):TE:=fun σ H Q=>∃ v,σ[i]?=some (some v)∧Q v H
def tC (v:V):TE:=fun _ H Q=>Q v H
theorem pe_var {i:Nat} {x:Str} {pos:Pos} (hN:X.N[i]?=some x) (hv:Vis X.env.scope x) (hd:(x == ("__debug__" : Str))=false:=by decide) (hcd:(x == ("__classdict__" : Str))=false:=by decide):PE X (.Name x pos) (tVar i):=by
 intro pins s σ H Q I h
 obtain ⟨v,e,h⟩:=h
 obtain ⟨m,hn,hl⟩:=I.loc
 obtain ⟨u,r,l⟩:=hl i x v hN e hv
 have fin:EP X pins σ Q u s:=⟨v,H,I,r,h⟩
 rcases l with ⟨hk,hm⟩ | ⟨hk,c,hc,hcell⟩
 ·exact wpAny_Name (wpAny_loadName_local I.ok.kind hk hn hm fin) hd
 ·rcases hk with hk | hk
  ·exact wpAny_Name (wpAny_loadName_cell I.ok.kind hk hc hcell fin) hd
  ·exact wpAny_Name (wpAny_loadName_free I.ok.kind hk hc hcell fin hcd) hd
theorem pe_int {i j pos}:PE X (.Constant (.int i) j pos) (tC (.int i)):=fun _ _ _ H _ I h=>wpAny_Constant_int ⟨.int i,H,I.tok _,⟨_,rfl⟩,h⟩
theorem pe_bl {b j pos}:PE X (.Constant (.bool b) j pos) (tC (.bl b)):=fun _ _ _ H _ I h=>Constant_bool ⟨.bl b,H,I,rfl,h⟩
theorem pe_non {j pos}:PE X (.Constant .none j pos) (tC .non):=fun _ _ _ H _ I h=>Constant_none ⟨.non,H,I,rfl,h⟩
theorem pe_str {x j pos}:PE X (.Constant (.str x) j pos) (tC (.str x)):=fun _ _ _ H _ I h=>Calls.Constant_str ⟨.str x,H,I.tok _,⟨_,rfl⟩,h⟩
def Gl (X:Cx) (x:Str):Prop:=X.env.kindOf x=some .globalImplicit
theorem ld_glob {E:Value→Shared→Prop} {pins:List (Addr×Obj)} {s:Shared} {σ:St} {H:Hp} {x:Str} {u:Value} {pos:Pos} {Q:Value→Shared→Prop} (I:Inv X pins σ H s) (hg:Gl X x) (hm:X.mg x=some u) (h:Q u s)
  (hd:(x == ("__debug__" : Str))=false:=by decide):wpAny (model X.prog X.w) X.A (eval (.Name x pos) X.env) Q E s:=
 Calls.Name_function_global I.ok.kind hg (Calls.loadGlobal_global (by rw [I.ok.glob]; exact I.mod.glob.keeps I.bk) hm h) hd
theorem ld_blt {E:Value→Shared→Prop} {pins:List (Addr×Obj)} {s:Shared} {σ:St} {H:Hp} {x:Str} {u:Value} {pos:Pos} {Q:Value→Shared→Prop} (I:Inv X pins σ H s) (hg:Gl X x) (hm:X.mg x=none) (hv:bootBuiltins x=some u) (h:Q u s)
  (hn:x ≠ "__name__" := by decide) (hd:(x == ("__debug__" : Str))=false:=by decide):wpAny (model X.prog X.w) X.A (eval (.Name x pos) X.env) Q E s:=by
 obtain ⟨mb,h1,h2⟩:=I.mod.blt
 exact Calls.Name_function_global I.ok.kind hg (Calls.loadGlobal_builtin (by rw [I.ok.glob]; exact I.mod.glob.keeps I.bk) hm (by rw [I.ok.blt]; exact h1.keeps I.bk) ((h2 x hn).trans hv) h) hd
variable {a b:Expr} {ta tb:TE} {pos:Pos}
def tB (t:TE):TT:=fun σ H Q=>t σ H fun x H1=>∃ c,x=.bl c∧Q c H1
theorem pt_val {e:Expr} {t:TE} (h:PE X e t) (he:∀ whole,isTrue e X.env whole=(do let v ← whole; standAt e.pos; holding [v] (truthy v)):=by intro _; rfl):PT X e (tB t):=by
 intro pins s σ H Q I hw
 refine isTrue_plain (thn (h pins s σ H _ I hw) fun v s1 ⟨x,H1,I1,r1,q1⟩=>?_) (he _)
 obtain ⟨d,rfl,q⟩:=q1
 cases r1
 exact wpAny_truthy_bool ⟨H1,I1,q⟩
variable {tA tB':TT} {rest:List Expr}
def tAnd (t u:TT):TT:=fun σ H Q=>t σ H fun c H1=>if c=true then u σ H1 Q else Q false H1
def tOr (t u:TT):TT:=fun σ H Q=>t σ H fun c H1=>if c=true then Q true H1 else u σ H1 Q
def tNot (t:TT):TT:=fun σ H Q=>t σ H fun c H1=>Q (!c) H1
theorem pw_and1 (ha:PT X a tA):PW X (.BoolOp .And [a] pos) tA:=by
 intro wh pins s σ H Q I h
 refine isTrue_and (thn (ha pins s σ H Q I h) fun c s1 e=>?_)
 cases c with
 | true=>exact isTrue_and_nil e
 | false=>exact e
theorem pw_or1 (ha:PT X a tA):PW X (.BoolOp .Or [a] pos) tA:=by
 intro wh pins s σ H Q I h
 refine isTrue_or (thn (ha pins s σ H Q I h) fun c s1 e=>?_)
 cases c with
 | false=>exact isTrue_or_nil e
 | true=>exact e
theorem pw_and (ha:PT X a tA) (hb:PW X (.BoolOp .And (b::rest) pos) tB'):PW X (.BoolOp .And (a::b::rest) pos) (tAnd tA tB'):=by
 intro wh pins s σ H Q I h
 refine isTrue_and (thn (ha pins s σ H _ I h) fun c s1 ⟨H1,I1,q1⟩=>?_)
 cases c with
 | true=>exact hb wh pins s1 σ H1 Q I1 q1
 | false=>exact ⟨H1,I1,q1⟩
theorem pw_or (ha:PT X a tA) (hb:PW X (.BoolOp .Or (b::rest) pos) tB'):PW X (.BoolOp .Or (a::b::rest) pos) (tOr tA tB'):=by
 intro wh pins s σ H Q I h
 refine isTrue_or (thn (ha pins s σ H _ I h) fun c s1 ⟨H1,I1,q1⟩=>?_)
 cases c with
 | true=>exact ⟨H1,I1,q1⟩
 | false=>exact hb wh pins s1 σ H1 Q I1 q1
theorem pt_not (ha:PT X a tA):PT X (.UnaryOp .Not a pos) (tNot tA):=by
 intro pins s σ H Q I h
 exact isTrue_not (ha pins s σ H (fun c H1=>Q (!c) H1) I h)
end
end L2
namespace L2
open PySem PySem.Spec PyProof.Rows
def SqL (K:PySem.W.Frag) (H:Hp) (a:Addr) (xs:List V):Prop:=
 Rd H a (.lst xs) ∨
  ∃ (o:Obj) (its:Array Value) (n:Nat),K.lookup a=some o∧o.cls=.type "list" ∧ o.dict=none∧o.data=.seq its n∧its.size≤sizeLine∧Vals xs its.toList
def SqT (K:PySem.W.Frag) (H:Hp) (a:Addr) (xs:List V):Prop:=
 Rd H a (.tup xs) ∨
  ∃ (o:Obj) (its:Array Value) (n:Nat),K.lookup a=some o∧o.cls=.type "tuple" ∧ o.data=.seq its n∧its.size≤sizeLine∧Vals xs its.toList
def absV:Value→Option V
 | .none=>some .non
 | .bool b=>some (.bl b)
 | .int i _=>some (.int i)
 | .str x _=>some (.str x)
 | .bytes b _=>some (.byt b)
 | .float b _=>some (.flt b)
 | .ref a=>some (.ref a)
 | .type n=>some (.ty n)
 | _=>none
theorem RelV.abs {x:V} {u:Value} (r:RelV x u):absV u=some x:=by
 cases x with
 | non=>cases r; rfl
 | bl _=>cases r; rfl
 | int _=>obtain ⟨t,rfl⟩:=r; rfl
 | str _=>obtain ⟨t,rfl⟩:=r; rfl
 | byt _=>obtain ⟨t,rfl⟩:=r; rfl
 | flt _=>obtain ⟨t,rfl⟩:=r; rfl
 | ref _=>cases r; rfl
 | ty _=>cases r; rfl
theorem RelV.inj {x y:V} {u:Value} (r:RelV x u) (q:RelV y u):x=y:=Option.some.inj (r.abs.symm.trans q.abs)
theorem Vals.inj:∀ {xs ys:List V} {us:List Value},Vals xs us→Vals ys us→xs=ys
 | _,_,_,.nil,.nil=>rfl
 | _,_,_,.cons r t,.cons r' t'=>by rw [r.inj r',Vals.inj t t']
section
variable {X:Cx} {pins:List (Addr×Obj)} {σ:St} {H:Hp} {s:Shared} {a:Addr} {xs ys:List V}
theorem SqL.of {K:PySem.W.Frag} (h:H a=some (.lst xs)):SqL K H a xs:=.inl (.inl h)
theorem SqT.of {K:PySem.W.Frag} (h:H a=some (.tup xs)):SqT K H a xs:=.inl (.inl h)
theorem Inv.list (I:Inv X pins σ H s) (h:SqL X.K H a xs):∃ its:List Value,Vals xs its∧PlainL s.heap a its.toArray∧xs.length≤sizeLine:=by
 rcases h with h | ⟨o,its,n,hk,hc,hd,hs,hz,r⟩
 ·obtain ⟨z,its,n,r,e⟩:=h.ok I.hok
  exact ⟨its,r,⟨_,n,e,rfl,rfl,rfl⟩,z⟩
 ·refine ⟨its.toList,r,⟨o,n,I.kIn a o hk,hc,hd,by simpa using hs⟩,?_⟩
  have e:=r.length
  simp only [Array.length_toList] at e
  omega
theorem Inv.tuple (I:Inv X pins σ H s) (h:SqT X.K H a xs):∃ its:List Value,Vals xs its∧IsTup s.heap a its.toArray∧xs.length≤sizeLine:=by
 rcases h with h | ⟨o,its,n,hk,hc,hs,hz,r⟩
 ·obtain ⟨z,its,r,p⟩:=h.ok I.hok
  exact ⟨its,r,p,z⟩
 ·refine ⟨its.toList,r,⟨o,I.kIn a o hk,hc,n,by simpa using hs⟩,?_⟩
  have e:=r.length
  simp only [Array.length_toList] at e
  omega
theorem Inv.list_inj (I:Inv X pins σ H s) (h:SqL X.K H a xs) (h':SqL X.K H a ys):xs=ys:=by
 obtain ⟨its,r,⟨o,n,e,_,_,d⟩,_⟩:=I.list h
 obtain ⟨its',r',⟨o',n',e',_,_,d'⟩,_⟩:=I.list h'
 rw [e] at e'; cases e'
 rw [d] at d'
 injection d' with d1 _
 have:its=its':=by simpa using congrArg Array.toList d1
 subst this
 exact r.inj r'
theorem Inv.tuple_inj (I:Inv X pins σ H s) (h:SqT X.K H a xs) (h':SqT X.K H a ys):xs=ys:=by
 obtain ⟨its,r,⟨o,e,_,n,d⟩,_⟩:=I.tuple h
 obtain ⟨its',r',⟨o',e',_,n',d'⟩,_⟩:=I.tuple h'
 rw [e] at e'; cases e'
 rw [d] at d'
 injection d' with d1 _
 have:its=its':=by simpa using congrArg Array.toList d1
 subst this
 exact r.inj r'
end
abbrev Cx.wish (X:Cx) (E:Value→Shared→Prop):Cx:={ X with xe:=E }
abbrev Cx.nox (X:Cx):Cx:=X.wish fun _ _=>False
theorem Cx.Ok.wish {X:Cx} (ok:X.Ok) (E:Value→Shared→Prop):(X.wish E).Ok:=
 ⟨ok.mod,ok.kind,ok.glob,ok.blt,ok.above,ok.inj,ok.has,ok.cab,ok.hd,ok.frames,ok.stk,ok.exf,ok.bs,ok.bsz,ok.noex,ok.exfs,ok.funs,ok.frf⟩
theorem Cx.Ok.unwish {X:Cx} {E:Value→Shared→Prop} (ok:(X.wish E).Ok):X.Ok:=
 ⟨ok.mod,ok.kind,ok.glob,ok.blt,ok.above,ok.inj,ok.has,ok.cab,ok.hd,ok.frames,ok.stk,ok.exf,ok.bs,ok.bsz,ok.noex,ok.exfs,ok.funs,ok.frf⟩
section
variable {X:Cx} {pins:List (Addr×Obj)} {σ:St} {H:Hp} {s:Shared} {E:Value→Shared→Prop}
theorem Inv.wish (I:Inv X pins σ H s) (E:Value→Shared→Prop):Inv (X.wish E) pins σ H s:=⟨I.ok.wish E,I.os,I.bare,I.base,I.loc,I.cell,I.free,I.freeC,I.pin,I.hok,I.len⟩
theorem Inv.unwish (I:Inv (X.wish E) pins σ H s):Inv X pins σ H s:=⟨I.ok.unwish,I.os,I.bare,I.base,I.loc,I.cell,I.free,I.freeC,I.pin,I.hok,I.len⟩
theorem SP.unwish {D:Ends} {f:Flow} {s':Shared} (h:SP (X.wish E) pins D f s'):SP X pins D f s':=by
 cases f with
 | next=>obtain ⟨σ',H',I,q⟩:=h; exact ⟨σ',H',I.unwish,q⟩
 | brk=>obtain ⟨σ',H',I,q⟩:=h; exact ⟨σ',H',I.unwish,q⟩
 | cont=>obtain ⟨σ',H',I,q⟩:=h; exact ⟨σ',H',I.unwish,q⟩
 | ret u=>obtain ⟨v,σ',H',I,r,q⟩:=h; exact ⟨v,σ',H',I.unwish,r,q⟩
theorem PSs.nox {st:List Stmt} {t:TS} (h:PSs X.nox st t):PSs X st t:=fun pins s σ H D I hw=>
 wpAny_mono (h pins s σ H D (I.wish _) hw) (fun _ _ q=>q.unwish) fun _ _ z=>False.elim z
end
section
variable {X:Cx} {st:Stmt} {rest:List Stmt} {t u:TS} {e:Expr} {te:TE} {pos:Pos}
def tNext:TS:=fun D σ H=>D.nx σ H
def tSeq (t u:TS):TS:=fun D σ H=>t { D with nx:=u D } σ H
theorem pss_nil:PSs X [] tNext:=fun _ _ σ H _ I h=>wpAny_execs_nil ⟨σ,H,I,h⟩
theorem pss_cons (h1:PS X st t) (h2:PSs X rest u):PSs X (st::rest) (tSeq t u):=by
 intro pins s σ H D I h
 refine wpAny_execs_cons (thn (h1 pins s σ H { D with nx:=u D } I h) fun f s1 q=>?_)
 cases f with
 | next=>
  obtain ⟨σ',H',I',q⟩:=q
  exact h2 pins s1 σ' H' D I' q
 | ret v=>exact q
 | brk=>exact q
 | cont=>exact q
theorem pss_one (h1:PS X st t):PSs X [st] t:=by
 intro pins s σ H D I h
 refine wpAny_execs_cons (thn (h1 pins s σ H D I h) fun f s1 q=>?_)
 cases f with
 | next=>exact wpAny_execs_nil q
 | ret v=>exact q
 | brk=>exact q
 | cont=>exact q
theorem Inv.quiet {pins:List (Addr×Obj)} {σ:St} {H:Hp} {s:Shared} (I:Inv X pins σ H s):interactive X.env=false:=by simp [interactive,I.ok.kind]
def tDrop (te:TE):TS:=fun D σ H=>te σ H fun _ H1=>D.nx σ H1
theorem ps_expr (he:PE X e te) (hs:swapsWith e none pos.line X.env=pure false:=by rfl):PS X (.Expr e pos) (tDrop te):=by
 intro pins s σ H D I h
 exact wpAny_Expr_any (thn (he pins s σ H _ I h) fun v s1 ⟨x,H1,I1,r1,q1⟩=>⟨σ,H1,I1,q1⟩) I.quiet hs
def tRet (te:TE):TS:=fun D σ H=>te σ H D.rt
theorem ps_ret (he:PE X e te):PS X (.Return (some e) pos) (tRet te):=by
 intro pins s σ H D I h
 exact wpAny_Return_some (thn (he pins s σ H _ I h) fun v s1 ⟨x,H1,I1,r1,q1⟩=>⟨x,σ,H1,I1,r1,q1⟩)
def tIfS (c:TT) (t u:TS):TS:=fun D σ H=>c σ H fun b H1=>if b=true then t D σ H1 else u D σ H1
theorem ps_if {c:Expr} {a b:List Stmt} {tc:TT} (hc:PT X c tc) (ha:PSs X a t) (hb:PSs X b u):PS X (.If c a b pos) (tIfS tc t u):=by
 intro pins s σ H D I h
 refine wpAny_If (thn (hc pins s σ H _ I h) fun d s1 ⟨H1,I1,q1⟩=>?_)
 cases d with
 | true=>exact ha pins s1 σ H1 D I1 q1
 | false=>exact hb pins s1 σ H1 D I1 q1
def tNever:TS:=fun _ _ _=>False
theorem ps_never:PS X st tNever:=fun _ _ _ _ _ _ h=>h.elim
end
abbrev TG:=V→St→Hp→(St→Hp→Prop)→Prop
abbrev TGs:=List V→St→Hp→(St→Hp→Prop)→Prop
def PG (X:Cx) (target:Expr) (t:TG):Prop:=
 ∀ (pins:List (Addr×Obj)) (s:Shared) (σ:St) (H:Hp) (v:V) (u:Value) (Q:St→Hp→Prop),Inv X pins σ H s→RelV v u→t v σ H Q →
  wpAny (model X.prog X.w) X.A (assign target X.env u) (fun _ s'=>∃ σ' H',Inv X pins σ' H' s'∧Q σ' H') X.xe s
def PGs (X:Cx) (ts:List Expr) (t:TGs):Prop:=
 ∀ (pins:List (Addr×Obj)) (s:Shared) (σ:St) (H:Hp) (vs:List V) (us:List Value) (Q:St→Hp→Prop),Inv X pins σ H s→Vals vs us→t vs σ H Q →
  wpAny (model X.prog X.w) X.A (assignInOrder ((assignEach ts X.env).map (·.2)) us) (fun _ s'=>∃ σ' H',Inv X pins σ' H' s'∧Q σ' H') X.xe s
abbrev TSet:=V→V→V→Hp→(Hp→Prop)→Prop
def PSet (X:Cx) (t:TSet):Prop:=
 ∀ (pins:List (Addr×Obj)) (s:Shared) (σ:St) (H:Hp) (o i v:V) (ov iv u:Value) (Q:Hp→Prop),Inv X pins σ H s→RelV o ov→RelV i iv→RelV v u→t o i v H Q →
  wpAny (model X.prog X.w) X.A (setItem ov iv u) (fun _ s'=>∃ H',Inv X pins σ H' s'∧Q H') X.xe s
section
variable {X:Cx} {pos:Pos}
def gName (i:Nat):TG:=fun v σ H Q=>Q (σ.set i (some v)) H
theorem pg_name {i:Nat} {x:Str} (hN:X.N.Nodup) (hi:X.N[i]?=some x) (hx:Loc X.env.scope x) (hf:X.fn x=true∨X.env.scope.names.lookup x=some .local:=by first | exact .inl rfl | exact .inr rfl | assumption):PG X (.Name x pos) (gName i):=by
 intro pins s σ H v u Q I r h
 exact wpAny_assign_Name (store_ok I hN hi hx r (fun s' I'=>⟨_,H,I',h⟩) hf)
def gNil:TGs:=fun vs σ H Q=>vs = []∧Q σ H
def gCons (t:TG) (u:TGs):TGs:=fun vs σ H Q=>∃ v r,vs=v::r∧t v σ H fun σ' H'=>u r σ' H' Q
theorem pgs_nil:PGs X [] gNil:=by
 intro pins s σ H vs us Q I r h
 obtain ⟨e,h⟩:=h
 subst e
 cases r
 exact assignInOrder_nil ⟨σ,H,I,h⟩
theorem pgs_cons {e:Expr} {es:List Expr} {t:TG} {u:TGs} (h1:PG X e t) (h2:PGs X es u)
  (hs:(assignEach (e::es) X.env).map (·.2)=assign e X.env::(assignEach es X.env).map (·.2):=by rfl):PGs X (e::es) (gCons t u):=by
 intro pins s σ H vs us Q I r h
 obtain ⟨v,vr,e1,h⟩:=h
 subst e1
 cases r with
 | cons r rr=>
  rw [hs]
  refine assignInOrder_cons (thn (h1 pins s σ H _ _ _ I r h) fun _ s1 ⟨σ1,H1,I1,q1⟩=>?_)
  exact h2 pins s1 σ1 H1 _ _ Q I1 rr q1
def gTup (K:PySem.W.Frag) (n:Nat) (t:TGs):TG:=fun v σ H Q=>∃ a xs,v=.ref a∧SqT K H a xs∧xs.length=n∧t xs σ H Q
theorem pg_tup {es:List Expr} {k:Nat} {t:TGs} {n:Nat} (hc:X.calm=true) (h:PGs X es t)
  (hn:(assignEach es X.env).length=n:=by rfl) (hst:(assignEach es X.env).findIdx? (·.1)=none:=by rfl):PG X (.Tuple es k pos) (gTup X.K n t):=by
 intro pins s σ H v u Q I r hw
 obtain ⟨a,xs,e1,hq,hl,hw⟩:=hw
 subst e1
 cases r
 obtain ⟨its,rv,ht,hz⟩:=I.tuple hq
 refine assign_Tuple_tuple (I.ok.hd hc) ht (by simp [hn,← hl,rv.length]) hst fun h' hx=>?_
 have I1:Inv X pins σ H { s with heap:=h' }:=I.kept (t':=s.toks) fun b o e=>hx b o (Nat.ne_of_lt (Heap.lt_size e)) e
 exact h pins _ σ H xs _ Q I1 (by simpa using rv) hw
def gSub (to ti:TE) (t:TSet):TG:=fun v σ H Q=>to σ H fun o H1=>ti σ H1 fun i H2=>t o i v H2 fun H3=>Q σ H3
theorem pg_sub {o i:Expr} {to ti:TE} {t:TSet} (ho:PE X o to) (hi:PE X i ti) (hs:PSet X t)
  (ha:∀ v,assign (.Subscript o i pos) X.env v=(do
   let ov ← holding [v] (eval o X.env)
   let iv ← holding [v,ov] (eval i X.env)
   standAt pos
   holding [v,ov,iv] (setItem ov iv v)
   release [v,ov,iv] []):=by intro _; rfl):PG X (.Subscript o i pos) (gSub to ti t):=by
 intro pins s σ H v u Q I r h
 rw [ha]
 refine wpAny_bind (wpAny_holding (thn (ho pins s σ H _ I h) fun ov s1 ⟨x,H1,I1,r1,q1⟩=>?_))
 refine wpAny_bind (wpAny_holding (thn (hi pins s1 σ H1 _ I1 q1) fun iv s2 ⟨y,H2,I2,r2,q2⟩=>?_))
 refine wpAny_bind (wpAny_standAt (wpAny_bind (wpAny_holding (thn (hs pins s2 σ H2 x y v ov iv u _ I2 r1 r2 r q2) fun _ s3 ⟨H3,I3,q3⟩=>?_))))
 exact wpAny_release ⟨σ,H3,I3,q3⟩
def tAsg (te:TE) (g:TG):TS:=fun D σ H=>te σ H fun x H1=>g x σ H1 D.nx
theorem ps_asg {tg e:Expr} {te:TE} {g:TG} (he:PE X e te) (hg:PG X tg g) (hs:swapsWithSole [tg] e pos.line X.env=pure false:=by rfl) (hw:swappedStores [tg] e X.env=pure none:=by rfl)
  (h1:(assignEach [tg] X.env).map (·.2) = [assign tg X.env]:=by rfl):PS X (.Assign [tg] e pos) (tAsg te g):=by
 intro pins s σ H D I h
 refine wpAny_Assign_stores (thn (he pins s σ H _ I h) fun v s1 ⟨x,H1,I1,r1,q1⟩=>?_) hs hw
 rw [h1]
 exact thn (hg pins s1 σ H1 x v _ I1 r1 q1) fun _ s2 q=>q
theorem ps_set {i:Nat} {x:Str} {e:Expr} {te:TE} {pos':Pos} (hN:X.N.Nodup) (hi:X.N[i]?=some x) (hx:Loc X.env.scope x) (he:PE X e te) (hs:swapsWith e (some (.Name x pos')) pos.line X.env=pure false:=by rfl) (hf:X.fn x=true∨X.env.scope.names.lookup x=some .local:=by first | exact .inl rfl | exact .inr rfl | assumption) :
  PS X (.Assign [.Name x pos'] e pos) (tAsg te (gName i)):=by
 intro pins s σ H D I h
 refine wpAny_Assign_Name (thn (he pins s σ H _ I h) fun v s1 ⟨y,H1,I1,r1,q1⟩=>?_) hs
 exact store_ok I1 hN hi hx r1 (fun s2 I2=>⟨_,H1,I2,q1⟩) hf
end
section
variable {X:Cx} {pos:Pos}
def tWhile (c:TT) (tb:TS):TS:=fun D σ H=>∃ W:Nat→St→Hp→Prop,(∃ m,W m σ H)∧∀ m σ H,W m σ H →
 c σ H fun b H1=>if b=true then ∃ N:St→Hp→Prop,(∀ σ' H',N σ' H'→∃ m',m'<m∧W m' σ' H')∧tb { D with nx:=N,ct:=N,bk:=D.nx } σ H1 else D.nx σ H1
theorem ps_while {c:Expr} {body:List Stmt} {tc:TT} {tb:TS} (hp:PassesOwn (model X.prog X.w) X.A X.env X.xe) (hc:PT X c tc) (hb:PSs X body tb):PS X (.While c body [] pos) (tWhile tc tb):=by
 intro pins s σ H D I h
 obtain ⟨W,⟨m0,w0⟩,turn⟩:=h
 refine wpAny_While (codeAny_whileLoop (fun n s'=>∃ σ' H',Inv X pins σ' H' s'∧W n σ' H') ?_ m0 ⟨σ,H,I,w0⟩)
 rintro n s1 ⟨σ1,H1,I1,w1⟩
 refine wpAny_passesOwn hp (thn (hc pins s1 σ1 H1 _ I1 (turn n σ1 H1 w1)) fun b s2 ⟨H2,I2,q2⟩=>?_)
 cases b with
 | true=>
  obtain ⟨N,hN,q2⟩:=q2
  rw [if_pos rfl]
  refine wpAny_passesOwn hp (thn (hb pins s2 σ1 H2 _ I2 q2) fun f s3 q3=>?_)
  cases f with
  | next=>
   obtain ⟨σ3,H3,I3,n3⟩:=q3
   obtain ⟨m',hm,w3⟩:=hN σ3 H3 n3
   exact ⟨m',hm,σ3,H3,I3,w3⟩
  | cont=>
   obtain ⟨σ3,H3,I3,n3⟩:=q3
   obtain ⟨m',hm,w3⟩:=hN σ3 H3 n3
   exact ⟨m',hm,σ3,H3,I3,w3⟩
  | brk=>exact q3
  | ret v=>exact q3
 | false=>
  rw [if_neg Bool.false_ne_true]
  exact wpAny_execs_nil ⟨σ1,H2,I2,q2⟩
end
structure It where
 go:Nat→Hp→Prop
 yld:Nat→Hp→V→Hp→Prop
 stop:Nat→Hp→Prop
def FpOk (X:Cx) (pins:List (Addr×Obj)) (H:Hp) (b:Addr):Prop:=
 H b=none∧b≠X.env.locals∧b∉X.fs∧(b∈X.ex∨X.s₀.heap.objs.size≤b)∧(∀ x c,X.env.cells.lookup x=some c→c≠b)∧∀ p∈X.pn++pins,p.1≠b
theorem Inv.fpOk {X:Cx} {pins:List (Addr×Obj)} {σ:St} {H H':Hp} {s:Shared} {b:Addr} (I:Inv X pins σ H s) (hb:s.heap.objs.size≤b) (hn:H' b=none):FpOk X pins H' b:=by
 refine ⟨hn,Nat.ne_of_gt (Nat.lt_of_lt_of_le I.lt hb),I.nofs hb,.inr (Nat.le_trans I.sz hb),fun x c e z=>?_,fun p hp z=>?_⟩
 ·obtain ⟨v,q⟩:=I.cell x c e
  exact absurd (Nat.lt_of_lt_of_le q.lt (by rw [z]; exact hb)) (Nat.lt_irrefl _)
 ·exact absurd (Nat.lt_of_lt_of_le (Heap.lt_size (I.pin p hp).1) (by rw [z]; exact hb)) (Nat.lt_irrefl _)
structure Turn (P:Program) (w:World) (K:PySem.W.Frag) (tg:Expr) (J:It) (fp:List Addr) (it:Addr) (tn:Nat→Heap→Prop):Prop where
 mem:it∈fp
 obj:∀ i h,tn i h→∀ b∈fp,∃ o,h.get? b=some o∧∀ v,o.data≠.cell v
 keep:∀ i h h',tn i h→(∀ b∈fp,∀ o,h.get? b=some o→h'.get? b=some o)→tn i h'
 item:∀ (X:Cx),X.prog=P→X.w=w→X.K=K→X.calm=true→∀ (i:Nat) (pins:List (Addr×Obj)) (s:Shared) (σ:St) (H:Hp) (E:Value→Shared→Prop),Inv X pins σ H s→(∀ b∈fp,FpOk X pins H b)→tn i s.heap→J.go i H →
  wpAny (model P w) X.A (pyNext (.ref it)) (fun r s1=>∃ u,r=some u ∧
   wpAny (model P w) X.A (letOwnedTupleGo tg (.ref it) u) (fun _ s2=>∃ x H',Inv X pins σ H' s2∧RelV x u∧J.yld i H x H'∧tn (i+1) s2.heap∧∀ b∈fp,H' b=none) E s1) E s
 done:∀ (X:Cx),X.prog=P→X.w=w→X.K=K→X.calm=true→∀ (i:Nat) (pins:List (Addr×Obj)) (s:Shared) (σ:St) (H:Hp) (E:Value→Shared→Prop),Inv X pins σ H s→(∀ b∈fp,FpOk X pins H b)→tn i s.heap→J.stop i H →
  wpAny (model P w) X.A (pyNext (.ref it)) (fun r s1=>r=none∧Inv X pins σ H s1) E s
 self:∀ (A:Around) (i:Nat) (s:Shared) (Q:Value→Shared→Prop) (E:Value→Shared→Prop),tn i s.heap→Q (.ref it) s→wpAny (model P w) A (pyIter (.ref it)) Q E s
abbrev TI:=St→Hp→(It→Hp→Prop)→Prop
def PIE (X:Cx) (pins:List (Addr×Obj)) (σ:St) (tg:Expr) (R:It→Hp→Prop) (itv:Value) (s2:Shared):Prop:=
 ∃ (it:Addr) (fp:List Addr) (tn:Nat→Heap→Prop) (J:It) (H':Hp),itv=.ref it∧Inv X pins σ H' s2∧Turn X.prog X.w X.K tg J fp it tn∧tn 0 s2.heap∧(∀ b∈fp,FpOk X pins H' b)∧R J H'
def PI (X:Cx) (tg iter:Expr) (wi:TI):Prop:=
 ∀ (pins:List (Addr×Obj)) (s:Shared) (σ:St) (H:Hp) (R:It→Hp→Prop),Inv X pins σ H s→wi σ H R →
  wpAny (model X.prog X.w) X.A (eval iter X.env) (fun v s1=>wpAny (model X.prog X.w) X.A (pyIter v) (PIE X pins σ tg R) X.xe s1) X.xe s
theorem go_of {M:Model} {A:Around} {E:Value→Shared→Prop} {s:Shared} {tg:Expr} {it:Addr} {u:Value} {o:Obj} {n:String} {vs:Array Value} {Q:Unit→Shared→Prop} (ho:s.heap.get? it=some o) (hc:o.cls=.type n) (hd:o.data=.fields vs)
    (hn:["enumerate", "zip", "dict_itemiterator", "dict_reverseitemiterator", "odict_iterator", "itertools.zip_longest", "itertools.pairwise"].contains n=false) (hQ:Q () s):wpAny M A (letOwnedTupleGo tg (.ref it) u) Q E s:=by
  unfold letOwnedTupleGo
  cases tg <;> first
    | exact wpAny_pure hQ
    | (cases u <;> first
        | exact wpAny_pure hQ
        | (refine wpAny_bind (wpAny_load ho ?_)
           rw [hc,hd]
           show wpAny M A (if (["enumerate", "zip", "dict_itemiterator", "dict_reverseitemiterator", "odict_iterator", "itertools.zip_longest", "itertools.pairwise"].contains n&&vs[0]? == some (rawInt _))=true then _ else _) Q E s
           rw [if_neg (by intro h; rw [hn,Bool.false_and] at h; cases h)]
           exact wpAny_pure hQ))
def Itl (K:PySem.W.Frag) (a:Addr):It:=
 ⟨fun i H=>∃ xs x,SqL K H a xs∧xs[i]?=some x,fun i H x H'=>H'=H∧∀ xs,SqL K H a xs→xs[i]?=some x,fun i H=>∃ xs,SqL K H a xs∧xs.length≤i⟩
def Itt (K:PySem.W.Frag) (a:Addr):It:=
 ⟨fun i H=>∃ xs x,SqT K H a xs∧xs[i]?=some x,fun i H x H'=>H'=H∧∀ xs,SqT K H a xs→xs[i]?=some x,fun i H=>∃ xs,SqT K H a xs∧xs.length≤i⟩
def Itr (lo:Int) (n:Nat):It:=⟨fun i _=>i<n,fun i H x H'=>H'=H∧x=.int (lo+i),fun i _=>n≤i⟩
theorem turn_list {P:Program} {w:World} {K:PySem.W.Frag} {tg:Expr} (a it:Addr):Turn P w K tg (Itl K a) [it] it (fun i h=>h.IsListIter it a i) where
 mem:=by simp
 obj:=fun i h st b hb=>by
  have e:b=it:=by simpa using hb
  subst e
  obtain ⟨o,e,c,d⟩:=st
  exact ⟨o,e,fun v z=>by rw [d] at z; cases z⟩
 keep:=fun i h h' st k=>st.at fun o e=>k it (by simp) o e
 item:=by
  intro X hP hw hK hc i pins s σ H E I hf st hg
  subst hP hw hK
  obtain ⟨xs,x,hq,hx⟩:=hg
  obtain ⟨its,rv,p,hz⟩:=I.list hq
  obtain ⟨u,hu,ru⟩:=rv.get hx
  obtain ⟨f0,f1,f2,f3,f4,f5⟩:=hf it (by simp)
  refine wpAny_pyNext_list_item st p.isList (x:=u) (by simpa using hu) fun h' st' sb=>?_
  have I1:Inv X pins σ H { s with heap:=h' }:=I.turned (t':=s.toks) (fun b o hb e=>(sb.2 b hb).trans e) f0 f1 f3 f4 f5
  obtain ⟨o,e,c,d⟩:=id st'
  exact ⟨u,rfl,go_of (s:={ s with heap:=h' }) e c d (by decide) ⟨x,H,I1,ru,⟨rfl,fun ys hy=>by rw [I.list_inj hy hq]; exact hx⟩,st',fun b hb=>(hf b hb).1⟩⟩
 done:=by
  intro X hP hw hK hc i pins s σ H E I hf st hg
  subst hP hw hK
  obtain ⟨xs,hq,hx⟩:=hg
  obtain ⟨its,rv,p,hz⟩:=I.list hq
  obtain ⟨f0,f1,f2,f3,f4,f5⟩:=hf it (by simp)
  have hl:=rv.length
  exact wpAny_pyNext_list_end (I.ok.hd hc) st p.isList (by simp; omega) fun h' eb=>⟨rfl,I.turned (t':=s.toks) (fun b o hb e=>eb b o hb e) f0 f1 f3 f4 f5⟩
 self:=fun _ _ _ _ _ st h=>wpAny_pyIter_listiter st h
theorem turn_tuple {P:Program} {w:World} {K:PySem.W.Frag} {tg:Expr} (a it:Addr):Turn P w K tg (Itt K a) [it] it (fun i h=>h.IsTupleIter it a i) where
 mem:=by simp
 obj:=fun i h st b hb=>by
  have e:b=it:=by simpa using hb
  subst e
  obtain ⟨o,e,c,d⟩:=st
  exact ⟨o,e,fun v z=>by rw [d] at z; cases z⟩
 keep:=fun i h h' st k=>st.at fun o e=>k it (by simp) o e
 item:=by
  intro X hP hw hK hc i pins s σ H E I hf st hg
  subst hP hw hK
  obtain ⟨xs,x,hq,hx⟩:=hg
  obtain ⟨its,rv,p,hz⟩:=I.tuple hq
  obtain ⟨u,hu,ru⟩:=rv.get hx
  obtain ⟨f0,f1,f2,f3,f4,f5⟩:=hf it (by simp)
  refine wpAny_pyNext_tuple_item st (show s.heap.IsTuple a its.toArray from p) (x:=u) (by simpa using hu) fun h' st' sb=>?_
  have I1:Inv X pins σ H { s with heap:=h' }:=I.turned (t':=s.toks) (fun b o hb e=>(sb.2 b hb).trans e) f0 f1 f3 f4 f5
  obtain ⟨o,e,c,d⟩:=id st'
  exact ⟨u,rfl,go_of (s:={ s with heap:=h' }) e c d (by decide) ⟨x,H,I1,ru,⟨rfl,fun ys hy=>by rw [I.tuple_inj hy hq]; exact hx⟩,st',fun b hb=>(hf b hb).1⟩⟩
 done:=by
  intro X hP hw hK hc i pins s σ H E I hf st hg
  subst hP hw hK
  obtain ⟨xs,hq,hx⟩:=hg
  obtain ⟨its,rv,p,hz⟩:=I.tuple hq
  obtain ⟨f0,f1,f2,f3,f4,f5⟩:=hf it (by simp)
  have hl:=rv.length
  exact wpAny_pyNext_tuple_end (I.ok.hd hc) st (show s.heap.IsTuple a its.toArray from p) (by simp; omega) fun h' eb=>⟨rfl,I.turned (t':=s.toks) (fun b o hb e=>eb b o hb e) f0 f1 f3 f4 f5⟩
 self:=fun _ _ _ _ _ st h=>wpAny_pyIter_tupleiter st h
theorem turn_range {P:Program} {w:World} {K:PySem.W.Frag} {tg:Expr} (it:Addr) (lo:Int) (n:Nat):Turn P w K tg (Itr lo n) [it] it (fun i h=>IsRangeIter h it (lo+(i:Nat)*1) ((n:Int)-(i:Nat)) 1) where
 mem:=by simp
 obj:=fun i h st b hb=>by
  have e:b=it:=by simpa using hb
  subst e
  exact ⟨_,st,fun v z=>by
   have z':Data.fields _=Data.cell v:=z
   cases z'⟩
 keep:=fun i h h' st k=>k it (by simp) _ st
 item:=by
  intro X hP hw hK hc i pins s σ H E I hf st hg
  subst hP hw hK
  obtain ⟨f0,f1,f2,f3,f4,f5⟩:=hf it (by simp)
  have W:=Walks.range (prog:=X.prog) (w:=X.w) (I.ok.hd hc) it lo 1 n
  refine W.item i s _ _ hg st fun v h' tk hv st' kk=>?_
  obtain ⟨t,rfl⟩:=hv
  have I1:Inv X pins σ H { s with heap:=h',toks:=tk }:=I.turned (fun b o hb e=>kk b o (by simpa using hb) e) f0 f1 f3 f4 f5
  refine ⟨_,rfl,go_of (s:={ s with heap:=h',toks:=tk }) (n := "range_iterator") st' rfl rfl (by decide) ⟨.int (lo+i),H,I1,⟨t,?_⟩,⟨rfl,rfl⟩,st',fun b hb=>(hf b hb).1⟩⟩
  rw [Int.mul_one]
 done:=by
  intro X hP hw hK hc i pins s σ H E I hf st hg
  subst hP hw hK
  obtain ⟨f0,f1,f2,f3,f4,f5⟩:=hf it (by simp)
  exact wpAny_pyNext_range_end (I.ok.hd hc) st (by have:n≤i:=hg; omega) fun h' eb=>⟨rfl,I.turned (t':=s.toks) (fun b o hb e=>eb b o hb e) f0 f1 f3 f4 f5⟩
 self:=fun _ _ _ _ _ st h=>wpAny_pyIter_rangeiter st h
end L2
namespace L2
open PySem PySem.Spec PyProof.Rows
section
variable {X:Cx} {tg:Expr}
theorem range_it {pins:List (Addr×Obj)} {σ:St} {H:Hp} {s:Shared} {R:It→Hp→Prop} {E:Value→Shared→Prop} {lo hi:Int} {t u v:Tok} {tk:Nat} (I:Inv X pins σ H s) (h1:-(2^62)≤lo) (h2:lo<2^62) (h3:-(2^62)≤hi) (h4:hi<2^62)
  (q:R (Itr lo (hi-lo).toNat) H):wpAny (model X.prog X.w) X.A (pyIter (.ref s.heap.objs.size)) (PIE X pins σ tg R) E { s with heap:=s.heap.push { cls:=.type "range",data:=.fields #[.int lo t,.int hi u,.int 1 v] },toks:=tk }:=by
 refine wpAny_pyIter_range (IsRange.new ..) (small_one h1 h2 h3 h4) ?_
 have I1:Inv X pins σ H { s with heap:=s.heap.push { cls:=.type "range",data:=.fields #[.int lo t,.int hi u,.int 1 v] },toks:=tk }:=I.kept fun b o e=>Heap.get?_push_of_some _ e
 refine ⟨(s.heap.push { cls:=.type "range",data:=.fields #[.int lo t,.int hi u,.int 1 v] }).objs.size,[(s.heap.push { cls:=.type "range",data:=.fields #[.int lo t,.int hi u,.int 1 v] }).objs.size],_,_,H,rfl,
  I1.kept (t':=tk) fun b o e=>Heap.get?_push_of_some _ e,turn_range _ lo (hi-lo).toNat,?_,fun b hb=>?_,q⟩
 ·have e1:lo+((0:Nat):Int)*1=lo:=by simp
  have e2:(((hi-lo).toNat:Nat):Int)-((0:Nat):Int)=Builtin.Range.rangeSize lo hi 1:=by rw [rangeSize_one]; split <;> omega
  show IsRangeIter _ _ (lo+((0:Nat):Int)*1) ((((hi-lo).toNat:Nat):Int)-((0:Nat):Int)) 1
  rw [e1,e2]
  exact Heap.get?_push_size _ rfl
 ·have e:b=(s.heap.push { cls:=.type "range",data:=.fields #[.int lo t,.int hi u,.int 1 v] }).objs.size:=by simpa using hb
  subst e
  exact I1.fpOk (Nat.le_refl _) (I1.hok.fresh (Nat.le_refl _))
def iRng1 (ta:TA):TI:=fun σ H R=>ta σ H fun vs H1=>∃ j:Int,vs = [.int j] ∧ -(2^62)≤j∧j<2^62∧R (Itr 0 j.toNat) H1
theorem pi_range1 {a:Expr} {ta:TA} {p pos:Pos} (hg:Gl X "range") (hm:X.mg "range" = none) (ha:PA X [a] ta) (hs:starEach [a] X.env = [(false,eval a X.env)]:=by rfl):PI X tg (.Call (.Name "range" p) [a] [] pos) (iRng1 ta):=by
 intro pins s σ H R I h
 refine Call_ (ld_blt I hg hm boot_range (PyProof.Rows.callWith_type1 (thn (ha pos pins s σ H _ I h) fun us s1 ⟨vs,H1,I1,r1,q1⟩=>?_) hs rfl))
 obtain ⟨j,e,q1,q2,q⟩:=q1
 subst e
 cases r1 with
 | cons r rr=>
  cases rr
  obtain ⟨t,rfl⟩:=r
  exact call_range_1 (range_it I1 (by omega) (by omega) q1 q2 (by simpa using q))
def tFor (wi:TI) (g:TG) (tb:TS):TS:=fun D σ H=>wi σ H fun J H1=>∃ W:Nat→Nat→St→Hp→Prop,(∃ m,W 0 m σ H1)∧∀ i m σ H,W i m σ H →
 (J.stop i H∧D.nx σ H)∨(J.go i H∧∃ N:St→Hp→Prop,(∀ σ' H',N σ' H'→∃ m',m'<m∧W (i+1) m' σ' H')∧∀ x H',J.yld i H x H'→g x σ H' fun σ2 H2=>tb { D with nx:=N,ct:=N,bk:=D.nx } σ2 H2)
def pinsAt (fp:List Addr) (h:Heap):List (Addr×Obj):=fp.filterMap fun b=>(h.get? b).map fun o=>(b,o)
theorem mem_pinsAt {fp:List Addr} {h:Heap} {b:Addr} {o:Obj} (hb:b∈fp) (e:h.get? b=some o):(b,o)∈pinsAt fp h:=List.mem_filterMap.mpr ⟨b,hb,by rw [e]; rfl⟩
theorem of_pinsAt {fp:List Addr} {h:Heap} {p:Addr×Obj} (hp:p∈pinsAt fp h):p.1∈fp∧h.get? p.1=some p.2:=by
 obtain ⟨b,hb,e⟩:=List.mem_filterMap.mp hp
 cases q:h.get? b with
 | none=>rw [q] at e; cases e
 | some o=>
  rw [q] at e
  have e':(b,o)=p:=Option.some.inj e
  subst e'
  exact ⟨hb,q⟩
theorem Inv.pinned {pins:List (Addr×Obj)} {σ:St} {H:Hp} {s:Shared} {fp:List Addr} (I:Inv X pins σ H s) (hf:∀ b∈fp,FpOk X pins H b) (ho:∀ b∈fp,∃ o,s.heap.get? b=some o∧∀ v,o.data≠.cell v):Inv X (pins++pinsAt fp s.heap) σ H s:=
 I.pins_of fun p hp=>(List.mem_append.mp hp).elim (fun z=>I.pin p (List.mem_append_right _ z)) fun z=>by
  obtain ⟨hb,e⟩:=of_pinsAt z
  obtain ⟨f0,f1,f2,_⟩:=hf p.1 hb
  obtain ⟨o,e',d⟩:=ho p.1 hb
  rw [e] at e'; cases e'
  exact ⟨e,f0,f1,f2,d⟩
theorem Inv.unpinned {pins pl:List (Addr×Obj)} {σ:St} {H:Hp} {s:Shared} (I:Inv X (pins++pl) σ H s):Inv X pins σ H s:=I.pins_of fun p hp=>I.pin p (List.mem_append_right _ (List.mem_append_left _ hp))
theorem ps_for {iter:Expr} {body:List Stmt} {wi:TI} {g:TG} {tb:TS} {pos:Pos} (hp:PassesOwn (model X.prog X.w) X.A X.env X.xe) (hc:X.calm=true) (hi:PI X tg iter wi) (hg:PG X tg g) (hb:PSs X body tb)
  (hs:∀ x,foldedSetIterable iter X.env x=pure x:=by intro _; rfl):PS X (.For tg iter body [] pos) (tFor wi g tb):=by
 intro pins s σ H D I h
 refine wpAny_For (thn (hi pins s σ H _ I h) fun v s1 h1=>thn h1 fun itv s2 h2=>?_) hs
 obtain ⟨it,fp,tn,J,H2,e,I2,T,st2,f2,W,⟨m0,w0⟩,turn⟩:=h2
 subst e
 -- what stays true of the iterator's objects through the loop
 have stat:∀ {H':Hp},(∀ b∈fp,H' b=none)→∀ b∈fp,FpOk X pins H' b:=fun hn b hb=>⟨hn b hb,(f2 b hb).2⟩
 refine codeAny_forLoop_any (fun n s'=>∃ i σ' H',Inv X pins σ' H' s'∧tn i s'.heap∧(∀ b∈fp,H' b=none)∧W i n σ' H') ?_ m0 ⟨0,σ,H2,I2,st2,fun b hb=>(f2 b hb).1,w0⟩
 rintro n s3 ⟨i,σ3,H3,I3,st3,fr3,w3⟩
 rcases turn i n σ3 H3 w3 with ⟨stop,qn⟩ | ⟨go,N,hN,step⟩
 ·refine wpAny_passesOwn hp (thn (T.done X rfl rfl rfl hc i pins s3 σ3 H3 X.xe I3 (stat fr3) st3 stop) fun r s4 ⟨hr,I4⟩=>?_)
  subst hr
  exact wpAny_execs_nil ⟨σ3,H3,I4,qn⟩
 ·refine wpAny_passesOwn hp (thn (T.item X rfl rfl rfl hc i pins s3 σ3 H3 X.xe I3 (stat fr3) st3 go) fun r s4 ⟨u,hr,h4⟩=>?_)
  subst hr
  refine wpAny_passesOwn hp (thn h4 fun _ s5 ⟨x,H5,I5,r5,y5,st5,fr5⟩=>?_)
  have I5':=I5.pinned (stat fr5) (T.obj _ _ st5)
  refine wpAny_passesOwn hp (thn (hg _ s5 σ3 H5 x u _ I5' r5 (step x H5 y5)) fun _ s6 ⟨σ6,H6,I6,q6⟩=>?_)
  refine wpAny_passesOwn hp (thn (hb _ s6 σ6 H6 _ I6 q6) fun f s7 q7=>?_)
  have again:∀ {σ7:St} {H7:Hp},Inv X (pins++pinsAt fp s5.heap) σ7 H7 s7→N σ7 H7→∃ m,m<n∧∃ i σ' H',Inv X pins σ' H' s7∧tn i s7.heap∧(∀ b∈fp,H' b=none)∧W i m σ' H':=fun {σ7 H7} I7 n7=>by
   obtain ⟨m',hm,w7⟩:=hN σ7 H7 n7
   refine ⟨m',hm,i+1,σ7,H7,I7.unpinned,T.keep _ _ _ st5 fun b hb o e=>(I7.pin (b,o) (List.mem_append_right _ (List.mem_append_right _ (mem_pinsAt hb e)))).1,fun b hb=>?_,w7⟩
   obtain ⟨o,e,d⟩:=T.obj _ _ st5 b hb
   exact (I7.pin (b,o) (List.mem_append_right _ (List.mem_append_right _ (mem_pinsAt hb e)))).2.1
  cases f with
  | next=>obtain ⟨σ7,H7,I7,n7⟩:=q7; exact again I7 n7
  | cont=>obtain ⟨σ7,H7,I7,n7⟩:=q7; exact again I7 n7
  | brk=>obtain ⟨σ7,H7,I7,q7⟩:=q7; exact ⟨σ7,H7,I7.unpinned,q7⟩
  | ret v=>obtain ⟨x7,σ7,H7,I7,r7,q7⟩:=q7; exact ⟨x7,σ7,H7,I7.unpinned,r7,q7⟩
end
end L2
namespace L2
open PySem PySem.Spec PyProof.Rows
abbrev R2:=V→V→Hp→VK→Prop
def OpR (X:Cx) (f:Value→Value→Sem Value) (r:R2):Prop:=
 ∀ (pins:List (Addr×Obj)) (s:Shared) (σ:St) (H:Hp) (x y:V) (v u:Value) (Q:VK),Inv X pins σ H s→RelV x v→RelV y u→r x y H Q →
  wpAny (model X.prog X.w) X.A (f v u) (EP X pins σ Q) X.xe s
def UnR (X:Cx) (f:Value→Sem Value) (r:V→Hp→VK→Prop):Prop:=
 ∀ (pins:List (Addr×Obj)) (s:Shared) (σ:St) (H:Hp) (x:V) (v:Value) (Q:VK),Inv X pins σ H s→RelV x v→r x H Q →
  wpAny (model X.prog X.w) X.A (f v) (EP X pins σ Q) X.xe s
def CallR (X:Cx) (f:Value) (r:List V→Hp→VK→Prop):Prop:=
 ∀ (pins:List (Addr×Obj)) (s:Shared) (σ:St) (H:Hp) (xs:List V) (us:List Value) (Q:VK),Inv X pins σ H s→Vals xs us→r xs H Q →
  wpAny (model X.prog X.w) X.A (call f us) (EP X pins σ Q) X.xe s
def tOp (r:R2) (ta tb:TE):TE:=fun σ H Q=>ta σ H fun x H1=>tb σ H1 fun y H2=>r x y H2 Q
def tUn (r:V→Hp→VK→Prop) (ta:TE):TE:=fun σ H Q=>ta σ H fun x H1=>r x H1 Q
def rI (C:Int→Int→Prop) (g:Int→Int→V):R2:=fun x y H Q=>∃ i j,x=.int i∧y=.int j∧C i j∧Q (g i j) H
def rI0 (g:Int→Int→V):R2:=fun x y H Q=>∃ i j,x=.int i∧y=.int j∧Q (g i j) H
def rU (g:Int→V):V→Hp→VK→Prop:=fun x H Q=>∃ i,x=.int i∧Q (g i) H
section
variable {X:Cx} {a b c:Expr} {ta tb tc:TE} {pos:Pos}
theorem binT (ha:PE X a ta) (hb:PE X b tb) {pins:List (Addr×Obj)} {s:Shared} {σ:St} {H:Hp} {R:V→V→Hp→Prop} (I:Inv X pins σ H s)
  (h:ta σ H fun x H1=>tb σ H1 fun y H2=>R x y H2) {Q:Value→Shared→Prop} {f:Value→Value→Sem Value}
  (hf:∀ v u s2 x y H2,Inv X pins σ H2 s2→RelV x v→RelV y u→R x y H2→wpAny (model X.prog X.w) X.A (f v u) Q X.xe s2) :
  wpAny (model X.prog X.w) X.A (eval a X.env) (fun v s₁=>wpAny (model X.prog X.w) X.A (eval b X.env) (fun u s₂=>wpAny (model X.prog X.w) X.A (f v u) Q X.xe s₂) X.xe s₁) X.xe s:=by
 refine thn (ha pins s σ H _ I h) fun v s1 ⟨x,H1,I1,r1,q1⟩=>?_
 refine thn (hb pins s1 σ H1 _ I1 q1) fun u s2 ⟨y,H2,I2,r2,q2⟩=>?_
 exact hf v u s2 x y H2 I2 r1 r2 q2
theorem pe_op {op:Operator} {r:R2} (ho:OpR X (binaryOp op) r) (ha:PE X a ta) (hb:PE X b tb):PE X (.BinOp a op b pos) (tOp r ta tb):=by
 intro pins s σ H Q I h
 exact wpAny_BinOp (binT ha hb I h fun v u s2 x y H2 I2 rx ry q=>ho pins s2 σ H2 x y v u Q I2 rx ry q)
theorem pe_un {op:UnaryOp} {r:V→Hp→VK→Prop} (ho:UnR X (unaryOp op) r) (ha:PE X a ta):PE X (.UnaryOp op a pos) (tUn r ta):=by
 intro pins s σ H Q I h
 exact UnaryOp_ (thn (ha pins s σ H _ I h) fun v s1 ⟨x,H1,I1,r1,q1⟩=>ho pins s1 σ H1 x v Q I1 r1 q1)
theorem opI {f:Value→Value→Sem Value} {C:Int→Int→Prop} {g:Int→Int→Int}
  (rule:∀ (i j:Int) (t u:Tok) (s:Shared) (Q:Value→Shared→Prop) (E:Value→Shared→Prop),C i j→Q (.int (g i j) s.toks) { s with toks:=s.toks+1 }→wpAny (model X.prog X.w) X.A (f (.int i t) (.int j u)) Q E s) :
  OpR X f (rI C fun i j=>.int (g i j)):=by
 intro pins s σ H x y v u Q I rx ry h
 obtain ⟨i,j,rfl,rfl,hc,q⟩:=h
 obtain ⟨t,rfl⟩:=rx
 obtain ⟨t',rfl⟩:=ry
 exact rule i j t t' s _ _ hc ⟨.int (g i j),H,I.tok _,⟨_,rfl⟩,q⟩
theorem opI0 {f:Value→Value→Sem Value} {g:Int→Int→Int}
  (rule:∀ (i j:Int) (t u:Tok) (s:Shared) (Q:Value→Shared→Prop) (E:Value→Shared→Prop),Q (.int (g i j) s.toks) { s with toks:=s.toks+1 }→wpAny (model X.prog X.w) X.A (f (.int i t) (.int j u)) Q E s) :
  OpR X f (rI0 fun i j=>.int (g i j)):=by
 intro pins s σ H x y v u Q I rx ry h
 obtain ⟨i,j,rfl,rfl,q⟩:=h
 obtain ⟨t,rfl⟩:=rx
 obtain ⟨t',rfl⟩:=ry
 exact rule i j t t' s _ _ ⟨.int (g i j),H,I.tok _,⟨_,rfl⟩,q⟩
theorem opB0 {f:Value→Value→Sem Value} {g:Int→Int→Bool}
  (rule:∀ (i j:Int) (t u:Tok) (s:Shared) (Q:Value→Shared→Prop) (E:Value→Shared→Prop),Q (.bool (g i j)) s→wpAny (model X.prog X.w) X.A (f (.int i t) (.int j u)) Q E s) :
  OpR X f (rI0 fun i j=>.bl (g i j)):=by
 intro pins s σ H x y v u Q I rx ry h
 obtain ⟨i,j,rfl,rfl,q⟩:=h
 obtain ⟨t,rfl⟩:=rx
 obtain ⟨t',rfl⟩:=ry
 exact rule i j t t' s _ _ ⟨.bl (g i j),H,I,rfl,q⟩
def CDiv (i j:Int):Prop:=0<j∧j<1073741824
def CPow (i j:Int):Prop:=0≤j∧j≤1000000∧i.natAbs<2^64
def CMul (i j:Int):Prop:=(-(2^64)<i∧i<2^64)∨(-(2^64)<j∧j<2^64)
theorem CMul.ok {i j:Int} (h:CMul i j):IntMulOk i j:=by
 rcases h with ⟨h1,h2⟩ | ⟨h1,h2⟩
 ·exact .of_left (intBits_le_64 h1 h2)
 ·exact .of_right (intBits_le_64 h1 h2)
theorem op_add:OpR X (binaryOp .Add) (rI0 fun i j=>.int (i+j)):=opI0 fun _ _ _ _ _ _ _ q=>add_int q
theorem op_sub:OpR X (binaryOp .Sub) (rI0 fun i j=>.int (i-j)):=opI0 fun _ _ _ _ _ _ _ q=>sub_int q
theorem op_mul:OpR X (binaryOp .Mult) (rI CMul fun i j=>.int (i*j)):=opI fun _ _ _ _ _ _ _ hc q=>mul_int q hc.ok
theorem op_fdiv:OpR X (binaryOp .FloorDiv) (rI CDiv fun i j=>.int (i/j)):=opI fun i j _ _ _ _ _ hc q=>by
 have h1:(0:Int)<j:=hc.1
 have h2:j<1073741824:=hc.2
 exact floordiv_int (by omega) (by rw [Int.fdiv_eq_ediv_of_nonneg i (by omega)]; exact q) (.inl (PyProof.noPylong_small (by omega)))
theorem op_mod:OpR X (binaryOp .Mod) (rI (fun _ j=>0<j) fun i j=>.int (i%j)):=opI fun i j _ _ _ _ _ hc q=>by
 have h1:(0:Int)<j:=hc
 exact mod_int' (by omega) (by rw [Int.fmod_eq_emod_of_nonneg i (by omega)]; exact q)
theorem unI {f:Value→Sem Value} {g:Int→Int}
  (rule:∀ (i:Int) (t:Tok) (s:Shared) (Q:Value→Shared→Prop) (E:Value→Shared→Prop),Q (.int (g i) s.toks) { s with toks:=s.toks+1 }→wpAny (model X.prog X.w) X.A (f (.int i t)) Q E s) :
  UnR X f (rU fun i=>.int (g i)):=by
 intro pins s σ H x v Q I rx h
 obtain ⟨i,rfl,q⟩:=h
 obtain ⟨t,rfl⟩:=rx
 exact rule i t s _ _ ⟨.int (g i),H,I.tok _,⟨_,rfl⟩,q⟩
theorem un_neg:UnR X (unaryOp .USub) (rU fun i=>.int (-i)):=unI fun _ _ _ _ _ q=>neg_int q
end
def scal:V→V→Bool
 | .non,.non=>true | .non,.int _=>true | .int _,.non=>true | .non,.bl _=>true | .bl _,.non=>true | .non,.str _=>true | .str _,.non=>true
 | .int _,.int _=>true | .bl _,.bl _=>true | .str _,.str _=>true | .byt _,.byt _=>true
 | .int _,.str _=>true | .str _,.int _=>true | .bl _,.str _=>true | .str _,.bl _=>true
 | _,_=>false
def rEq:R2:=fun x y H Q=>scal x y=true∧Q (.bl (decide (x=y))) H
theorem dec_int {i j:Int}:decide (V.int i=V.int j)=(i == j):=by
 rw [Bool.eq_iff_iff]
 simp
theorem dec_bl {i j:Bool}:decide (V.bl i=V.bl j)=(i == j):=by
 rw [Bool.eq_iff_iff]
 simp
theorem dec_str {i j:Str}:decide (V.str i=V.str j)=(i == j):=by
 rw [Bool.eq_iff_iff]
 simp
theorem dec_byt {i j:Array UInt8}:decide (V.byt i=V.byt j)=(i.toList == j.toList):=by
 rw [Bool.eq_iff_iff]
 cases i
 cases j
 simp
section
variable {X:Cx} {a b c:Expr} {ta tb tc:TE} {pos:Pos}
theorem fin_bl {pins:List (Addr×Obj)} {σ:St} {H:Hp} {s:Shared} {Q:VK} {k k':Bool} (I:Inv X pins σ H s) (q:Q (.bl k) H) (e:k=k'):EP X pins σ Q (.bool k') s:=by
 subst e
 exact ⟨.bl k,H,I,rfl,q⟩
theorem op_eq:OpR X (compareOp .Eq) rEq:=by
 intro pins s σ H x y v u Q I rx ry h
 obtain ⟨hs,q⟩:=h
 cases x with
 | non=>
  cases rx
  cases y with
  | non=>cases ry; exact PySem.EqNone.eq_none_none (fin_bl I q (by simp))
  | bl j=>cases ry; exact PySem.EqNone.eq_none_bool (fin_bl I q (by simp))
  | int j=>obtain ⟨t',rfl⟩:=ry; exact PySem.EqNone.eq_none_int (fin_bl I q (by simp))
  | str j=>obtain ⟨t',rfl⟩:=ry; exact PySem.EqNone.eq_none_str (fin_bl I q (by simp))
  | _=>exact absurd (show false=true from hs) Bool.false_ne_true
 | bl i=>
  cases rx
  cases y with
  | non=>cases ry; exact PySem.EqNone.eq_bool_none (fin_bl I q (by simp))
  | bl j=>cases ry; exact eq_bool (fin_bl I q dec_bl)
  | str j=>obtain ⟨t',rfl⟩:=ry; exact PySem.EqMixed.eq_bool_str (fin_bl I q (by simp))
  | _=>exact absurd (show false=true from hs) Bool.false_ne_true
 | int i=>
  obtain ⟨t,rfl⟩:=rx
  cases y with
  | non=>cases ry; exact PySem.EqNone.eq_int_none (fin_bl I q (by simp))
  | int j=>obtain ⟨t',rfl⟩:=ry; exact eq_int (fin_bl I q dec_int)
  | str j=>obtain ⟨t',rfl⟩:=ry; exact PySem.EqMixed.eq_int_str (fin_bl I q (by simp))
  | _=>exact absurd (show false=true from hs) Bool.false_ne_true
 | str i=>
  obtain ⟨t,rfl⟩:=rx
  cases y with
  | non=>cases ry; exact PySem.EqNone.eq_str_none (fin_bl I q (by simp))
  | bl j=>cases ry; exact PySem.EqMixed.eq_str_bool (fin_bl I q (by simp))
  | int j=>obtain ⟨t',rfl⟩:=ry; exact PySem.EqMixed.eq_str_int (fin_bl I q (by simp))
  | str j=>obtain ⟨t',rfl⟩:=ry; exact eq_str (fin_bl I q dec_str)
  | _=>exact absurd (show false=true from hs) Bool.false_ne_true
 | byt i=>
  obtain ⟨t,rfl⟩:=rx
  cases y with
  | byt j=>obtain ⟨t',rfl⟩:=ry; exact PySem.W.eq_bytes (fin_bl I q dec_byt)
  | _=>exact absurd (show false=true from hs) Bool.false_ne_true
 | _=>cases y <;> exact absurd (show false=true from hs) Bool.false_ne_true
theorem op_lt:OpR X (compareOp .Lt) (rI0 fun i j=>.bl (decide (i<j))):=opB0 fun _ _ _ _ _ _ _ q=>lt_int q
theorem op_gt:OpR X (compareOp .Gt) (rI0 fun i j=>.bl (decide (j<i))):=opB0 fun _ _ _ _ _ _ _ q=>gt_int q
theorem op_isN:OpR X (compareOp .Is) (fun x y H Q=>y=.non∧Q (.bl (decide (x=.non))) H):=by
 intro pins s σ H x y v u Q I rx ry h
 obtain ⟨rfl,q⟩:=h
 cases ry
 refine is_none_gen (fin_bl I q ?_)
 cases x <;> first
  | (cases rx; rfl)
  | (obtain ⟨t,rfl⟩:=rx; rfl)
theorem op_notN:OpR X (compareOp .IsNot) (fun x y H Q=>y=.non∧Q (.bl (!decide (x=.non))) H):=by
 intro pins s σ H x y v u Q I rx ry h
 obtain ⟨rfl,q⟩:=h
 cases ry
 refine isnot_none_gen (fin_bl I q ?_)
 cases x <;> first
  | (cases rx; rfl)
  | (obtain ⟨t,rfl⟩:=rx; rfl)
theorem nomark (b:Expr) {op:CmpOp} (h:op≠.In:=by decide) (h2:op≠.NotIn:=by decide):behindInMarks op b=false:=by
 have e1:(op == CmpOp.In)=false:=by cases op <;> first | rfl | exact absurd rfl h
 have e2:(op == CmpOp.NotIn)=false:=by cases op <;> first | rfl | exact absurd rfl h2
 cases b <;> simp [behindInMarks,e1,e2]
theorem pe_cmpR {op:CmpOp} {r:R2} (ho:OpR X (compareOp op) r) (ha:PE X a ta) (hb:PE X b tb) (hm:behindInMarks op b=false):PE X (.Compare a [op] [b] pos) (tOp r ta tb):=by
 intro pins s σ H Q I h
 exact wpAny_Compare1 (binT ha hb I h fun v u s2 x y H2 I2 rx ry q=>ho pins s2 σ H2 x y v u Q I2 rx ry q) hm
def tTest (t:TE):TT:=fun σ H Q=>t σ H fun x H'=>∃ k,x=.bl k∧Q k H'
theorem pt_cmpR {op:CmpOp} {r:R2} (ho:OpR X (compareOp op) r) (ha:PE X a ta) (hb:PE X b tb) (hm:behindInMarks op b=false):PT X (.Compare a [op] [b] pos) (tTest (tOp r ta tb)):=by
 intro pins s σ H Q I h
 refine wpAny_isTrue_Compare1 (thn (ha pins s σ H _ I h) fun v s1 ⟨x,H1,I1,r1,q1⟩=>thn (hb pins s1 σ H1 _ I1 q1) fun u s2 ⟨y,H2,I2,r2,q2⟩=>
  thn (ho pins s2 σ H2 x y v u _ I2 r1 r2 q2) fun c s3 ⟨z,H3,I3,r3,k,e,q3⟩=>?_) hm
 subst e
 cases r3
 exact wpAny_truthy_bool ⟨H3,I3,q3⟩
theorem line63:(sizeLine:Nat)<2^63:=by rw [sizeLine_eq]; decide
theorem vals1 {x:V} {us:List Value} (r:Vals [x] us):∃ u,us = [u]∧RelV x u:=by
 cases r with
 | cons r1 r2=>cases r2; exact ⟨_,rfl,r1⟩
theorem vals2 {x y:V} {us:List Value} (r:Vals [x,y] us):∃ u w',us = [u,w']∧RelV x u∧RelV y w':=by
 cases r with
 | cons r1 r2=>
  cases r2 with
  | cons r3 r4=>cases r4; exact ⟨_,_,rfl,r1,r3⟩
theorem call_max2 (hc:X.calm=true):CallR X (.builtin "max") (fun xs H Q=>∃ i j,xs = [.int i,.int j]∧Q (.int (if j>i then j else i)) H):=by
 intro pins s σ H xs us Q I r h
 obtain ⟨i,j,rfl,q⟩:=h
 obtain ⟨u,w',rfl,⟨t,rfl⟩,⟨t',rfl⟩⟩:=vals2 r
 refine max_two_ints (I.ok.hd hc) fun h' tk k=>⟨_,H,I.kept k,?_,q⟩
 by_cases hj:j>i
 ·rw [if_pos hj,if_pos hj]; exact ⟨_,rfl⟩
 ·rw [if_neg hj,if_neg hj]; exact ⟨_,rfl⟩
theorem call_min2 (hc:X.calm=true):CallR X (.builtin "min") (fun xs H Q=>∃ i j,xs = [.int i,.int j]∧Q (.int (if j<i then j else i)) H):=by
 intro pins s σ H xs us Q I r h
 obtain ⟨i,j,rfl,q⟩:=h
 obtain ⟨u,w',rfl,⟨t,rfl⟩,⟨t',rfl⟩⟩:=vals2 r
 refine min_two_ints (I.ok.hd hc) fun h' tk k=>⟨_,H,I.kept k,?_,q⟩
 by_cases hj:j<i
 ·rw [if_pos hj,if_pos hj]; exact ⟨_,rfl⟩
 ·rw [if_neg hj,if_neg hj]; exact ⟨_,rfl⟩
end
end L2
namespace L2
open PySem PySem.Spec PyProof.Rows
section
variable {prog:Program} {w:World} {A:Around} {E:Value→Shared→Prop} {s:Shared} {K:PySem.W.Frag} {x dx C f:Addr} {mA:Str→Option Value} {name:Str} {v:Value}
end
section
variable {P:Program} {w:World} {H H':Hp} {h h':Heap} {a C dx:Addr} {fs fs':List (Str×V)}
end
structure Cls (K:PySem.W.Frag) (C:Addr):Prop where
 pg:PySem.W.plainGet K C Str.empty=true
 hd:PySem.W.hasDictIn K C=true
 po:PySem.W.plainOver K C=true
 sa:PySem.W.findIn K (.ref C) "__setattr__" = some (some (.builtin "object.__setattr__"))
section
variable {X:Cx} {pins:List (Addr×Obj)} {σ:St} {H:Hp} {s:Shared} {a C dx:Addr} {fs:List (Str×V)} {f:Str} {v:V} {A:Around} {E:Value→Shared→Prop}
end
section
variable {X:Cx} {o e value:Expr} {f:Str} {pos pos' tpos:Pos} {ta tv:TE}
end
section
variable {X:Cx} {pins:List (Addr×Obj)} {σ:St} {H:Hp} {s:Shared} {A:Around} {E:Value→Shared→Prop} {Q:Value→Shared→Prop} {c:Value} {b:Bool}
end
end L2
namespace L2
open PySem PySem.Spec PyProof.Rows
structure Room (k:Nat) (A:Around):Prop where
 hd:A.handled=none
 dp:A.depth+3*k+5<recursionLimit
 un:A.units+16*k+200<cLine
theorem Room.mono {j k:Nat} {A:Around} (r:Room k A) (h:j≤k):Room j A:=⟨r.hd,by have:=r.dp; omega,by have:=r.un; omega⟩
theorem Room.deeper {k:Nat} {A:Around} (r:Room (k+1) A) (env:Env):Room k (A.deeper env):=
 ⟨r.hd,by have:=r.dp; show A.depth+1+3*k+5<_; omega,by have:=r.un; show A.units+3+16*k+200<_; omega⟩
theorem Room.depth {k:Nat} {A:Around} (r:Room k A):A.depth<recursionLimit:=by have:=r.dp; omega
theorem Room.units {k:Nat} {A:Around} (r:Room k A):A.units+64<cLine:=by have:=r.un; omega
def tNil:TA:=fun _ H Q=>Q [] H
def tCons (ta:TE) (tr:TA):TA:=fun σ H Q=>ta σ H fun x H1=>tr σ H1 fun xs H2=>Q (x::xs) H2
section
variable {X:Cx} {e:Expr} {es:List Expr} {te:TE} {t:TA} {pos:Pos}
theorem pa_nil:PA X [] tNil:=fun _ _ _ _ H Q I h=>Calls.spliced_nil ⟨[],H,I,.nil,h⟩
theorem pa_cons (ha:PE X e te) (hr:PA X es t) (hs:starEach (e::es) X.env=(false,eval e X.env)::starEach es X.env:=by rfl):PA X (e::es) (tCons te t):=by
 intro pos pins s σ H Q I h
 rw [hs]
 show wpAny _ _ (spliced ((false,eval e X.env)::backTo pos (starEach es X.env))) _ _ s
 refine Calls.spliced_cons (thn (ha pins s σ H _ I h) fun u s1 ⟨x,H1,I1,r1,q1⟩=>?_)
 exact thn (hr pos pins s1 σ H1 _ I1 q1) fun us s2 ⟨xs,H2,I2,r2,q2⟩=>⟨x::xs,H2,I2,.cons r1 r2,q2⟩
def tTup (t:TA):TE:=fun σ H Q=>t σ H fun xs H1=>xs.length≤sizeLine∧∀ p,H1 p=none→Q (.ref p) (upd H1 p (.tup xs))
def tLst (t:TA):TE:=fun σ H Q=>t σ H fun xs H1=>xs.length≤sizeLine∧∀ p,H1 p=none→Q (.ref p) (upd H1 p (.lst xs))
theorem pe_tup {x1} (h:PA X es t):PE X (.Tuple es x1 pos) (tTup t):=by
 intro pins s σ H Q I hq
 refine wpAny_Tuple_spliced (thn (h pos pins s σ H _ I hq) fun us s1 ⟨xs,H1,I1,r,z,q⟩=>⟨by rw [← r.length]; exact z,?_⟩)
 have hf:H1 s1.heap.objs.size=none:=I1.hok.fresh (Nat.le_refl _)
 refine ⟨.ref s1.heap.objs.size,upd H1 s1.heap.objs.size (.tup xs),I1.laid (t':=s1.toks) (fun b u e=>Heap.get?_push_of_some _ e) (Nat.le_refl _) ?_,rfl,q _ hf⟩
 exact ⟨z,us,r,⟨_,Heap.get?_push_size _ rfl,rfl,_,rfl⟩⟩
theorem pe_lst (h:PA X es t):PE X (.List es pos) (tLst t):=by
 intro pins s σ H Q I hq
 refine wpAny_List_spliced (thn (h pos pins s σ H _ I hq) fun us s1 ⟨xs,H1,I1,r,z,q⟩=>⟨by rw [← r.length]; exact z,?_⟩)
 have hf:H1 s1.heap.objs.size=none:=I1.hok.fresh (Nat.le_refl _)
 refine ⟨.ref s1.heap.objs.size,upd H1 s1.heap.objs.size (.lst xs),I1.laid (t':=s1.toks) (fun b u e=>Heap.get?_push_of_some _ e) (Nat.le_refl _) ?_,rfl,q _ hf⟩
 exact ⟨z,us,0,r,Heap.get?_push_size _ rfl⟩
end
abbrev Sp:=List V→Hp→VK→XK→Prop
abbrev CXT:=List Env→Hp→Shared→XK→Value→Shared→Prop
structure Env0 (P:Program) (w:World) (K:PySem.W.Frag) (mg:Str→Option Value) (base:Heap) (A:Around) (outer:List Env) (s:Shared) (H:Hp):Prop where
 frames:A.frames=some outer
 mod:Mod K mg base
 bs:∀ b o,base.get? b=some o→s.heap.get? b=some o∧H b=none
 bsz:base.objs.size≤s.heap.objs.size
 funs:s.heap.FunFrames base outer
 frf:∀ b∈frs outer,H b=none
 hok:HOk P w H s.heap
 bare:AllBare s.gens
def CE (outer:List Env) (P:Program) (w:World) (H:Hp) (s:Shared) (Q:VK) (u:Value) (s':Shared):Prop:=
 ∃ v H',s'.os=s.os∧AllBare s'.gens∧Un (frs outer) [] H H' s.heap s'.heap∧HOk P w H' s'.heap∧RelV v u∧Q v H'
def CR (CX:CXT) (outer:List Env) (P:Program) (w:World) (H:Hp) (s:Shared) (Q:VK) (E:XK) (r:Result) (s':Shared):Prop:=
 match r with
 | .ok (.ret u)=>CE outer P w H s Q u s'
 | .ok _=>False
 | .error e=>CX outer H s E e s'
structure FnOk (P:Program) (w:World) (K:PySem.W.Frag) (mg:Str→Option Value) (base:Heap) (CX:CXT) (k:Nat) (f:Addr) (fd:FuncData) (ps:List Str) (sp:Sp):Prop where
 len:∀ vs H Q E,sp vs H Q E→vs.length=ps.length
 run:∀ (A:Around) (outer:List Env) (s:Shared) (H:Hp) (args:Args) (us:List Value) (vs:List V) (Q:VK) (E:XK),Room k A→Env0 P w K mg base A outer s H→BindsTo s fd args (ps.zip us)→Vals vs us→sp vs H Q E →
  codeAny (model P w) A (.call (.ref f) args) (CR CX outer P w H s Q E) s
theorem FnOk.imp {P:Program} {w:World} {K:PySem.W.Frag} {mg:Str→Option Value} {base:Heap} {CX:CXT} {k:Nat} {f:Addr} {fd:FuncData} {ps:List Str} {sp sp':Sp} (F:FnOk P w K mg base CX k f fd ps sp)
  (h:∀ vs H Q E,sp' vs H Q E→sp vs H Q E):FnOk P w K mg base CX k f fd ps sp':=
 ⟨fun vs H Q E q=>F.len vs H Q E (h _ _ _ _ q),fun A outer s H args us vs Q E hr he hb hv hs=>F.run A outer s H args us vs Q E hr he hb hv (h _ _ _ _ hs)⟩
section
variable {X:Cx} {pins:List (Addr×Obj)} {σ:St} {H:Hp} {s s':Shared}
theorem Inv.env0 (I:Inv X pins σ H s):Env0 X.prog X.w X.K X.mg X.base X.A X.stack s H:=
 ⟨I.ok.frames,I.ok.mod,I.bs,Nat.le_trans I.ok.bsz I.sz,I.stack,I.stkFree,I.hok,I.bare⟩
theorem Inv.after {Q:VK} {u:Value} (I:Inv X pins σ H s) (h:CE X.stack X.prog X.w H s Q u s'):EP X pins σ Q u s':=by
 obtain ⟨v,H',os,bare,un,hok,r,q⟩:=h
 obtain ⟨hh,g,d,t,os'⟩:=s'
 obtain rfl:os'=s.os:=os
 exact ⟨v,H',I.call (h':=hh) (g':=g) (d':=d) (t':=t) (ch:=[]) un hok bare (fun b z=>absurd z (by simp)),r,q⟩
end
def tCall (sp:Sp) (dvs:List V) (E:XK) (t:TA):TE:=fun σ H Q=>t σ H fun vs H1=>sp (vs++dvs) H1 Q E
def Binds (K:PySem.W.Frag) (fd:FuncData) (ps:List Str) (ds:List Value):Prop:=
 ∀ (s:Shared) (us:List Value),K.In s.heap→(us++ds).length=ps.length→BindsTo s fd ⟨us,[]⟩ (ps.zip (us++ds))
theorem Binds.all {K:PySem.W.Frag} {fd:FuncData} {ps:List Str} (h:∀ us:List Value,us.length=ps.length→bindArgs fd ⟨us,[]⟩=pure (ps.zip us)):Binds K fd ps []:=fun s us _ hl=>by
 rw [List.append_nil] at hl ⊢
 exact .of_eq (h us hl)
def Passes (CX:CXT) (X:Cx) (E:XK):Prop:=∀ (pins:List (Addr×Obj)) (σ:St) (H:Hp) (s:Shared) (e:Value) (s':Shared),Inv X pins σ H s→CX X.stack H s E e s'→X.xe e s'
section
variable {X:Cx} {CX:CXT} {k:Nat} {f C:Addr} {fd:FuncData} {ps:List Str} {sp:Sp} {dvs:List V} {ds:List Value} {E:XK} {x m:Str} {p pos apos:Pos} {e o:Expr} {es:List Expr} {ta:TE} {t:TA}
theorem run_fn {pins:List (Addr×Obj)} {σ:St} {H:Hp} {s:Shared} {Q:VK} {us:List Value} {vs:List V} (F:FnOk X.prog X.w X.K X.mg X.base CX k f fd ps sp) (hr:Room k X.A) (hb:Binds X.K fd ps ds) (hd:Vals dvs ds) (hx:Passes CX X E)
  (I:Inv X pins σ H s) (r:Vals vs us) (h:sp (vs++dvs) H Q E):wpAny (model X.prog X.w) X.A (call (.ref f) us) (EP X pins σ Q) X.xe s:=by
 have r2:Vals (vs++dvs) (us++ds):=r.append hd
 have hl:(us++ds).length=ps.length:=by rw [← r2.length]; exact F.len _ _ _ _ h
 refine wpAny_call (codeAny_mono (F.run X.A X.stack s H ⟨us,[]⟩ (us++ds) (vs++dvs) Q E hr I.env0 (hb s us I.kIn hl) r2 h) fun r s' hq=>?_)
 cases r with
 | error e=>exact hx pins σ H s e s' I hq
 | ok fl=>
  cases fl with
  | ret u=>exact I.after hq
  | next=>exact False.elim hq
  | brk=>exact False.elim hq
  | cont=>exact False.elim hq
theorem pe_call (F:FnOk X.prog X.w X.K X.mg X.base CX k f fd ps sp) (hr:Room k X.A) (hg:Gl X x) (hm:X.mg x=some (.ref f)) (hk:PySem.W.keepIn X.K (.ref f)=true) (hb:Binds X.K fd ps ds) (hd:Vals dvs ds) (hx:Passes CX X E)
  (ha:PA X (e::es) t) (hdb:(x == ("__debug__" : Str))=false:=by decide) (he:starEach (e::es) X.env=(false,eval e X.env)::starEach es X.env:=by rfl) (hpl:(backTo pos (starEach es X.env)).any (·.1)=false:=by rfl) :
  PE X (.Call (.Name x p) (e::es) [] pos) (tCall sp dvs E t):=by
 intro pins s σ H Q I h
 refine wpAny_Call_Name_kw (ld_glob I hg hm ?_ hdb)
 refine PySem.W.callWith_K (h₀:=X.base) I.ok.mod.kin hk (thn (ha pos pins s σ H _ I h) fun us s1 ⟨vs,H1,I1,r,q⟩=>⟨I1.kIn,?_⟩) he hpl
 exact run_fn F hr hb hd hx I1 r q
end
section
variable {X:Cx} {CX:CXT} {k:Nat} {f C:Addr} {fd:FuncData} {ps ks:List Str} {sp:Sp} {E:XK} {x m:Str} {p pos apos kpos:Pos} {e o:Expr} {es:List Expr} {kws:List Keyword} {te ta:TE} {t tk:TA} {nm:Option Str}
variable {g:List Value→List Value→List Value} {gV:List V→List V→List V}
end
structure FnScope (N P:List Str) (sc:Scope):Prop where
 kind:sc.kind=.function
 co:sc.isCoroutine=false
 gen:sc.isGenerator=false
 nd:N.Nodup
 pre:N.take P.length=P
 par:∀ x∈P,sc.names.lookup x=some .local∨sc.names.lookup x=some .cell
 nofree:∀ y∈sc.names,y.2≠.free
theorem bindL_out {kindOf:Str→Option NameKind} {x:Str}:∀ {binds:List (Str×Value)} {m:Str→Option Value},(∀ v,(x,v)∉binds)→bindL kindOf binds m x=m x
 | [],_,_=>rfl
 | (n,v)::r,m,h=>by
  unfold bindL
  rw [bindL_out fun w hw=>h w (List.mem_cons_of_mem _ hw)]
  split
  ·have:x≠n:=by rintro rfl; exact h v List.mem_cons_self
   simp [this]
  ·rfl
theorem bindC_out {kindOf:Str→Option NameKind} {x:Str}:∀ {binds:List (Str×Value)} {m:Str→Option Value},(∀ v,(x,v)∉binds)→bindC kindOf binds m x=m x
 | [],_,_=>rfl
 | (n,v)::r,m,h=>by
  unfold bindC
  rw [bindC_out fun w hw=>h w (List.mem_cons_of_mem _ hw)]
  split
  ·rfl
  ·have:x≠n:=by rintro rfl; exact h v List.mem_cons_self
   simp [this]
theorem bindL_get {kindOf:Str→Option NameKind} {x:Str} {v:Value}:∀ {P:List Str} {vs:List Value} {i:Nat} {m:Str→Option Value},P.Nodup→P[i]?=some x→vs[i]?=some v→kindOf x=some .local →
  bindL kindOf (P.zip vs) m x=some v
 | [],_,_,_,_,h,_,_=>by simp at h
 | _::_,[],_,_,_,_,h,_=>by simp at h
 | p::P,w::vs,0,m,nd,h1,h2,hk=>by
  simp at h1 h2; subst h1; subst h2
  show bindL kindOf ((p,w)::P.zip vs) m p=_
  unfold bindL
  rw [bindL_out fun v hv=>(List.nodup_cons.mp nd).1 (List.of_mem_zip hv).1,if_pos hk]
  simp
 | p::P,w::vs,i+1,m,nd,h1,h2,hk=>by
  show bindL kindOf ((p,w)::P.zip vs) m x=_
  unfold bindL
  exact bindL_get (i:=i) (List.nodup_cons.mp nd).2 (by simpa using h1) (by simpa using h2) hk
theorem bindC_get {kindOf:Str→Option NameKind} {x:Str} {v:Value}:∀ {P:List Str} {vs:List Value} {i:Nat} {m:Str→Option Value},P.Nodup→P[i]?=some x→vs[i]?=some v→kindOf x≠some .local →
  bindC kindOf (P.zip vs) m x=some v
 | [],_,_,_,_,h,_,_=>by simp at h
 | _::_,[],_,_,_,_,h,_=>by simp at h
 | p::P,w::vs,0,m,nd,h1,h2,hk=>by
  simp at h1 h2; subst h1; subst h2
  show bindC kindOf ((p,w)::P.zip vs) m p=_
  unfold bindC
  rw [bindC_out fun v hv=>(List.nodup_cons.mp nd).1 (List.of_mem_zip hv).1,if_neg hk]
  simp
 | p::P,w::vs,i+1,m,nd,h1,h2,hk=>by
  show bindC kindOf ((p,w)::P.zip vs) m x=_
  unfold bindC
  exact bindC_get (i:=i) (List.nodup_cons.mp nd).2 (by simpa using h1) (by simpa using h2) hk
def start (N:List Str) (vs:List V):St:=vs.map some++List.replicate (N.length-vs.length) none
def cxOf (CX:CXT) (P:Program) (w:World) (K:PySem.W.Frag) (mg:Str→Option Value) (base:Heap) (N:List Str) (qual:Str) (scope:Scope) (f:Addr) (cd:Value) (A:Around) (outer:List Env) (s:Shared) (H:Hp) (E:XK):Cx where
 prog:=P
 w:=w
 K:=K
 mg:=mg
 base:=base
 A:=A.deeper (envOfC qual scope s.heap.objs.size f cd)
 N:=N
 s₀:=s
 H₀:=H
 env:=envOfC qual scope s.heap.objs.size f cd
 outer:=outer
 stack:=envOfC qual scope s.heap.objs.size f cd::outer
 ex:=[]
 calm:=true
 fn:=fun _=>true
 pn:=[]
 xe:=fun e s'=>wpAny (model P w) (A.deeper (envOfC qual scope s.heap.objs.size f cd)) (leaving (envOfC qual scope s.heap.objs.size f cd) e) (fun _ s''=>CX outer H s E e s'') (fun e' s''=>CX outer H s E e' s'') s'
theorem cell_has {sc:Scope} {n:Nat} {x:Str} (h:sc.names.lookup x=some .cell):∃ c,(cellsFrom n sc.names []).lookup x=some c:=by
 have q:=PySem.W.cellsFrom_some sc.names n [] (.inl h)
 exact Option.isSome_iff_exists.mp q
theorem inv_start {CX:CXT} {P:Program} {w:World} {K:PySem.W.Frag} {mg:Str→Option Value} {base:Heap} {N ps:List Str} {qual:Str} {scope:Scope} {f:Addr} {cd:Value} {A:Around} {outer:List Env} {s s1:Shared} {H:Hp} {E:XK} {us:List Value} {vs:List V}
  (S:FnScope N ps scope) (hd:A.handled=none) (e0:Env0 P w K mg base A outer s H) (hl:vs.length=ps.length) (r:Vals vs us)
  (x:InCallC s s.heap.objs.size (bindL (envOfC qual scope s.heap.objs.size f cd).kindOf (ps.zip us) fun _=>none) (cellsFrom (s.heap.objs.size+1) scope.names []) (bindC (envOfC qual scope s.heap.objs.size f cd).kindOf (ps.zip us) fun _=>none) s1) :
  Inv (cxOf CX P w K mg base N qual scope f cd A outer s H E) [] (start N vs) H s1:=by
 have hpl:ps.length≤N.length:=by have:=congrArg List.length S.pre; rw [List.length_take] at this; omega
 obtain ⟨h1,tk,rfl,hk⟩:=x.done
 have noA:∀ b:Addr,b∉(cxOf CX P w K mg base N qual scope f cd A outer s H E).ex:=fun b z=>absurd (show b∈([]:List Addr) from z) (by simp)
 refine ⟨⟨e0.mod,S.kind,rfl,rfl,Nat.le_refl _,fun y z c h1 h2=>?_,fun y hy=>?_,fun y c _ h=>?_,fun _=>hd,Around.frames_deeper e0.frames,.inr ⟨rfl,rfl⟩,fun b z=>absurd z (noA b),e0.bs,e0.bsz,fun b _ _=>noA b,fun b z=>absurd z (noA b),e0.funs,e0.frf⟩,
  rfl,e0.bare,Un.kept hk,⟨_,x.toInCall.ns,fun i y v h1 h2 h3=>?_⟩,fun y c h=>⟨_,x.cell y c h⟩,e0.hok.fresh (Nat.le_refl _),fun y c h=>?_,fun p hp=>absurd (show p∈([]:List (Addr×Obj)) from hp) (by simp),e0.hok.kept hk,?_⟩
 ·exact name_of_addr x.apart (PySem.mem_of_lookup h1) (PySem.mem_of_lookup h2)
 ·have hy:scope.names.lookup y=some .cell∨scope.names.lookup y=some .free:=hy
  rcases hy with hy | hy
  ·exact cell_has hy
  ·exact absurd rfl (S.nofree _ (PySem.mem_of_lookup hy))
 ·exact Nat.le_of_lt (x.above y c (PySem.mem_of_lookup h))
 ·have hi:i<vs.length:=by
   unfold start at h2
   by_cases hi:i<vs.length
   ·exact hi
   ·rw [List.getElem?_append_right (by simpa using hi)] at h2
    rw [List.getElem?_replicate] at h2
    split at h2 <;> cases h2
  have ha:vs[i]?=some v:=by
   unfold start at h2
   rw [List.getElem?_append_left (by simpa using hi),List.getElem?_map] at h2
   cases e:vs[i]? with
   | none=>rw [e] at h2; cases h2
   | some a=>rw [e] at h2; cases h2; rfl
  obtain ⟨u,hu,rv⟩:=r.get ha
  have hp:ps[i]?=some y:=by
   rw [← S.pre,List.getElem?_take_of_lt (by omega)]; exact h1
  have ndP:ps.Nodup:=by rw [← S.pre]; exact S.nd.sublist (List.take_sublist _ _)
  refine ⟨u,rv,?_⟩
  rcases S.par y (List.mem_of_getElem? hp) with k | k
  ·exact .inl ⟨k,bindL_get ndP hp hu k⟩
  ·obtain ⟨c,e⟩:=cell_has (n:=s.heap.objs.size+1) k
   refine .inr ⟨.inl k,c,e,?_⟩
   have q:=x.cell y c e
   rw [bindC_get ndP hp hu (by show scope.names.lookup y≠_; rw [k]; decide)] at q
   exact q
 ·exact e0.hok.fresh (Nat.le_of_lt (x.above y c (PySem.mem_of_lookup h)))
 ·unfold start
  show _=N.length
  rw [List.length_append,List.length_map,List.length_replicate]
  omega
theorem fn_of {CX:CXT} {P:Program} {w:World} {K:PySem.W.Frag} {mg:Str→Option Value} {base:Heap} {k:Nat} {f:Addr} {name qual:Str} {params:Arguments} {body:List Stmt} {scope:Scope} {dV kV doc pm cdv ct oc:Value} {an od:Option Addr}
  {osl:Array (Option Value)} {N ps:List Str} {sp:Sp} (lk:K.lookup f=some ⟨oc,od,.func (PySem.W.fnOf name qual params body scope dV kV doc pm an cdv ct),osl⟩) (hcd:PySem.W.codeIn K cdv qual=true) (S:FnScope N ps scope)
  (len:∀ vs H Q E,sp vs H Q E→vs.length=ps.length)
  (hbody:∀ (A:Around) (outer:List Env) (s:Shared) (H:Hp) (vs:List V) (Q:VK) (E:XK),Room k (A.deeper (envOfC qual scope s.heap.objs.size f cdv))→sp vs H Q E →
   ∃ t,PSs (cxOf CX P w K mg base N qual scope f cdv A outer s H E) body t∧t { nx:=fun _ H'=>Q .non H',rt:=Q } (start N vs) H) :
  FnOk P w K mg base CX (k+1) f (PySem.W.fnOf name qual params body scope dV kV doc pm an cdv ct) ps sp:=by
 refine ⟨len,fun A outer s H args us vs Q E hr e0 hb r hsp=>?_⟩
 have hl:=len _ _ _ _ hsp
 have KX:K.In s.heap:=e0.mod.kin.keeps fun b o e=>(e0.bs b o e).1
 have lim:s.heap.NoLimit:=e0.mod.nolimit.keeps fun b o e=>(e0.bs b o e).1
 have hkind:∀ y∈ps.zip us,scope.names.lookup y.1=some .local∨(scope.names.lookup y.1=some .cell∧((cellsFrom (s.heap.objs.size+1) scope.names []).lookup y.1).isSome=true):=fun ⟨n,v⟩ hy=>by
  rcases S.par n (List.of_mem_zip hy).1 with q | q
  ·exact .inl q
  ·exact .inr ⟨q,PySem.W.cellsFrom_some _ _ _ (.inl q)⟩
 refine codeAny_call_function hr.depth (KX _ _ lk) rfl S.co S.gen rfl (PySem.W.codeRec_of KX hcd) (hb _ _ _ _ ?_)
 refine wpAny_newFunctionEnv_cells S.kind hkind fun env he s1 x=>?_
 subst he
 refine ⟨lim.keeps x.toInCall.keep,codeAny_func ?_⟩
 obtain ⟨t,ht,hq⟩:=hbody A outer s H vs Q E (hr.deeper _) hsp
 have I:Inv (cxOf CX P w K mg base N qual scope f cdv A outer s H E) [] (start N vs) H s1:=inv_start S hr.hd e0 hl r x
 refine wpAny_mono (ht [] s1 (start N vs) H _ I hq) (fun fl s' hs=>?_) fun e s' hs=>hs
 have fin:∀ {σ':St} {H':Hp} {v:V} {u:Value},Inv (cxOf CX P w K mg base N qual scope f cdv A outer s H E) [] σ' H' s'→RelV v u→Q v H'→CE outer P w H s Q u s':=
  fun {σ' H' v u} J rv q=>⟨v,H',J.os,J.bare,J.base,J.hok,rv,q⟩
 cases fl with
 | ret u=>
  obtain ⟨v,σ',H',J,rv,q⟩:=hs
  exact fin J rv q
 | next=>
  obtain ⟨σ',H',J,q⟩:=hs
  exact fin (v:=V.non) (u:=Value.none) J rfl q
 | brk=>
  obtain ⟨_,_,_,q⟩:=hs
  exact False.elim q
 | cont=>
  obtain ⟨_,_,_,q⟩:=hs
  exact False.elim q
end L2
namespace L2
open PySem PySem.Spec PyProof.Rows
section
variable {X:Cx} {x:Str} {p pos:Pos} {e:Expr} {es:List Expr} {t:TA} {id T:String} {r:List V→Hp→VK→Prop}
def tCB (r:List V→Hp→VK→Prop) (t:TA):TE:=fun σ H Q=>t σ H fun vs H1=>r vs H1 Q
theorem pe_callB (hc:CallR X (.builtin id) r) (hg:Gl X x) (hm:X.mg x=none) (hv:bootBuiltins x=some (.builtin id)) (ha:PA X (e::es) t) (hn:x ≠ "__name__" := by decide) (hdb:(x == ("__debug__" : Str))=false:=by decide)
  (he:starEach (e::es) X.env=(false,eval e X.env)::starEach es X.env:=by rfl) (hpl:(backTo pos (starEach es X.env)).any (·.1)=false:=by rfl):PE X (.Call (.Name x p) (e::es) [] pos) (tCB r t):=by
 intro pins s σ H Q I h
 refine wpAny_Call_Name_kw (ld_blt I hg hm hv ?_ hn hdb)
 exact PyProof.Rows.callWith_builtin1 (thn (ha pos pins s σ H _ I h) fun us s1 ⟨vs,H1,I1,r1,q1⟩=>hc pins s1 σ H1 vs us Q I1 r1 q1) he hpl
theorem pe_callTy (hc:CallR X (.type T) r) (hg:Gl X x) (hm:X.mg x=none) (hv:bootBuiltins x=some (.type T)) (ha:PA X (e::es) t) (hn:x ≠ "__name__" := by decide) (hdb:(x == ("__debug__" : Str))=false:=by decide)
  (he:starEach (e::es) X.env=(false,eval e X.env)::starEach es X.env:=by rfl) (hpl:(backTo pos (starEach es X.env)).any (·.1)=false:=by rfl):PE X (.Call (.Name x p) (e::es) [] pos) (tCB r t):=by
 intro pins s σ H Q I h
 refine wpAny_Call_Name_kw (ld_blt I hg hm hv ?_ hn hdb)
 exact PyProof.Rows.callWith_type1 (thn (ha pos pins s σ H _ I h) fun us s1 ⟨vs,H1,I1,r1,q1⟩=>hc pins s1 σ H1 vs us Q I1 r1 q1) he hpl
end
end L2
namespace HT
open PySem PyProof.Rows
def lexLt:List Int→List Int→Bool
 | [],[]=>false
 | [],_::_=>true
 | _::_,[]=>false
 | x::xs,y::ys=>if x=y then lexLt xs ys else decide (x<y)
section
open PySem.SeqAt
open PySem.AutoSeq1 (wpAny_loadPart')
open PySem.MeetsSeq PySem.MeetsSeq2 PySem.MeetsSeq3
end
section
variable {prog:Program} {w:World} {A:Around} {E:Value→Shared→Prop} {s:Shared}
def sIx (n d:Nat):Option Int→Nat
 | none=>d
 | some v=>if v<0 then (v+(n:Int)).toNat else min v.toNat n
theorem sIx_none (n d:Nat):sIx n d none=d:=rfl
theorem sIx_nat (n d k:Nat):sIx n d (some (k:Int))=min k n:=by
 show (if (k:Int)<0 then ((k:Int)+(n:Int)).toNat else min (k:Int).toNat n)=min k n
 rw [if_neg (by omega),Int.toNat_natCast]
end
end HT
namespace L2
open PySem PySem.Spec PyProof.Rows
abbrev TO:=St→Hp→(Option Int→Hp→Prop)→Prop
def PO (X:Cx) (e:Option Expr) (t:TO):Prop:=
 ∀ (pins:List (Addr×Obj)) (s:Shared) (σ:St) (H:Hp) (Q:Option Int→Hp→Prop),Inv X pins σ H s→t σ H Q →
  wpAny (model X.prog X.w) X.A (evalPart e X.env) (fun u s'=>∃ o H',Inv X pins σ H' s'∧IsPart u o∧Q o H') X.xe s
def tNoPart:TO:=fun _ H Q=>Q none H
def tPart (t:TE):TO:=fun σ H Q=>t σ H fun x H1=>∃ i,x=.int i∧Q (some i) H1
section
variable {X:Cx} {e:Expr} {te:TE} {lo hi:Option Expr} {tl th:TO} {pos p2:Pos}
theorem po_none:PO X none tNoPart:=by
 intro pins s σ H Q I h
 rw [evalPart_none]
 exact wpAny_pure ⟨none,H,I,.none,h⟩
theorem po_some (h:PE X e te):PO X (some e) (tPart te):=by
 intro pins s σ H Q I hw
 rw [evalPart_some]
 refine thn (h pins s σ H _ I hw) fun u s1 ⟨x,H1,I1,r1,q1⟩=>?_
 obtain ⟨i,rfl,q⟩:=q1
 obtain ⟨t,rfl⟩:=r1
 exact ⟨some i,H1,I1,.int i t,q⟩
def SlR (X:Cx) (r:V→Option Int→Option Int→Hp→VK→Prop):Prop:=
 ∀ (pins:List (Addr×Obj)) (s:Shared) (σ:St) (H:Hp) (x:V) (v vl vu:Value) (lo hi:Option Int) (sl:Addr) (Q:VK),Inv X pins σ H s→RelV x v→s.heap.IsSliceOf sl vl vu .none→IsPart vl lo→IsPart vu hi→r x lo hi H Q →
  ∃ T id,typeLookup (.type T) "__getitem__" = pure (some (.builtin id))∧s.TypeIs v T∧wpAny (model X.prog X.w) X.A (getItem v (.ref sl)) (EP X pins σ Q) X.xe s
def tSl (r:V→Option Int→Option Int→Hp→VK→Prop) (te:TE) (tl th:TO):TE:=fun σ H Q=>te σ H fun x H1=>tl σ H1 fun l H2=>th σ H2 fun u H3=>r x l u H3 Q
theorem pe_slice {r:V→Option Int→Option Int→Hp→VK→Prop} (hr:SlR X r) (he:PE X e te) (hl:PO X lo tl) (hu:PO X hi th):PE X (.Subscript e (.Slice lo hi none p2) pos) (tSl r te tl th):=by
 intro pins s σ H Q I h
 refine Subscript_ (thn (he pins s σ H _ I h) fun v s1 ⟨x,H1,I1,r1,q1⟩=>?_)
 refine wpAny_Slice (thn (hl pins s1 σ H1 _ I1 q1) fun vl s2 ⟨l,H2,I2,pl,q2⟩=>thn (hu pins s2 σ H2 _ I2 q2) fun vu s3 ⟨u,H3,I3,pu,q3⟩=>?_)
 rw [evalPart_none]
 refine wpAny_pure ?_
 have I4:Inv X pins σ H3 { s3 with heap:=s3.heap.push { cls:=.type "slice",data:=.fields #[vl,vu,.none] } }:=I3.kept (t':=s3.toks) fun b ob q=>Heap.get?_push_of_some _ q
 obtain ⟨T,id,hT,ht,hg⟩:=hr pins { s3 with heap:=s3.heap.push { cls:=.type "slice",data:=.fields #[vl,vu,.none] } } σ H3 x v vl vu l u s3.heap.objs.size Q I4 r1 (Heap.IsSliceOf.new ..) pl pu q3
 show wpAny (model X.prog X.w) X.A (subscriptTail e (.Slice lo hi none p2) v (.ref s3.heap.objs.size)) (EP X pins σ Q) X.xe { s3 with heap:=s3.heap.push { cls:=.type "slice",data:=.fields #[vl,vu,.none] } }
 exact tail_any (ops:=[.ref s3.heap.objs.size,v]) ht hT hg (by with_unfolding_all rfl)
def cutV (xs:List V) (lo hi:Option Int):List V:=(xs.drop (HT.sIx xs.length 0 lo)).take (HT.sIx xs.length xs.length hi-HT.sIx xs.length 0 lo)
theorem cutV_length (xs:List V) (lo hi:Option Int):(cutV xs lo hi).length≤xs.length:=by
 unfold cutV
 rw [List.length_take,List.length_drop]
 omega
end
end L2
namespace L2
open PySem PySem.Spec PyProof.Rows
def ixN (n:Nat) (i:Int):Option Nat:=if 0≤i then (if i<n then some i.toNat else none) else if -(n:Int)≤i then some (i+n).toNat else none
def atI {α:Type} (xs:List α) (i:Int):Option α:=(ixN xs.length i).bind fun j=>xs[j]?
theorem ixN_seq {n:Nat} {i:Int} {j:Nat} (h:ixN n i=some j):seqIndex? i n=some j∧j<n ∧ -(n:Int)≤i∧i<n:=by
 unfold ixN at h
 by_cases h0:0≤i
 ·rw [if_pos h0] at h
  by_cases h1:i<n
  ·rw [if_pos h1] at h
   have e:i.toNat=j:=Option.some.inj h
   exact ⟨by rw [seqIndex_of h0 h1,e],by omega,by omega,h1⟩
  ·rw [if_neg h1] at h; cases h
 ·rw [if_neg h0] at h
  by_cases h1:-(n:Int)≤i
  ·rw [if_pos h1] at h
   have e:(i+n).toNat=j:=Option.some.inj h
   exact ⟨by rw [seqIndex_neg (by omega) h1,e],by omega,h1,by omega⟩
  ·rw [if_neg h1] at h; cases h
theorem atI_get {α:Type} {xs:List α} {i:Int} {v:α} (h:atI xs i=some v):∃ j,seqIndex? i xs.length=some j∧xs[j]?=some v∧j<xs.length ∧ -(xs.length:Int)≤i∧i<xs.length:=by
 unfold atI at h
 cases e:ixN xs.length i with
 | none=>rw [e] at h; cases h
 | some j=>
  rw [e] at h
  obtain ⟨h1,h2,h3,h4⟩:=ixN_seq e
  exact ⟨j,h1,h,h2,h3,h4⟩
def PlainIx (b:Expr):Prop:=∀ o i,subscripted b false o i=operate [o,i] (getItem o i)
def IxR (X:Cx) (r:R2):Prop:=
 ∀ (value slice:Expr) (pins:List (Addr×Obj)) (s:Shared) (σ:St) (H:Hp) (x y:V) (v u:Value) (Q:VK),Inv X pins σ H s→RelV x v→RelV y u→r x y H Q →
  subscripted slice false v u=operate [v,u] (getItem v u)→wpAny (model X.prog X.w) X.A (subscriptTail value slice v u) (EP X pins σ Q) X.xe s
def MtR (X:Cx) (id:String) (r:V→List V→Hp→VK→Prop):Prop:=
 ∀ (pins:List (Addr×Obj)) (s:Shared) (σ:St) (H:Hp) (x:V) (xs:List V) (v:Value) (us:List Value) (Q:VK),Inv X pins σ H s→RelV x v→Vals xs us→r x xs H Q →
  wpAny (model X.prog X.w) X.A (call (.builtin id) (v::us)) (EP X pins σ Q) X.xe s
section
variable {X:Cx} {a b:Expr} {ta tb:TE} {pos:Pos}
theorem IxR.or {r r':R2} (h:IxR X r) (h':IxR X r'):IxR X (fun x y H Q=>r x y H Q∨r' x y H Q):=by
 intro value slice pins s σ H x y v u Q I rx ry q hs
 rcases q with q | q
 ·exact h value slice pins s σ H x y v u Q I rx ry q hs
 ·exact h' value slice pins s σ H x y v u Q I rx ry q hs
theorem pe_ix {r:R2} (hr:IxR X r) (ha:PE X a ta) (hb:PE X b tb) (hs:PlainIx b):PE X (.Subscript a b pos) (tOp r ta tb):=by
 intro pins s σ H Q I h
 exact Subscript_ (binT ha hb I h fun v u s2 x y H2 I2 rx ry q=>hr a b pins s2 σ H2 x y v u Q I2 rx ry q (hs _ _))
def rIxL (K:PySem.W.Frag):R2:=fun x y H Q=>∃ p xs i v,x=.ref p∧y=.int i∧SqL K H p xs∧atI xs i=some v∧Q v H
def rIxT (K:PySem.W.Frag):R2:=fun x y H Q=>∃ p xs i v,x=.ref p∧y=.int i∧SqT K H p xs∧atI xs i=some v∧Q v H
def rIxS:R2:=fun x y H Q=>∃ z i c,x=.str z∧y=.int i∧z.length≤sizeLine∧atI z.cps.toList i=some c∧Q (.str ⟨#[c]⟩) H
theorem ix_list:IxR X (rIxL X.K):=by
 intro value slice pins s σ H x y v u Q I rx ry h hs
 obtain ⟨p,xs,i,z,rfl,rfl,hq,he,q⟩:=h
 cases rx
 obtain ⟨t,rfl⟩:=ry
 obtain ⟨its,r,pl,hz⟩:=I.list hq
 obtain ⟨j,h1,h2,h3,h4,h5⟩:=atI_get he
 obtain ⟨w,ew,rw'⟩:=r.get h2
 have hl:=r.length
 have hn:=line63
 have fin:EP X pins σ Q w s:=⟨z,H,I,rw',q⟩
 by_cases h0:0≤i
 ·have hj:i.toNat=j:=by
   rw [seqIndex_of h0 h5] at h1
   exact Option.some.inj h1
  exact item_listR pl.isList h0 (by omega) (by rw [hj]; simpa using ew) fin hs
 ·have hj:(i+(its.toArray.size:Int)).toNat=j:=by
   rw [seqIndex_neg (by omega) h4] at h1
   rw [List.size_toArray,← hl]
   exact Option.some.inj h1
  exact subscriptTail_builtinR (x:=w) pl.isList.typeIs slot_list_getitem.lookup
   (wpAny_getItem_list_neg (Q:=fun r s'=>r=w∧EP X pins σ Q r s') pl.isList (by omega) (by rw [List.size_toArray] <;> omega) (by omega) (by rw [hj]; simpa using ew) ⟨rfl,fin⟩) hs
theorem ix_tup:IxR X (rIxT X.K):=by
 intro value slice pins s σ H x y v u Q I rx ry h hs
 obtain ⟨p,xs,i,z,rfl,rfl,hq,he,q⟩:=h
 cases rx
 obtain ⟨t,rfl⟩:=ry
 obtain ⟨its,r,pl,hz⟩:=I.tuple hq
 obtain ⟨j,h1,h2,h3,h4,h5⟩:=atI_get he
 obtain ⟨w,ew,rw'⟩:=r.get h2
 have hl:=r.length
 have hn:=line63
 have fin:EP X pins σ Q w s:=⟨z,H,I,rw',q⟩
 exact subscriptTail_builtinR (x:=w) pl.typeIs slot_tuple_getitem.lookup
  (getItem_tuple (j:=j) (Q:=fun r s'=>r=w∧EP X pins σ Q r s') pl (by omega) (by omega) (by rw [List.size_toArray,← hl]; exact h1) (by simpa using ew) ⟨rfl,fin⟩) hs
theorem ix_str:IxR X rIxS:=by
 intro value slice pins s σ H x y v u Q I rx ry h hs
 obtain ⟨z,i,c,rfl,rfl,hz,he,q⟩:=h
 obtain ⟨t,rfl⟩:=rx
 obtain ⟨t',rfl⟩:=ry
 obtain ⟨j,h1,h2,h3,h4,h5⟩:=atI_get he
 have hl:z.cps.toList.length=z.length:=by simp [Str.length]
 rw [hl] at h1 h4 h5
 have hn:=line63
 exact tail_any (typeIs_str s z t) slot_str_getitem.lookup (getItem_str (c:=c) (by
  have e1:decide (i < -(2^63:Int))=false:=decide_eq_false (by omega)
  have e2:decide (i≥2^63)=false:=decide_eq_false (by omega)
  rw [e1,e2,Bool.or_false]) (by rw [h1]; simpa using h2) ⟨.str ⟨#[c]⟩,H,I.tok _,⟨_,rfl⟩,q⟩) hs
def rIx (K:PySem.W.Frag):R2:=fun x y H Q=>rIxL K x y H Q∨rIxT K x y H Q∨rIxS x y H Q
theorem ix_seq:IxR X (rIx X.K):=ix_list.or (ix_tup.or ix_str)
theorem mapSeq_set (its:List Value) (n j:Nat) (u:Value):Obj.mapSeq (·.setIfInBounds j u) { cls:=.type "list",data:=.seq its.toArray n }={ cls:=.type "list",data:=.seq (its.set j u).toArray n }:=by
 simp [Obj.mapSeq]
theorem Inv.lst {pins:List (Addr×Obj)} {σ:St} {H:Hp} {s:Shared} {p:Addr} {xs:List V} (I:Inv X pins σ H s) (h:H p=some (.lst xs)) :
  ∃ (its:List Value) (n:Nat),Vals xs its∧s.heap.get? p=some { cls:=.type "list",data:=.seq its.toArray n }∧xs.length≤sizeLine:=by
 obtain ⟨z,its,n,r,e⟩:=I.hok p _ h
 exact ⟨its,n,r,e,z⟩
theorem Inv.lstUpd {pins:List (Addr×Obj)} {σ:St} {H:Hp} {s:Shared} {p:Addr} {xs ys:List V} {its its':List Value} {n n':Nat} {f:Obj→Obj} (I:Inv X pins σ H s) (h:H p=some (.lst xs))
  (ho:s.heap.get? p=some { cls:=.type "list",data:=.seq its.toArray n }) (hf:f { cls:=.type "list",data:=.seq its.toArray n }={ cls:=.type "list",data:=.seq its'.toArray n' }) (r:Vals ys its') (hz:ys.length≤sizeLine) (t:Nat) :
  Inv X pins σ (upd H p (.lst ys)) { s with heap:=s.heap.update p f,toks:=t }:=by
 have e:(s.heap.update p f).get? p=some { cls:=.type "list",data:=.seq its'.toArray n' }:=by
  rw [Heap.get?_update_self f ho (by rw [hf] <;> rfl),hf]
 refine I.write (x:=p) (e:=p) (by rw [h]; trivial) (.inl rfl) (fun b u hb q=>(Heap.get?_update_other _ _ (Ne.symm hb)).trans q) ⟨_,e⟩ ?_
 exact ⟨hz,its',n',r,e⟩
def rSetL:V→V→V→Hp→(Hp→Prop)→Prop:=fun o i v H Q=>∃ p xs k j,o=.ref p∧i=.int k∧H p=some (.lst xs)∧ixN xs.length k=some j∧Q (upd H p (.lst (xs.set j v)))
theorem set_list:PSet X rSetL:=by
 intro pins s σ H o i v ov iv u Q I ro ri rv h
 obtain ⟨p,xs,k,j,rfl,rfl,hp,hj,q⟩:=h
 cases ro
 obtain ⟨t,rfl⟩:=ri
 obtain ⟨its,n,r,ho,hz⟩:=I.lst hp
 obtain ⟨h1,h2,h3,h4⟩:=ixN_seq hj
 have hl:=r.length
 have hn:=line63
 have I':Inv X pins σ (upd H p (.lst (xs.set j v))) { s with heap:=s.heap.update p (Obj.mapSeq (·.setIfInBounds j u)) }:=
  I.lstUpd hp ho (mapSeq_set its n j u) (r.set rv j) (by rw [List.length_set]; exact hz) s.toks
 by_cases h0:0≤k
 ·have hk:k.toNat=j:=by
   rw [seqIndex_of h0 h4] at h1
   exact Option.some.inj h1
  exact PySem.W.ki_setAt ho h0 (by omega) (by rw [List.size_toArray,← hl]; exact h4) (by rw [hk]; exact ⟨_,I',q⟩)
 ·have hk:(k+(its.toArray.size:Int)).toNat=j:=by
   rw [seqIndex_neg (by omega) h3] at h1
   rw [List.size_toArray,← hl]
   exact Option.some.inj h1
  exact PySem.W.ki_setBack ho (by omega) (by rw [List.size_toArray,← hl]; exact h3) (by omega) (by rw [hk]; exact ⟨_,I',q⟩)
theorem slice_bounds (lo hi:Option Int) (n:Nat):(sliceBounds lo hi none n).1=((HT.sIx n 0 lo:Nat):Int)∧(sliceBounds lo hi none n).2.1=((HT.sIx n n hi:Nat):Int)∧(sliceBounds lo hi none n).2.2=1:=by
 refine ⟨?_,?_,rfl⟩
 ·cases lo with
  | none=>simp [sliceBounds,HT.sIx]
  | some i=>
   simp only [sliceBounds,HT.sIx,Option.getD_none,show (1:Int)>0 by decide,if_true]
   by_cases h:i<0
   ·simp only [h,if_true] <;> omega
   ·simp only [h,if_false] <;> omega
 ·cases hi with
  | none=>simp [sliceBounds,HT.sIx]
  | some i=>
   simp only [sliceBounds,HT.sIx,Option.getD_none,show (1:Int)>0 by decide,if_true]
   by_cases h:i<0
   ·simp only [h,if_true] <;> omega
   ·simp only [h,if_false] <;> omega
theorem slicePick_cut (its:List Value) (lo hi:Option Int):slicePick its.toArray lo hi none=((its.drop (HT.sIx its.length 0 lo)).take (HT.sIx its.length its.length hi-HT.sIx its.length 0 lo)).toArray:=by
 obtain ⟨h1,h2,h3⟩:=slice_bounds lo hi its.toArray.size
 unfold slicePick
 rw [h1,h2,h3]
 simp only [sliceRange_one,pick_run,List.size_toArray] <;> rfl
def rSlL (K:PySem.W.Frag):V→Option Int→Option Int→Hp→VK→Prop:=fun x lo hi H Q=>∃ a xs,x=.ref a∧SqL K H a xs∧∀ p,H p=none→Q (.ref p) (upd H p (.lst (cutV xs lo hi)))
theorem sl_list:SlR X (rSlL X.K):=by
 intro pins s σ H x v vl vu lo hi sl Q I rx hs pl pu h
 obtain ⟨a,xs,rfl,hx,q⟩:=h
 cases rx
 obtain ⟨its,r,ht,hz⟩:=I.list hx
 have hlen:=r.length
 refine ⟨"list",_,slot_list_getitem.lookup,ht.isList.typeIs,?_⟩
 refine wpAny_getItem_list_slice ht.isList hs pl pu .none (by simp) ?_ (by rw [List.size_toArray] <;> omega)
 rw [slicePick_cut,← hlen]
 refine ⟨.ref s.heap.objs.size,_,I.laid (t':=s.toks) (o:=.lst (cutV xs lo hi)) (fun b ob q=>Heap.get?_push_of_some _ q) (Nat.le_refl _) ?_,rfl,q _ (I.hok.fresh (Nat.le_refl _))⟩
 exact ⟨Nat.le_trans (cutV_length xs lo hi) hz,_,0,(r.drop (HT.sIx xs.length 0 lo)).take (HT.sIx xs.length xs.length hi-HT.sIx xs.length 0 lo),Heap.get?_push_size _ rfl⟩
theorem call_len_seq:CallR X (.builtin "len") (fun xs H Q=>∃ p ys,xs = [.ref p]∧(SqL X.K H p ys∨SqT X.K H p ys)∧Q (.int ys.length) H):=by
 intro pins s σ H xs us Q I r h
 obtain ⟨p,ys,rfl,hq,q⟩:=h
 obtain ⟨u,rfl,rx⟩:=vals1 r
 cases rx
 have hn:=line63
 rcases hq with hq | hq
 ·obtain ⟨its,r',pl,hz⟩:=I.list hq
  have hlen:=r'.length
  exact Calls.call_len_list pl.isList (by simp only [List.size_toArray] <;> omega) ⟨.int ys.length,H,I.tok _,⟨s.toks+1,by rw [List.size_toArray,hlen]⟩,q⟩
 ·obtain ⟨its,r',pl,hz⟩:=I.tuple hq
  have hlen:=r'.length
  exact len_tuple pl (by simp only [List.size_toArray] <;> omega) ⟨.int ys.length,H,I.tok _,⟨s.toks+1,by rw [List.size_toArray,hlen]⟩,q⟩
theorem call_list_of:CallR X (.type "list") (fun xs H Q=>∃ p ys,xs = [.ref p]∧(SqL X.K H p ys∨SqT X.K H p ys)∧∀ l,H l=none→Q (.ref l) (upd H l (.lst ys))):=by
 intro pins s σ H xs us Q I r h
 obtain ⟨p,ys,rfl,hq,q⟩:=h
 obtain ⟨u,rfl,rx⟩:=vals1 r
 cases rx
 have fin:∀ (its:List Value),Vals ys its→ys.length≤sizeLine→∀ (h':Heap) (c':Nat),(∀ b o',s.heap.get? b=some o'→h'.get? b=some o') →
   h'.get? s.heap.objs.size=some { cls:=.type "list",dict:=none,data:=.seq its.toArray c',slots:=#[] }→EP X pins σ Q (.ref s.heap.objs.size) { s with heap:=h' }:=fun its r' hz h' c' kp e=>
  ⟨.ref s.heap.objs.size,_,I.laid (t':=s.toks) kp (Nat.le_refl _) (show ObjOk X.prog X.w _ h' _ (.lst ys) from ⟨hz,its,c',r',e⟩),rfl,q _ (I.hok.fresh (Nat.le_refl _))⟩
 rcases hq with hq | hq
 ·obtain ⟨its,r',pl,hz⟩:=I.list hq
  have hlen:=r'.length
  obtain ⟨o,ho,hc,n,hd⟩:=pl.isList
  exact call_list_seq p (.inl rfl) ho hc hd (fun h' c' kp e=>fin its r' hz h' c' kp e) (by simp only [List.size_toArray] <;> omega)
 ·obtain ⟨its,r',pl,hz⟩:=I.tuple hq
  have hlen:=r'.length
  obtain ⟨o,ho,hc,n,hd⟩:=pl
  exact call_list_seq p (.inr rfl) ho hc hd (fun h' c' kp e=>fin its r' hz h' c' kp e) (by simp only [List.size_toArray] <;> omega)
theorem call_tuple_of:CallR X (.type "tuple") (fun xs H Q=>∃ p ys,xs = [.ref p]∧((SqL X.K H p ys∧∀ l,H l=none→Q (.ref l) (upd H l (.tup ys)))∨(SqT X.K H p ys∧Q (.ref p) H))):=by
 intro pins s σ H xs us Q I r h
 obtain ⟨p,ys,rfl,h⟩:=h
 obtain ⟨u,rfl,rx⟩:=vals1 r
 cases rx
 rcases h with ⟨hq,q⟩ | ⟨hq,q⟩
 ·obtain ⟨its,r',pl,hz⟩:=I.list hq
  have hlen:=r'.length
  refine call_tuple_list pl.isList (fun h' kp=>?_) (by simp only [List.size_toArray] <;> omega)
  have I1:Inv X pins σ H { s with heap:=h' }:=I.kept (t':=s.toks) kp
  have I2:Inv X pins σ (upd H h'.objs.size (.tup ys)) { s with heap:=h'.push { cls:=.type "tuple",data:=.seq its.toArray } }:=
   I1.laid (t':=s.toks) (fun b o e=>Heap.get?_push_of_some _ e) (Nat.le_refl _) (show ObjOk X.prog X.w _ _ _ (.tup ys) from ⟨hz,its,r',IsTup.new _ _⟩)
  exact ⟨.ref h'.objs.size,_,I2,rfl,q _ (I1.hok.fresh (Nat.le_refl _))⟩
 ·obtain ⟨its,r',pl,hz⟩:=I.tuple hq
  exact call_tuple_same pl ⟨.ref p,H,I,rfl,q⟩
def tyV (K:PySem.W.Frag) (T:String) (x:V) (H:Hp):Prop:=match x with
 | .str _=>T = "str"
 | .int _=>T = "int"
 | .ref p=>(T = "list" ∧ ∃ xs,SqL K H p xs)∨(T = "tuple" ∧ ∃ o,K.lookup p=some o∧o.cls=.type "tuple" ∧ o.dict=none) ∨
   (T = "dict" ∧ ((∃ kvs,H p=some (.dK kvs))∨∃ kvs,H p=some (.dT kvs)))∨(T = "set" ∧ ∃ S n,H p=some (.set S n))
 | _=>False
theorem tyV_is {pins:List (Addr×Obj)} {σ:St} {H:Hp} {s:Shared} {T:String} {x:V} {v:Value} (I:Inv X pins σ H s) (r:RelV x v) (ty:tyV X.K T x H) :
  s.TypeIs v T∧∀ a,v=.ref a→∃ ob,s.heap.get? a=some ob∧ob.dict=none:=by
 cases x with
 | str z=>
  obtain ⟨t,rfl⟩:=r
  cases (show T = "str" from ty)
  exact ⟨typeIs_str s z t,fun _ e=>nomatch e⟩
 | int i=>
  obtain ⟨t,rfl⟩:=r
  cases (show T = "int" from ty)
  exact ⟨typeIs_int s i t,fun _ e=>nomatch e⟩
 | ref p=>
  cases r
  rcases ty with ⟨rfl,xs,hq⟩ | ⟨rfl,o,hk,hc,hd⟩ | ⟨rfl,hk⟩ | ⟨rfl,S,n,hk⟩
  ·obtain ⟨its,_,pl,_⟩:=I.list hq
   refine ⟨pl.isList.typeIs,fun a e=>?_⟩
   cases e
   obtain ⟨o,n,e,c,hd,_⟩:=pl
   exact ⟨o,e,hd⟩
  ·refine ⟨⟨o,I.kIn p o hk,hc⟩,fun a e=>?_⟩
   cases e
   exact ⟨o,I.kIn _ o hk,hd⟩
  ·have z:∃ o,s.heap.get? p=some o∧o.ExactDict:=by
    rcases hk with ⟨kvs,hk⟩ | ⟨kvs,hk⟩
    ·obtain ⟨_,_,_,_,o,_,_,e,ex,_⟩:=I.hok p _ hk
     exact ⟨o,e,ex⟩
    ·obtain ⟨_,_,_,_,o,_,_,e,ex,_⟩:=I.hok p _ hk
     exact ⟨o,e,ex⟩
   obtain ⟨o,e,ex⟩:=z
   refine ⟨⟨o,e,ex.1⟩,fun a e2=>?_⟩
   cases e2
   exact ⟨o,e,ex.2.1⟩
  ·obtain ⟨o,_,_,_,e,ex,_⟩:=I.hok p _ hk
   refine ⟨⟨o,e,ex.1⟩,fun a e2=>?_⟩
   cases e2
   exact ⟨o,e,ex.2.1⟩
 | _=>exact False.elim ty
def tBM (K:PySem.W.Frag) (T:String) (r:V→List V→Hp→VK→Prop) (to:TE) (t:TA):TE:=fun σ H Q=>to σ H fun x H1=>tyV K T x H1∧t σ H1 fun xs H2=>r x xs H2 Q
variable {o e:Expr} {es:List Expr} {to:TE} {t:TA} {name:Str} {apos cpos:Pos} {T id:String} {r:V→List V→Hp→VK→Prop}
theorem pe_bm (pa:PlainAttrs T) (slot:Slot T name id) (hty:typeOf (.builtin id)=pure (.type "method_descriptor")) (hm:MtR X id r) (ho:PE X o to) (ha:PA X (e::es) t)
  (hbase:attributeBase o name X.env (eval o X.env)=eval o X.env:=by rfl)
  (hfew:((backTo cpos (starEach (e::es) X.env)).all (fun x=>!x.1)&&(backToKw cpos (keywordEach [] X.env)).all (fun x=>x.1.isSome)
   && decide ((e::es).length+([]:List Keyword).length+(if ([]:List Keyword).isEmpty then 0 else 1)<30))=true:=by rfl)
  (hline:(apos.endLine == cpos.line)=true:=by rfl) (hs:starEach (e::es) X.env=(false,eval e X.env)::starEach es X.env:=by rfl) (hplain:(backTo cpos (starEach es X.env)).any (·.1)=false:=by rfl) :
  PE X (.Call (.Attribute o name apos) (e::es) [] cpos) (tBM X.K T r to t):=by
 intro pins s σ H Q I h
 refine wpAny_Call_method_late hbase hfew hline rfl (thn (ho pins s σ H _ I h) fun v s1 ⟨x,H1,I1,r1,ty,q1⟩=>?_)
 obtain ⟨h1,h2⟩:=tyV_is I1 r1 ty
 refine ⟨T,id,pa,slot,hty,h1,h2,?_⟩
 have hA:=ha cpos pins s1 σ H1 _ I1 q1
 rw [hs] at hA ⊢
 refine Calls.callWith_builtin (by show (false||(backTo cpos (starEach es X.env)).any (·.1))=false; rw [hplain] <;> rfl) (Calls.evalArgs_plain ?_)
 exact thn hA fun us s2 ⟨vs,H2,I2,r2,q2⟩=>hm pins s2 σ H2 x vs v us Q I2 r1 r2 q2
end
end L2
namespace L2
open PySem PySem.Spec PyProof.Rows
def MtM (X:Cx) (id:String) (r:V→List V→Hp→VK→Prop):Prop:=
 ∀ (pins:List (Addr×Obj)) (s:Shared) (σ:St) (H:Hp) (x:V) (xs:List V) (v:Value) (us:List Value) (Q:VK),Inv X pins σ H s→RelV x v→Vals xs us→r x xs H Q →
  wpAny (model X.prog X.w) X.A (call (.builtin id) (v::us)) (EP X pins σ Q) X.xe s
theorem Vals.one:∀ {x:V} {us:List Value},Vals [x] us→∃ u,us = [u]∧RelV x u
 | _,_,.cons r .nil=>⟨_,rfl,r⟩
theorem Vals.eraseIdx:∀ {xs:List V} {us:List Value} (i:Nat),Vals xs us→Vals (xs.eraseIdx i) (us.eraseIdx i)
 | _,_,_,.nil=>.nil
 | _,_,0,.cons _ t=>t
 | _,_,i+1,.cons r t=>.cons r (Vals.eraseIdx i t)
theorem Vals.rep {xs:List V} {us:List Value} (h:Vals xs us):∀ k:Nat,Vals (List.replicate k xs).flatten (List.replicate k us).flatten
 | 0=>.nil
 | k+1=>by
  rw [List.replicate_succ,List.replicate_succ,List.flatten_cons,List.flatten_cons]
  exact Vals.append h (Vals.rep h k)
theorem len_erase {α:Type}:∀ (l:List α) (i:Nat),(l.eraseIdx i).length≤l.length
 | [],_=>Nat.le_refl _
 | _::_,0=>Nat.le_succ _
 | _::r,i+1=>Nat.succ_le_succ (len_erase r i)
theorem foldl_rep (its:List Value):∀ (k:Nat) (acc:List Value),
  List.foldl (fun x1 x2=>x1++x2) acc.toArray (List.replicate k its.toArray)=(acc++(List.replicate k its).flatten).toArray
 | 0,acc=>by simp
 | k+1,acc=>by
  have e:acc.toArray++its.toArray=(acc++its).toArray:=by simp
  have e2:(acc++its)++(List.replicate k its).flatten=acc++(List.replicate (k+1) its).flatten:=by
   rw [List.replicate_succ,List.flatten_cons,List.append_assoc]
  rw [← e2,← foldl_rep its k (acc++its),← e,List.replicate_succ,List.foldl_cons]
section
variable {X:Cx} {pins:List (Addr×Obj)} {σ:St} {H:Hp} {s:Shared} {l b:Addr} {xs ys zs:List V}
theorem Inv.lset {its its':List Value} {n:Nat} {f:Array Value→Array Value} {t':Nat} (I:Inv X pins σ H s) (hH:H l=some (.lst xs))
  (e:s.heap.get? l=some { cls:=.type "list",data:=.seq its.toArray n }) (hf:f its.toArray=its'.toArray) (hv:Vals ys its') (hz:ys.length≤sizeLine) :
  Inv X pins σ (upd H l (.lst ys)) { s with heap:=s.heap.update l (Obj.mapSeq f),toks:=t' }:=by
 have q:=PySem.IsL.update e f
 rw [hf] at q
 refine I.write (x:=l) (e:=l) (by rw [hH]; exact trivial) (.inl rfl) (fun b' u hb hu=>(Heap.get?_update_other s.heap (Obj.mapSeq f) (Ne.symm hb)).trans hu) ⟨_,q⟩ ?_
 exact ⟨hz,its',_,hv,q⟩
theorem Inv.lnew {its:List Value} {t':Nat} (I:Inv X pins σ H s) (hv:Vals ys its) (hz:ys.length≤sizeLine) :
  Inv X pins σ (upd H s.heap.objs.size (.lst ys)) { s with heap:=s.heap.push { cls:=.type "list",data:=.seq its.toArray },toks:=t' }:=
 I.laid (fun _ _ q=>Heap.get?_push_of_some _ q) (Nat.le_refl _) ⟨hz,its,0,hv,Heap.get?_push_size _ rfl⟩
theorem Inv.fresh (I:Inv X pins σ H s):H s.heap.objs.size=none:=I.hok.fresh (Nat.le_refl _)
theorem Inv.lstM (I:Inv X pins σ H s) (hH:H l=some (.lst xs)):xs.length≤sizeLine∧∃ (its:List Value) (n:Nat),Vals xs its∧xs.length=its.length∧s.heap.get? l=some { cls:=.type "list",data:=.seq its.toArray n }:=by
 obtain ⟨z,its,n,r,e⟩:=I.hok l _ hH
 exact ⟨z,its,n,r,r.length,e⟩
theorem notLongL {n:Nat} (h:n≤sizeLine):Builtin.List.listTooLong n=false:=by
 unfold Builtin.List.listTooLong
 exact decide_eq_false (by omega)
end
section
variable {X:Cx}
def rAppend:V→List V→Hp→VK→Prop:=fun x vs H Q=>∃ l xs y,x=.ref l∧vs = [y]∧H l=some (.lst xs)∧xs.length<sizeLine∧Q .non (upd H l (.lst (xs ++ [y])))
theorem mt_append:MtM X "list.append" rAppend:=by
 intro pins s σ H x vs v us Q I rx rv h
 obtain ⟨l,xs,y,rfl,rfl,hH,hz,q⟩:=h
 cases rx
 obtain ⟨u,rfl,ru⟩:=rv.one
 obtain ⟨z,its,n,r,hl,e⟩:=I.lstM hH
 refine call_meets F.slot_list_append ⟨_,e,rfl⟩ F.entry_list_append (F.args_list_append_2 _ _) (PySem.list_append l its.toArray n u (by rw [List.size_toArray]; omega)) ⟨e,?_⟩
 refine ⟨.non,_,I.lset (its':=its ++ [u]) hH e (by simp) (r.append (.cons ru .nil)) ?_,rfl,q⟩
 rw [List.length_append,List.length_singleton]
 omega
def rExtend:V→List V→Hp→VK→Prop:=fun x vs H Q=>∃ l b xs zs,x=.ref l∧vs = [.ref b]∧H l=some (.lst xs)∧H b=some (.lst zs)∧xs.length+zs.length≤sizeLine∧Q .non (upd H l (.lst (xs++zs)))
theorem mt_extend:MtM X "list.extend" rExtend:=by
 intro pins s σ H x vs v us Q I rx rv h
 obtain ⟨l,b,xs,zs,rfl,rfl,hH,hB,hz,q⟩:=h
 cases rx
 obtain ⟨u,rfl,ru⟩:=rv.one
 cases ru
 obtain ⟨z,its,n,r,hl,e⟩:=I.lstM hH
 obtain ⟨z2,its2,n2,r2,hl2,e2⟩:=I.lstM hB
 have hsz:its.toArray.size+its2.toArray.size≤sizeLine:=by rw [List.size_toArray,List.size_toArray]; omega
 have hlong:¬ (!its.toArray.isEmpty&&Builtin.List.listTooLong (its.toArray.size+its2.toArray.size))=true:=by
  rw [notLongL hsz,Bool.and_false]
  exact Bool.false_ne_true
 refine call_meets F.slot_list_extend ⟨_,e,rfl⟩ F.entry_list_extend (F.args_list_extend_2 _ _)
  (AutoSeq1.list_extend_list_list_0 l its.toArray n b its2.toArray n2 hlong (by rw [List.size_toArray]; omega) (by omega)) ⟨e,e2,?_⟩
 refine ⟨.non,_,I.lset (its':=its++its2) hH e (by simp) (r.append r2) ?_,rfl,q⟩
 rw [List.length_append]
 omega
def rPopAt:V→List V→Hp→VK→Prop:=fun x vs H Q=>∃ l xs i k y,x=.ref l∧vs = [.int i]∧H l=some (.lst xs) ∧ -(2^63)≤i∧i<2^63∧seqIndex? i xs.length=some k∧xs[k]?=some y∧Q y (upd H l (.lst (xs.eraseIdx k)))
theorem mt_popAt:MtM X "list.pop" rPopAt:=by
 intro pins s σ H x vs v us Q I rx rv h
 obtain ⟨l,xs,i,k,y,rfl,rfl,hH,h1,h2,hk,hy,q⟩:=h
 cases rx
 obtain ⟨u,rfl,ru⟩:=rv.one
 obtain ⟨t,rfl⟩:=ru
 obtain ⟨z,its,n,r,hl,e⟩:=I.lstM hH
 obtain ⟨w,hw,rw'⟩:=r.get hy
 refine call_meets F.slot_list_pop ⟨_,e,rfl⟩ F.entry_list_pop (F.args_list_pop_2 _ _)
  (MeetsSeq.list_pop_at l its.toArray n i t k w (fitsIndex_both h1 h2) (by rw [List.size_toArray,← hl]; exact hk) (by rw [← Array.getElem?_toList]; exact hw) (by rw [List.size_toArray]; omega)) ⟨e,?_⟩
 refine ⟨y,_,I.lset (its':=its.eraseIdx k) hH e ?_ (r.eraseIdx k) ?_,rw',q⟩
 ·show its.toArray.eraseIdxIfInBounds k=(its.eraseIdx k).toArray
  rw [List.eraseIdxIfInBounds_toArray]
 ·have:=len_erase xs k
  omega
def rCat:R2:=fun x y H Q=>∃ l b xs zs,x=.ref l∧y=.ref b∧H l=some (.lst xs)∧H b=some (.lst zs)∧xs.length+zs.length≤sizeLine∧∀ p,H p=none→Q (.ref p) (upd H p (.lst (xs++zs)))
theorem op_cat:OpR X (binaryOp .Add) rCat:=by
 intro pins s σ H x y v u Q I rx ry h
 obtain ⟨l,b,xs,zs,rfl,rfl,hH,hB,hz,q⟩:=h
 cases rx
 cases ry
 obtain ⟨z,its,n,r,hl,e⟩:=I.lstM hH
 obtain ⟨z2,its2,n2,r2,hl2,e2⟩:=I.lstM hB
 refine PySem.P.add_list e e2 ?_ (by rw [List.size_toArray,List.size_toArray]; omega)
 have ea:its.toArray++its2.toArray=(its++its2).toArray:=by simp
 rw [ea]
 exact ⟨.ref _,_,I.lnew (t':=s.toks) (r.append r2) (by rw [List.length_append]; omega),rfl,q _ I.fresh⟩
def rRep:R2:=fun x y H Q=>∃ l k xs,x=.ref l∧y=.int k∧H l=some (.lst xs) ∧ -(2^63)≤k∧k<2^63∧xs.length*k.toNat≤sizeLine ∧
 ∀ p,H p=none→Q (.ref p) (upd H p (.lst (List.replicate k.toNat xs).flatten))
theorem len_rep {α:Type} (xs:List α) (k:Nat):(List.replicate k xs).flatten.length=k*xs.length:=by
 induction k with
 | zero=>simp
 | succ k ih=>rw [List.replicate_succ,List.flatten_cons,List.length_append,ih,Nat.succ_mul,Nat.add_comm]
theorem op_rep:OpR X (binaryOp .Mult) rRep:=by
 intro pins s σ H x y v u Q I rx ry h
 obtain ⟨l,k,xs,rfl,rfl,hH,h1,h2,hz,q⟩:=h
 cases rx
 obtain ⟨t,rfl⟩:=ry
 obtain ⟨z,its,n,r,hl,e⟩:=I.lstM hH
 have hlen:its.toArray.size*k.toNat≤sizeLine:=by rw [List.size_toArray,← hl]; exact hz
 have hcap:¬ its.toArray.size*k.toNat>(2^63-1)/8:=by
  have:(sizeLine:Nat)≤(2^63-1)/8:=by decide
  omega
 have hfit:¬ (!Builtin.List.listFitsIndex k)=true:=by
  rw [fitsIndex_both h1 h2]
  exact Bool.false_ne_true
 have hlong:¬ Builtin.List.listTooLong (its.toArray.size*k.toNat)=true:=by
  rw [notLongL hlen]
  exact Bool.false_ne_true
 have hnew:List.foldl (fun x1 x2=>x1++x2) #[] (List.replicate (if its.toArray.isEmpty=true then 0 else k.toNat) its.toArray)=(List.replicate k.toNat its).flatten.toArray:=by
  have f0:∀ m:Nat,List.foldl (fun x1 x2=>x1++x2) #[] (List.replicate m its.toArray)=(List.replicate m its).flatten.toArray:=fun m=>by
   have:=foldl_rep its m []
   rw [List.nil_append] at this
   exact this
  rw [f0]
  cases its with
  | nil=>simp
  | cons a r'=>rw [if_neg (by simp)]
 refine wpAny_binaryOp_repeat_ref (T := "list") (U := "int") (by decide) ⟨_,e,rfl⟩ (fun s'=>typeIs_int s' k t) noFill_list_mul F.fills_int_mul F.slot_int_rmul repeat_list F.slot_int_index.lookup
  (call_meets F.slot_int_rmul (typeIs_int s k t) F.entry_int_rmul (F.args_int_rmul_2 _ _) (int___rmul___int_list k t l its.toArray n)
   ⟨e,rfl,⟨_,e,rfl⟩,call_meets F.slot_list_mul ⟨_,e,rfl⟩ F.entry_list_mul (F.args_list_mul_2 _ _) (AutoListH.list___mul___list_int_3 l its.toArray n k t hfit hcap hlong) ⟨e,?_⟩⟩)
 rw [hnew]
 exact ⟨.ref _,_,I.lnew (t':=s.toks) (r.rep k.toNat) (by rw [len_rep,Nat.mul_comm]; exact hz),rfl,q _ I.fresh⟩
end
section
variable {prog:Program} {w:World} {A:Around} {E:Value→Shared→Prop} {s:Shared}
end
section
variable {X:Cx}
end
end L2
namespace Att
open PySem PySem.W PySem.Calls PyProof.Rows
theorem ints_of_wellAll {P:Params} {h:Heap}:∀ (ns:List Int) (vs:List Value),WellAll P h vs (ns.map WData.int)→IntsAre vs ns:=by
 intro ns
 induction ns with
 | nil=>
  intro vs w
  rw [List.map_nil] at w
  cases w
  exact .nil
 | cons n ns ih=>
  intro vs w
  rw [List.map_cons] at w
  cases w with
  | cons a b=>
   cases a
   exact .cons _ _ (ih _ b)
theorem script_of {l:OpenLaw} {n:Nat} (hn:l.most=some n) {P:Params} {h:Heap} {args:List WData} {vals:List Value}
  (hpre:l.row.toRowW.claim.pre args=true) (hwl:WellAll P h vals args) :
  ∃ a vs ns,vals = [Value.ref a]∧args = [WData.list (ns.map WData.int)]∧h.get? a=some { cls:=.type "list",data:=.seq vs.toArray }∧IntsAre vs ns∧ns.length≤n:=by
 have hsh:WShape.hasAll [] args [.list .int]=true:=(pre_splitW hpre).1
 have hc:l.pre.holds [] { args:=args }=true:=(pre_splitW hpre).2
 obtain ⟨d,r,rfl,h1,h2⟩:=hasAllW_cons hsh
 obtain rfl:=hasAllW_nil h2
 obtain ⟨xs,rfl,h3⟩:=hasW_list h1
 obtain ⟨ns,rfl⟩:=items_int h3
 have hlen:ns.length≤n:=by
  unfold OpenLaw.pre at hc
  have h4:(WTm.not (.lt (.lit (.int (n:Int))) (.len (.arg 0)))).holds [] { args:=[.list (ns.map .int)] }=true:=by
   have h4:=(holds_andW hc).1
   rw [hn] at h4
   exact h4
  have h5:=condW_of h4 (w_not (w_lt w_lit (w_len_list (w_arg rfl))))
  rw [List.length_map] at h5
  refine Nat.le_of_not_lt fun q=>?_
  have q':(n:Int)<((ns.length:Nat):Int):=by omega
  first
   | (rw [decide_eq_true q'] at h5; exact absurd h5 (by decide))
   | (simp at h5; omega)
 cases hwl with
 | cons w1 w2=>
  cases w2
  cases w1 with
  | list ho hall=>exact ⟨_,_,ns,rfl,rfl,ho,ints_of_wellAll ns _ hall,hlen⟩
theorem post_true (l:OpenLaw) (args:List WData):l.row.toRowW.claim.post args (.bool true) args=true:=
 postW_of (r:=l.row.toRowW) (X:=(true == true))
  (show WShape.has [] (.bool true) .bool=true by first | rfl | decide | simp [WShape.has,WShape.arms,WShape.armsAll])
  (show (WTm.eq .res (.lit (.bool true))).value [] { args:=args,res:=some (.bool true),after:=args }=some (.bool (true == true)) from w_eq_bool (w_res rfl) w_lit) rfl
theorem attach_call {l:OpenLaw} {n:Nat} {q:Program} {loose:List Str} {XP:(Str→Option Value)→Heap→Prop} {YP:World→Heap→Prop} {d:DefRec}
  (hn:l.most=some n) (hdf:d.params.defaults = [])
  (call:∀ (w:World) (s₀ s₁:Shared) (mg mb:Str→Option Value) (fa:Addr) (o:Obj) (pm cd doc:Value) (a:Addr) (vs:List Value) (ns:List Int),
   Ground q loose [] XP w s₀ mg mb s₁.heap→YP w s₁.heap →
   s₁.heap.get? fa=some o→o.data=.func (docDef d.name d.params d.body d.scope pm cd doc)→s₁.heap.CodeRec cd d.name→mg d.name=some (.ref fa) →
   s₁.heap.get? a=some { cls:=.type "list",data:=.seq vs.toArray }→IntsAre vs ns→ns.length≤n→s₁.gens=#[] →
   codeAny (model l.prog w) callerA (.call (.ref fa) ⟨[.ref a],[]⟩) (fun r s'=>r=.ok (.ret (.bool true))∧OldK s₁.heap s'.heap∧s'.os=s₁.os∧AllBare s'.gens) s₁) :
  WalkO q loose XP YP l.row.toRowW d [] (fun f vs=>PySem.call f vs):=by
 intro w s₀ s₁ mg mb G Y fa o pm cd doc dV kV ho hd hcd hD hmg hg args vals as hpre hlay hrd hwl hlo
 obtain rfl:dV=.none:=Dflts.none hD hdf
 obtain rfl:kV=.none:=Dflts.noKw hD
 obtain ⟨a,vs,ns,rfl,rfl,hobj,hints,hlen⟩:=script_of hn hpre hwl
 refine enter_call (codeAny_mono (call w s₀ s₁ mg mb fa o pm cd doc a vs ns G Y ho (fd_plain hd) hcd hmg hobj hints hlen hg) fun r s' hq=>?_)
 obtain ⟨rfl,h2,h3,h4⟩:=hq
 exact ⟨.inl ⟨.bool true,.bool true,[],rfl,fun _=>rfl,.bool true,post_true l _,fun _=>⟨List.Pairwise.nil,fun _ hm=>(nomatch hm)⟩⟩,h2,h3,h4⟩
section
variable {prog:Program} {w:World} {A:Around} {E:Value→Shared→Prop} {s:Shared} {K:Frag}
end
end Att
namespace L2
open PySem PySem.Spec PyProof.Rows
theorem vals_ints:∀ {vs:List Value} {ns:List Int},IntsAre vs ns→Vals (ns.map V.int) vs
 | _,_,.nil=>.nil
 | _,_,.cons n t h=>.cons ⟨t,rfl⟩ (vals_ints h)
def Only (H:Hp):Prop:=∀ b,H b=none∨∃ o xs,H b=some (.frz o (.lst xs))
theorem law_call {P:Program} {w:World} {K:PySem.W.Frag} {mg mb:Str→Option Value} {CX:CXT} {k:Nat} {fa a:Addr} {fd:FuncData} {x:Str} {sp:Sp} {s₁:Shared} {vs:List Value} {ns:List Int}
  (KX:K.In s₁.heap) (hns:s₁.heap.Ns mainGlobals mg) (hb:s₁.heap.Ns builtinsNs mb) (hbb:∀ x:Str,x ≠ "__name__" → mb x=bootBuiltins x) (hlim:s₁.heap.NoLimit) (hg:s₁.gens=#[])
  (ha:s₁.heap.get? a=some { cls:=.type "list",data:=.seq vs.toArray }) (hi:IntsAre vs ns) (hl:ns.length≤sizeLine) (hr:Room k callerA)
  (F:∀ base:Heap,K.In base→base.Ns mainGlobals mg→FnOk P w K mg base CX k fa fd [x] sp) (hbind:∀ (s:Shared) (u:Value),BindsTo s fd ⟨[u],[]⟩ [(x,u)])
  (hsp:∀ H:Hp,Only H→SqL K H a (ns.map V.int)→sp [.ref a] H (fun v _=>v=.bl true) fun _ _ _=>False)
  (hCX:∀ H e s',CX [] H s₁ (fun _ _ _=>False) e s'→False) :
  codeAny (model P w) callerA (.call (.ref fa) ⟨[.ref a],[]⟩) (fun r s'=>r=.ok (.ret (.bool true))∧OldK s₁.heap s'.heap∧s'.os=s₁.os∧AllBare s'.gens) s₁:=by
 have rv:=vals_ints hi
 have lenV:=hi.length
 -- from an abstract heap in which nothing but the script may be tracked
 have core:∀ H:Hp,Only H→SqL K H a (ns.map V.int)→HOk P w H s₁.heap→(∀ b,H b≠none→b=a)→(H a≠none→K.lookup a=none) →
   codeAny (model P w) callerA (.call (.ref fa) ⟨[.ref a],[]⟩) (fun r s'=>r=.ok (.ret (.bool true))∧OldK s₁.heap s'.heap∧s'.os=s₁.os∧AllBare s'.gens) s₁:=by
  intro H hO hS hok hA hK
  have base_of:∀ {b:Addr} {o:Obj},s₁.heap.get? b=some o→H b=none→(hidT s₁.heap H).get? b=some o:=fun e n=>hidT_get e n
  have noA:∀ {b:Addr} {o:Obj} {es:Array DictEntry} {ep:Nat},s₁.heap.get? b=some o→o.data=.dict es ep→H b=none:=fun {b o es ep} e d=>by
   cases q:H b with
   | none=>rfl
   | some u=>
    have e':b=a:=hA b (by rw [q]; simp)
    subst e'
    rw [ha] at e; cases e
    have d':Data.seq vs.toArray _=Data.dict es ep:=d
    cases d'
  have nsK:∀ {b:Addr} {m:Str→Option Value},s₁.heap.Ns b m→(hidT s₁.heap H).Ns b m:=fun {b m} ⟨o,es,ep,e,d,r⟩=>⟨o,es,ep,base_of e (noA e d),d,r⟩
  have hKb:K.In (hidT s₁.heap H):=fun b o e=>base_of (KX b o e) (by
   cases q:H b with
   | none=>rfl
   | some u=>
    have e':b=a:=hA b (by rw [q]; simp)
    subst e'
    rw [hK (by rw [q]; simp)] at e; cases e)
  have hM:Mod K mg (hidT s₁.heap H):=⟨hKb,nsK hns,⟨mb,nsK hb,hbb⟩,let ⟨mc,h1,h2⟩:=hlim; ⟨mc,nsK h1,h2⟩⟩
  have e0:Env0 P w K mg (hidT s₁.heap H) callerA [] s₁ H:=⟨rfl,hM,fun b o e=>of_hidT e,Nat.le_of_eq (hidT_size _ _),trivial,fun b hb=>absurd (show b∈([]:List Addr) from hb) (by simp),hok,.of_eq hg⟩
  refine codeAny_mono ((F _ hKb (nsK hns)).run callerA [] s₁ H ⟨[.ref a],[]⟩ [.ref a] [.ref a] _ _ hr e0 (hbind s₁ (.ref a)) (.cons rfl .nil) (hsp H hO hS)) fun r s' h=>?_
  cases r with
  | error e=>exact (hCX H e s' h).elim
  | ok fl=>
   cases fl with
   | next=>exact False.elim h
   | brk=>exact False.elim h
   | cont=>exact False.elim h
   | ret u=>
    obtain ⟨v,H',os,bare,un,hok',r',q⟩:=h
    have q':v=.bl true:=q
    subst q'
    obtain rfl:u=Value.bool true:=r'
    refine ⟨rfl,OldK.of_keep fun b o e=>?_,os,bare⟩
    cases q:H b with
    | none=>exact un.keep b o e q (by intro z; exact absurd (show b∈([]:List Addr) from z) (by simp)) (by simp)
    | some u=>
     rcases hO b with z | ⟨ob,xs,z⟩
     ·rw [q] at z; cases z
     ·have z2:=un.frzs b ob _ z
      obtain ⟨e1,_⟩:=hok b _ z
      obtain ⟨e2,_⟩:=hok' b _ z2
      rw [e] at e1; cases e1
      exact e2
 cases hk:K.lookup a with
 | some o=>
  -- the script is one of the module's own objects
  have e:=KX a o hk
  rw [ha] at e
  cases e
  refine core (fun _=>none) (fun _=>.inl rfl) (.inr ⟨_,vs.toArray,_,hk,rfl,rfl,rfl,by rw [List.size_toArray,lenV]; exact hl,by simpa using rv⟩) (fun b u z=>by have z':(none:Option HO)=some u:=z; cases z') (fun b z=>absurd rfl z) fun z=>absurd rfl z
 | none=>
  refine core (fun b=>if b=a then some (.frz { cls:=.type "list",data:=.seq vs.toArray } (.lst (ns.map V.int))) else none) (fun b=>?_) (.inl (.inr ⟨{ cls:=.type "list",data:=.seq vs.toArray },if_pos rfl⟩)) (fun b u z=>?_) (fun b z=>?_) fun _=>hk
  ·by_cases hb:b=a
   ·exact .inr ⟨_,_,if_pos hb⟩
   ·exact .inl (if_neg hb)
  ·by_cases hb:b=a
   ·have z':=(if_pos hb).symm.trans z
    cases z'
    subst hb
    exact ⟨ha,by rw [List.length_map]; exact hl,vs,_,rv,ha⟩
   ·have z':=(if_neg hb).symm.trans z
    cases z'
  ·by_cases hb:b=a
   ·exact hb
   ·exact absurd (if_neg hb) z
end L2
namespace L2
open PySem PySem.Spec PyProof.Rows
theorem walk_of {l:PySem.W.OpenLaw} {n k:Nat} {q:Program} {loose:List Str} {XP:(Str→Option Value)→Heap→Prop} {YP:World→Heap→Prop} {d:DefRec} {K:Params→PySem.W.Frag} {CX:World→CXT} {sp:World→Sp} {x:Str}
  (hn:l.most=some n) (hn2:n≤sizeLine) (hdf:d.params.defaults = []) (hr:Room k callerA)
  (hY:∀ (w:World) (h:Heap),YP w h→(K w.params).In h)
  (F:∀ (w:World) (mg:Str→Option Value) (fa:Addr) (h:Heap),(K w.params).In h→h.Ns mainGlobals mg→mg d.name=some (.ref fa) →
   ∃ fd:FuncData,(∀ (s:Shared) (u:Value),BindsTo s fd ⟨[u],[]⟩ [(x,u)]) ∧
    ∀ base:Heap,(K w.params).In base→base.Ns mainGlobals mg→FnOk l.prog w (K w.params) mg base (CX w) k fa fd [x] (sp w))
  (hsp:∀ (w:World) (H:Hp) (a:Addr) (ns:List Int),ns.length≤n→Only H→SqL (K w.params) H a (ns.map V.int)→sp w [.ref a] H (fun v _=>v=.bl true) fun _ _ _=>False)
  (hCX:∀ (w:World) (H:Hp) (s:Shared) (e:Value) (s':Shared),CX w [] H s (fun _ _ _=>False) e s'→False) :
  PySem.W.WalkO q loose XP YP l.row.toRowW d [] (fun f vs=>PySem.call f vs):=by
 refine Att.attach_call hn hdf fun w s₀ s₁ mg mb fa o pm cd doc a vs ns G Y ho hd hcd hmg hobj hints hlen hg=>?_
 have KX:=hY w _ Y
 obtain ⟨fd,hb,hF⟩:=F w mg fa _ KX G.T.g hmg
 exact law_call KX G.T.g G.T.b G.T.builtins G.T.nolimit hg hobj hints (Nat.le_trans hlen hn2) hr hF hb (fun H hO hS=>hsp w H a ns hlen hO hS) fun H e s'=>hCX w H s₁ e s'
theorem walk_ofK {l:PySem.W.OpenLaw} {n k:Nat} {q:Program} {loose:List Str} {XP:(Str→Option Value)→Heap→Prop} {YP:World→Heap→Prop} {d:DefRec} {K:Params→PySem.W.Frag} {CX:CXT} {sp:PySem.W.Frag→Sp} {x:Str}
  (hn:l.most=some n) (hn2:n≤sizeLine) (hdf:d.params.defaults = []) (hr:Room k callerA)
  (hY:∀ (w:World) (h:Heap),YP w h→(K w.params).In h)
  (F:∀ (w:World) (mg:Str→Option Value) (fa:Addr) (h:Heap),(K w.params).In h→h.Ns mainGlobals mg→mg d.name=some (.ref fa) →
   ∃ fd:FuncData,(∀ (s:Shared) (u:Value),BindsTo s fd ⟨[u],[]⟩ [(x,u)]) ∧
    ∀ base:Heap,(K w.params).In base→base.Ns mainGlobals mg→FnOk l.prog w (K w.params) mg base CX k fa fd [x] (sp (K w.params)))
  (hsp:∀ (K:PySem.W.Frag) (H:Hp) (a:Addr) (ns:List Int),ns.length≤n→Only H→SqL K H a (ns.map V.int)→sp K [.ref a] H (fun v _=>v=.bl true) fun _ _ _=>False)
  (hCX:∀ (H:Hp) (s:Shared) (e:Value) (s':Shared),CX [] H s (fun _ _ _=>False) e s'→False) :
  PySem.W.WalkO q loose XP YP l.row.toRowW d [] (fun f vs=>PySem.call f vs):=
 walk_of (K:=K) (CX:=fun _=>CX) (sp:=fun w=>sp (K w.params)) hn hn2 hdf hr hY F (fun w H a ns h1 h2 h3=>hsp (K w.params) H a ns h1 h2 h3) fun _ H s e s'=>hCX H s e s'
end L2
namespace L2
open PySem PySem.Spec PyProof.Rows
def defArgs (s:Stmt):Arguments:=match s with
 | .FunctionDef _ a _ _ _ _ _ _ _ _=>a
 | _=>{ posonlyargs:=[],args:=[],vararg:=none,kwonlyargs:=[],kw_defaults:=[],kwarg:=none,defaults:=[] }
def defBody (s:Stmt):List Stmt:=match s with
 | .FunctionDef _ _ b _ _ _ _ _ _ _=>b
 | _=>[]
def defScope (s:Stmt):Scope:=match s with
 | .FunctionDef _ _ _ _ _ _ sc _ _ _=>sc
 | _=>{ kind:=.function,names:=[],isGenerator:=false,isCoroutine:=false }
abbrev CX0:CXT:=fun _ _ _ _ _ _=>False
abbrev E0:XK:=fun _ _ _=>False
theorem pass0 {X:Cx}:Passes CX0 X E0:=fun _ _ _ _ _ _ _ h=>h.elim
structure Fun (K:PySem.W.Frag) (x qual:Str) (st:Stmt) (f:Addr) (fd:FuncData):Prop where
 ex:∃ (oc:Value) (od:Option Addr) (kV doc pm:Value) (an:Option Addr) (cdv ct:Value) (osl:Array (Option Value)),
  fd=PySem.W.fnOf x qual (defArgs st) (defBody st) (defScope st) .none kV doc pm an cdv ct∧K.lookup f=some ⟨oc,od,.func fd,osl⟩∧PySem.W.codeIn K cdv qual=true
 kp:PySem.W.keepIn K (.ref f)=true
section
variable {P:Program} {w:World} {K:PySem.W.Frag} {mg:Str→Option Value} {base:Heap}
theorem Fun.ok {x qual:Str} {st:Stmt} {f:Addr} {fd:FuncData} {N ps:List Str} {k:Nat} {sp:Sp} (F:Fun K x qual st f fd) (S:FnScope N ps (defScope st)) (len:∀ vs H Q E,sp vs H Q E→vs.length=ps.length)
  (hbody:∀ (cdv:Value) (A:Around) (outer:List Env) (s:Shared) (H:Hp) (vs:List V) (Q:VK) (E:XK),Room k (A.deeper (envOfC qual (defScope st) s.heap.objs.size f cdv))→sp vs H Q E →
   ∃ t,PSs (cxOf CX0 P w K mg base N qual (defScope st) f cdv A outer s H E).nox (defBody st) t∧t { nx:=fun _ H'=>Q .non H',rt:=Q } (start N vs) H):FnOk P w K mg base CX0 (k+1) f fd ps sp:=by
 obtain ⟨oc,od,kV,doc,pm,an,cdv,ct,osl,rfl,lk,hcd⟩:=F.ex
 refine fn_of lk hcd S len fun A outer s H vs Q E hr hsp=>?_
 obtain ⟨t,h,q⟩:=hbody cdv A outer s H vs Q E hr hsp
 exact ⟨t,h.nox,q⟩
theorem Fun.binds {x qual:Str} {st:Stmt} {f:Addr} {fd:FuncData} {ps:List Str} (F:Fun K x qual st f fd)
  (h:∀ (kV doc pm:Value) (an:Option Addr) (cdv ct:Value) (us:List Value),us.length=ps.length→bindArgs (PySem.W.fnOf x qual (defArgs st) (defBody st) (defScope st) .none kV doc pm an cdv ct) ⟨us,[]⟩=pure (ps.zip us)):Binds K fd ps []:=by
 obtain ⟨oc,od,kV,doc,pm,an,cdv,ct,osl,rfl,lk,hcd⟩:=F.ex
 exact .all (h kV doc pm an cdv ct)
theorem fun_mk {x qual:Str} {st:Stmt} {f:Addr} {oc:Value} {od an:Option Addr} {osl:Array (Option Value)} {kV doc pm cdv ct:Value} (l:K.lookup f=some ⟨oc,od,.func (PySem.W.fnOf x qual (defArgs st) (defBody st) (defScope st) .none kV doc pm an cdv ct),osl⟩)
  (c:PySem.W.codeIn K cdv qual=true) (k:PySem.W.keepIn K (.ref f)=true):Fun K x qual st f (PySem.W.fnOf x qual (defArgs st) (defBody st) (defScope st) .none kV doc pm an cdv ct):=⟨⟨oc,od,kV,doc,pm,an,cdv,ct,osl,rfl,l,c⟩,k⟩
end
theorem small1000 {n:Nat} (h:n≤1000):n<sizeLine:=Nat.lt_of_le_of_lt h (by decide)
section
variable {X:Cx}
theorem pv (i:Nat) {x:Str} {pos:Pos} (hN:X.N[i]?=some x:=by rfl) (hv:Vis X.env.scope x:=by first | exact Or.inl rfl | exact Or.inr (Or.inl rfl) | exact Or.inr (Or.inr rfl)) (hd:(x == ("__debug__" : Str))=false:=by decide)
  (hcd:(x == ("__classdict__" : Str))=false:=by decide):PE X (.Name x pos) (tVar i):=pe_var hN hv hd hcd
end
def Same (H H':Hp):Prop:=∀ b o,H b=some o→H' b=some o
theorem Same.refl (H:Hp):Same H H:=fun _ _ h=>h
theorem Same.trans {H H1 H2:Hp} (a:Same H H1) (b:Same H1 H2):Same H H2:=fun c o h=>b c o (a c o h)
theorem Same.free {H H':Hp} (e:Same H H') {l:Addr} (h:H' l=Option.none):H l=Option.none:=by
 cases q:H l with
 | none=>rfl
 | some o=>
  rw [e l o q] at h
  cases h
theorem Same.seq {K:PySem.W.Frag} {H H':Hp} {a:Addr} {xs:List V} (e:Same H H') (h:SqL K H a xs):SqL K H' a xs:=by
 rcases h with (h | ⟨o,h⟩) | h
 ·exact .inl (.inl (e _ _ h))
 ·exact .inl (.inr ⟨o,e _ _ h⟩)
 ·exact .inr h
end L2
set_option Elab.async false
set_option linter.all false
set_option maxRecDepth 100000
namespace L2
open PySem PySem.Spec PyProof.Rows
def Dk (h h':Heap):Prop:=∀ b o,h.get? b=some o→∃ o',h'.get? b=some o'∧o'.cls=o.cls∧o'.dict=o.dict
structure KD {α:Type} (t:Sem α):Prop where
 out:∀ (M:Model) (Γ:PySem.Ctx) (P:α→Pos→Shared→Prop) (Ee:Value→Pos→Shared→Prop) (p:Pos) (s:Shared),
  Sem.wp M Γ t P Ee p s→Sem.wp M Γ t (fun a p' s'=>P a p' s'∧Dk s.heap s'.heap) Ee p s
def cut (h:Heap) (fs:List Addr):Heap:={ h with objs:=h.objs.mapIdx fun i o=>if i∈fs then { o with data:=.freed } else o }
section
variable {P:Program} {w:World} {K:PySem.W.Frag} {mg:Str→Option Value} {base:Heap} {N:List Str} {qual:Str} {scope:Scope} {f:Addr} {cd:Value} {A:Around} {outer:List Env} {s:Shared} {H:Hp} {E:XK}
 {pins:List (Addr×Obj)} {σ:St} {H':Hp} {s2:Shared} {a:Addr}
end
end L2
set_option Elab.async false
set_option linter.all false
set_option maxRecDepth 100000
namespace L2
open PySem PySem.Spec PyProof.Rows
section
variable {prog:Program} {w:World} {A:Around} {E:Value→Shared→Prop} {s:Shared} {K:PySem.W.Frag} {x C:Addr} {ox:Obj} {od:Option Obj} {name:Str} {tk:Tok} {fill expr:Bool} {v:Value} {Q:Value→Shared→Prop}
end
end L2
set_option Elab.async false
set_option linter.all false
set_option maxRecDepth 100000
namespace L2
open PySem PySem.Spec PyProof.Rows
section
variable {prog:Program} {w:World} {A:Around} {E:Value→Shared→Prop} {s:Shared} {K:PySem.W.Frag} {x C:Addr} {ox:Obj} {name:Str} {tk:Tok} {v:Value} {Q:Unit→Shared→Prop}
end
end L2
set_option Elab.async false
set_option linter.all false
set_option maxRecDepth 100000
namespace L2
open PySem PySem.Spec PyProof.Rows
section
variable {prog:Program} {w:World} {A:Around} {s:Shared} {K:PySem.W.Frag} {C f:Addr} {R:Result→Shared→Prop} {nm q:Str} {N:Addr} {bs bm bmB:List Value} {hdct:Bool} {sn:List Str} {sub:List Value} {ab:Bool} {col:Option Bool} {dd:Option Addr} {k0 k1 k2 k3 k5:Option Value}
 {B Bn newId nid initId inN:String} {bmN:List Value} {rest:List Value}
end
end L2
set_option Elab.async false
set_option linter.all false
set_option maxRecDepth 100000
namespace L2
open PySem PySem.Spec PyProof.Rows
section
variable {prog:Program} {w:World} {A:Around} {E:Value→Shared→Prop} {s:Shared} {K:PySem.W.Frag} {env:Env} {x:Expr} {pos:Pos} {Q:Flow→Shared→Prop}
end
end L2
set_option Elab.async false
set_option linter.all false
set_option maxRecDepth 100000
namespace L2
open PySem PySem.Spec PyProof.Rows
section
variable {X:Cx} {pins:List (Addr×Obj)} {σ σ':St} {H:Hp} {s:Shared}
end
end L2
set_option Elab.async false
set_option linter.all false
set_option maxRecDepth 100000
namespace L2
open PySem PySem.Spec PyProof.Rows
section
variable {X:Cx} {pins:List (Addr×Obj)} {σ:St} {H H':Hp} {s s1:Shared}
end
end L2
set_option Elab.async false
set_option linter.all false
set_option maxRecDepth 100000
namespace L2
open PySem PySem.Spec PyProof.Rows
section
variable {X:Cx} {pins:List (Addr×Obj)} {σ:St} {H H':Hp} {s s1:Shared} {a:Addr} {B:Heap} {cls:Value} {od:Option Addr}
structure Here (X:Cx) (pins:List (Addr×Obj)) (σ:St) (H':Hp) (a:Addr) (B:Heap) (cls:Value) (od:Option Addr) (s:Shared):Prop where
 inv:Inv X pins σ H' s
 dict:∃ o,s.heap.get? a=some o∧o.dict=od
end
end L2
set_option Elab.async false
set_option linter.all false
set_option maxRecDepth 100000
namespace L2
open PySem PySem.Spec PyProof.Rows
section
variable {X:Cx} {k:Nat} {f:Addr} {fd:FuncData} {ps:List Str} {sp:Sp} {fn cn n y:Str} {fp cp ap np hpos yp pos:Pos} {e:Expr} {es:List Expr} {t:TA} {C:Addr} {i jn:Nat} {b0:Stmt} {suite:List Stmt} {tb:TS}
def tCatch (X:Cx) (C:Addr) (jn:Nat) (tb:TS) (D:Ends) (σ:St):XK:=fun cls od H'=>∃ Dc,cls=.ref Dc∧PySem.W.exmOne X.K (.ref Dc) (.ref C)=some true ∧
 ∀ (a:Addr) (o:Obj),H' a=none→o.cls=cls→o.dict=od→(∃ vs:Array Value,o.data=.fields vs) →
  tb { nx:=fun σ' H'=>D.nx (σ'.set jn none) H',rt:=D.rt,bk:=fun σ' H'=>D.bk (σ'.set jn none) H',ct:=fun σ' H'=>D.ct (σ'.set jn none) H' } (σ.set jn (some (.ref a))) (upd H' a (.ext fun h=>h.get? a=some o))
end
end L2
set_option Elab.async false
set_option linter.all false
set_option maxRecDepth 100000
namespace L2
open PySem PySem.Spec PyProof.Rows
section
variable {X:Cx} {pins:List (Addr×Obj)} {σ:St} {H:Hp} {s:Shared}
end
end L2
set_option Elab.async false
set_option linter.all false
set_option maxRecDepth 100000
namespace L2
open PySem PySem.Spec PyProof.Rows
section
variable {X:Cx}
end
end L2
set_option Elab.async false
set_option linter.all false
set_option maxRecDepth 100000
namespace L2
open PySem PySem.Spec PyProof.Rows
section
variable {X:Cx} {pins:List (Addr×Obj)} {σ:St} {H:Hp} {s:Shared}
end
end L2
set_option Elab.async false
set_option linter.all false
set_option maxRecDepth 100000
namespace L2
open PySem PySem.Spec PyProof.Rows
section
variable {P:Program} {w:World} {K:PySem.W.Frag} {mg:Str→Option Value} {base:Heap} {N:List Str} {qual:Str} {scope:Scope} {f0:Addr} {cd:Value} {A:Around} {outer:List Env} {s0:Shared} {H0:Hp} {E:XK}
 {k:Nat} {C f:Addr} {fd:FuncData} {ps:List Str} {sp:Sp} {cn:Str} {np cp pos:Pos} {e:Expr} {es:List Expr} {t:TA}
end
end L2
set_option Elab.async false
set_option linter.all false
set_option maxRecDepth 100000
namespace L2
open PySem PySem.Spec PyProof.Rows
section
variable {P:Program} {w:World} {K:PySem.W.Frag} {mg:Str→Option Value} {base:Heap} {k:Nat} {f:Addr} {fd:FuncData} {ps N:List Str} {sp:Sp} {CX:CXT}
end
end L2
set_option Elab.async false
set_option linter.all false
set_option maxRecDepth 100000
namespace L2
open PySem PySem.Spec PyProof.Rows
section
variable {X:Cx} {o:Expr} {ta:TE} {name:Str} {pos:Pos}
end
end L2
set_option Elab.async false
set_option linter.all false
set_option maxRecDepth 100000
namespace L2
open PySem PySem.Spec PyProof.Rows
section
variable {X:Cx} {pins:List (Addr×Obj)} {σ:St} {H:Hp} {s:Shared} {A:Around} {E:Value→Shared→Prop} {Q:Value→Shared→Prop} {c:Value} {b:Bool} {a C:Addr} {ox:Obj} {vs:Array Value}
end
end L2
set_option Elab.async false
set_option linter.all false
set_option maxRecDepth 100000
namespace L2
open PySem PySem.Spec PyProof.Rows
section
variable {P:Program} {w:World} {K:PySem.W.Frag} {mg:Str→Option Value} {base:Heap} {N:List Str} {qual:Str} {scope:Scope} {f0:Addr} {cd:Value} {A:Around} {outer:List Env} {s0:Shared} {H0:Hp} {E:XK}
 {C:Addr} {cn:Str} {np cp pos:Pos} {e:Expr} {es:List Expr} {t:TA}
end
end L2
set_option Elab.async false
set_option linter.all false
set_option maxRecDepth 100000
namespace L2
open PySem
structure Nx {α:Type} (t:Sem α):Prop where
 out:∀ (M:Model) (Γ:PySem.Ctx) (P:α→Pos→Shared→Prop) (Ee Ef:Value→Pos→Shared→Prop) (p:Pos) (s:Shared),Sem.wp M Γ t P Ee p s→Sem.wp M Γ t P Ef p s
structure Po {α:Type} (t:Sem α) (pre:Shared→Prop) (post:α→Shared→Prop):Prop where
 out:∀ (M:Model) (Γ:PySem.Ctx) (P:α→Pos→Shared→Prop) (Ee Ef:Value→Pos→Shared→Prop) (p:Pos) (s:Shared),
  pre s→Sem.wp M Γ t P Ee p s→Sem.wp M Γ t (fun a p' s'=>P a p' s'∧post a s') Ef p s
def FldAt (v:Value) (i:Nat) (x:Value) (h:Heap):Prop:=∃ (a:Addr) (o:Obj) (vs:Array Value),v=.ref a∧h.get? a=some o∧o.data=.fields vs∧vs[i]?=some x
def Marked (e:Value) (f:Addr) (h:Heap):Prop:=∃ t,FldAt e 1 t h∧FldAt t 3 (rawInt f) h∧t≠.none
structure Free {α:Type} (t:Sem α):Prop where
 out:∀ (M:Model) (Γ Γ':PySem.Ctx) (P P':α→Pos→Shared→Prop) (E E':Value→Pos→Shared→Prop) (p p':Pos) (s:Shared),(∀ a p p' s,P a p s→P' a p' s)→(∀ a p p' s,E a p s→E' a p' s)→Sem.wp M Γ t P E p s→Sem.wp M Γ' t P' E' p' s
end L2
set_option Elab.async false
set_option linter.all false
set_option maxRecDepth 100000
namespace L2
open PySem PySem.Spec PyProof.Rows
section
variable {X:Cx} {k:Nat} {f:Addr} {fd:FuncData} {ps:List Str} {sp:Sp} {fn cn n y:Str} {fp cp ap np hpos yp pos:Pos} {e:Expr} {es:List Expr} {t:TA} {C:Addr} {i jn:Nat} {b0:Stmt} {suite:List Stmt} {tb:TS}
end
end L2
set_option Elab.async false
set_option linter.all false
set_option maxRecDepth 100000
namespace L2
open PySem PySem.Spec PyProof.Rows
section
variable {X:Cx} {k:Nat} {C f:Addr} {fd:FuncData} {ps:List Str} {sp:Sp} {cn:Str} {np cp pos:Pos} {e:Expr} {es:List Expr} {t:TA}
end
end L2
set_option Elab.async false
set_option linter.all false
set_option maxRecDepth 100000
namespace L2
open PySem PySem.Spec PyProof.Rows
section
variable {κ:Type} [DecidableEq κ]
def valV (kvs:List (κ×V)) (k:κ):Option V:=(kvs.find? fun kv=>decide (kv.1=k)).map (·.2)
def putK (kvs:List (κ×V)) (k:κ) (v:V):List (κ×V):=
 if (kvs.any fun kv=>decide (kv.1=k))=true then kvs.map (fun kv=>if kv.1=k then (kv.1,v) else kv) else kvs ++ [(k,v)]
def dropK (kvs:List (κ×V)) (k:κ):List (κ×V):=kvs.filter fun kv=>decide (kv.1≠k)
end
abbrev KT (H:Hp):List (List Key×V)→List (List Key×Addr×Value)→Prop:=Paired fun p q=>p.1=q.1∧H q.2.1=some (.tup (p.1.map kV))∧RelV p.2 q.2.2
section
variable {P:Program} {w:World} {H:Hp} {h:Heap} {a:Addr}
end
def DGet (H:Hp) (a:Addr) (y:V) (r:Option V):Prop:=
 (∃ kvs k,Rd H a (.dK kvs)∧y=kV k∧r=valV kvs k)∨∃ kvs k b,Rd H a (.dT kvs)∧y=.ref b∧H b=some (.tup (k.map kV))∧r=valV kvs k
def DPut (H:Hp) (a:Addr) (y v:V) (H':Hp):Prop:=
 (∃ kvs k,H a=some (.dK kvs)∧y=kV k∧kvs.length<sizeLine∧H'=upd H a (.dK (putK kvs k v))) ∨
 ∃ kvs k b,H a=some (.dT kvs)∧y=.ref b∧H b=some (.tup (k.map kV))∧kvs.length<sizeLine∧H'=upd H a (.dT (putK kvs k v))
section
variable {X:Cx} {pins:List (Addr×Obj)} {σ:St} {H:Hp} {s:Shared} {a:Addr} {y v:V} {u r:Value} {o:Option V} {A:Around} {E:Value→Shared→Prop}
end
section
variable {X:Cx} {pins:List (Addr×Obj)} {σ:St} {H:Hp} {s:Shared} {a:Addr} {kvs:List (Key×V)} {k:Key} {u:Value} {A:Around} {E:Value→Shared→Prop}
end
section
variable {X:Cx} {o i e value:Expr} {pos pos' tpos:Pos} {td ty tv:TE}
end
section
variable {X:Cx} {pos:Pos}
end
end L2
set_option Elab.async false
set_option linter.all false
set_option maxRecDepth 100000
namespace L2
open PySem
structure Sub where
 t:Bool
 i:Addr
 l:Addr
def Sub.At (u:Sub) (h:Heap) (n:Nat):Prop:=if u.t=true then h.IsTupleIter u.i u.l n else h.IsListIter u.i u.l n
def Sub.Src (u:Sub) (h:Heap) (xs:Array Value):Prop:=if u.t=true then h.IsTuple u.l xs else h.IsList u.l xs
theorem Sub.At.obj {u:Sub} {h:Heap} {n:Nat} (x:u.At h n):∃ o,h.get? u.i=some o∧o.data=.fields #[.ref u.l,.int n 0]:=by
 unfold Sub.At at x
 split at x <;> (obtain ⟨o,e,_,d⟩:=x; exact ⟨o,e,d⟩)
theorem Sub.At.keep {u:Sub} {h h':Heap} {n:Nat} (x:u.At h n) (k:∀ o,h.get? u.i=some o→h'.get? u.i=some o):u.At h' n:=by
 unfold Sub.At at x ⊢
 split at x <;> (rename_i ht; obtain ⟨o,e,r⟩:=x; simp only [ht,if_true,if_false,Bool.false_eq_true]; exact ⟨o,k o e,r⟩)
theorem Sub.Src.keep {u:Sub} {h h':Heap} {xs:Array Value} (x:u.Src h xs) (k:∀ o,h.get? u.l=some o→h'.get? u.l=some o):u.Src h' xs:=by
 unfold Sub.Src at x ⊢
 split at x <;> (rename_i ht; obtain ⟨o,e,r⟩:=x; simp only [ht,if_true,if_false,Bool.false_eq_true]; exact ⟨o,k o e,r⟩)
section
variable {prog:Program} {w:World} {A:Around} {E:Value→Shared→Prop} {s:Shared}
theorem nextOf_tup_item {it t:Addr} {i:Nat} {items:Array Value} {x:Value} {Q:Value→Shared→Prop} (hit:s.heap.IsTupleIter it t i) (ht:s.heap.IsTuple t items) (hx:items[i]?=some x)
  (hQ:∀ h',h'.IsTupleIter it t (i+1)→Heap.SameBut it s.heap h'→Q x { s with heap:=h' }):wpAny (model prog w) A (Builtin.SmallTypes.nextOf (.ref it)) Q E s:=by
 obtain ⟨o,ho,hc,hd⟩:=id hit; obtain ⟨ol,hol,_,nl,hdl⟩:=ht; unfold Builtin.SmallTypes.nextOf
 refine wpAny_bind (wpAny_callSpecial?_slot (name:=Str.ofString "__next__") hit.typeIs F.slot_tuple_iterator_next (wpAny_call_entry F.slot_tuple_iterator_next hit.typeIs F.entry_tuple_iterator_next ?_ (F.args_tuple_iterator_next_1 _)))
 show wpAny _ _ (field (.ref it) 0>>=_) _ _ s; refine wpAny_bind (wpAny_field ho hd (x:=.ref t) rfl ?_)
 show wpAny _ _ (if (Value.ref t == Value.none)=true then _ else _) _ _ s; rw [if_neg (show ¬ ((Value.ref t == Value.none)=true) from Bool.false_ne_true)]
 show wpAny _ _ (field (.ref it) 1>>=_) _ _ s; refine wpAny_bind (wpAny_field ho hd (x:=.int i 0) rfl ?_)
 show wpAny _ _ (seqItems? (.ref t)>>=_) _ _ s; refine wpAny_bind (wpAny_seqItems hol hdl ?_); simp only [Int.toNat_natCast,hx]
 refine wpAny_bind (wpAny_setField ho hd (by simp) (wpAny_pure ⟨x,rfl,wpAny_pure (hQ _ ?_ (Heap.SameBut.update ..))⟩)); exact ⟨_,Heap.get?_update_self _ ho (Obj.isFreed_of_fields (Obj.data_mapFields hd _)),(Obj.cls_mapFields ..).trans hc,by rw [Obj.data_mapFields hd]; simp [rawInt]⟩
theorem nextOf_tup_end {it t:Addr} {i:Nat} {items:Array Value} {Q:Value→Shared→Prop} (hh:A.handled=none) (hit:s.heap.IsTupleIter it t i) (ht:s.heap.IsTuple t items) (hx:items[i]?=none)
  (hE:∀ h' e,Heap.ExtBut it s.heap h'→(∃ o,h'.get? e=some o∧o.cls=.type "StopIteration")→E (.ref e) { s with heap:=h' }):wpAny (model prog w) A (Builtin.SmallTypes.nextOf (.ref it)) Q E s:=by
 obtain ⟨o,ho,hc,hd⟩:=id hit; obtain ⟨ol,hol,_,nl,hdl⟩:=ht; unfold Builtin.SmallTypes.nextOf
 refine wpAny_bind (wpAny_callSpecial?_slot (name:=Str.ofString "__next__") hit.typeIs F.slot_tuple_iterator_next (wpAny_call_entry F.slot_tuple_iterator_next hit.typeIs F.entry_tuple_iterator_next ?_ (F.args_tuple_iterator_next_1 _)))
 show wpAny _ _ (field (.ref it) 0>>=_) _ _ s; refine wpAny_bind (wpAny_field ho hd (x:=.ref t) rfl ?_)
 show wpAny _ _ (if (Value.ref t == Value.none)=true then _ else _) _ _ s; rw [if_neg (show ¬ ((Value.ref t == Value.none)=true) from Bool.false_ne_true)]
 show wpAny _ _ (field (.ref it) 1>>=_) _ _ s; refine wpAny_bind (wpAny_field ho hd (x:=.int i 0) rfl ?_)
 show wpAny _ _ (seqItems? (.ref t)>>=_) _ _ s; refine wpAny_bind (wpAny_seqItems hol hdl ?_); simp only [Int.toNat_natCast,hx]
 refine wpAny_bind (wpAny_rule (wpAny_bind (wpAny_setField ho hd (by simp) ?_))); show wpAny _ _ (newExc (.type "StopIteration") []>>=_) _ _ _
 refine wpAny_bind ?_; simp only [newExc,newTuple]; refine wpAny_bind (wpAny_newObj_type ?_ (by size_fits))
 refine wpAny_bind (m:=firstArgMember _ _) (wpAny_of_eq (a:=Value.none) (by first | rfl | (simp only [firstArgMember]; rfl)) ?_); refine wpAny_newObj_type ?_ (by size_fits); simp only [raiseNew]
 refine wpAny_bind (wpAny_handled ?_); first | rw [show A.in1.handled=none from hh] | rw [hh]
 refine wpAny_bind (wpAny_pure (wpAny_throw ?_)); exact hE _ _ (((Heap.SameBut.update ..).extBut.push _).push _) ⟨_,Heap.get?_push_size _ rfl,rfl⟩
theorem Sub.item {u:Sub} {n:Nat} {xs:Array Value} {x:Value} {Q:Value→Shared→Prop} (ha:u.At s.heap n) (hs:u.Src s.heap xs) (hx:xs[n]?=some x)
  (hQ:∀ h',u.At h' (n+1)→Heap.SameBut u.i s.heap h'→Q x { s with heap:=h' }):wpAny (model prog w) A (Builtin.SmallTypes.nextOf (.ref u.i)) Q E s:=by
 unfold Sub.At at ha hQ; unfold Sub.Src at hs
 cases ht:u.t with
 | true=>simp only [ht,if_true] at ha hs hQ; exact nextOf_tup_item ha hs hx hQ
 | false=>simp only [ht,if_false,Bool.false_eq_true] at ha hs hQ; exact wpAny_nextOf_list_item ha hs hx hQ
theorem Sub.ends {u:Sub} {n:Nat} {xs:Array Value} {Q:Value→Shared→Prop} (hh:A.handled=none) (ha:u.At s.heap n) (hs:u.Src s.heap xs) (hx:xs[n]?=none)
  (hE:∀ h' e,Heap.ExtBut u.i s.heap h'→(∃ o,h'.get? e=some o∧o.cls=.type "StopIteration")→E (.ref e) { s with heap:=h' }):wpAny (model prog w) A (Builtin.SmallTypes.nextOf (.ref u.i)) Q E s:=by
 unfold Sub.At at ha; unfold Sub.Src at hs
 cases ht:u.t with
 | true=>simp only [ht,if_true] at ha hs; exact nextOf_tup_end hh ha hs hx hE
 | false=>simp only [ht,if_false,Bool.false_eq_true] at ha hs; exact wpAny_nextOf_list_end hh ha hs hx hE
abbrev TupO (h:Heap) (T:Addr) (arr:Array Value):Prop:=h.get? T=some { cls:=.type "tuple",data:=.seq arr }
def drawn (n:Nat):List (Sub×Array Value)→Nat→Array Value→Array Value
 | [],_,arr=>arr
 | u::r,c,arr=>drawn n r (c+1) (arr.setIfInBounds c (u.2.getD n .none))
def DrawB (prog:Program) (w:World) (A:Around) (z TO:Addr) (E:Value→Shared→Prop) (B:Value×Nat→Option Fin×Unit→Sem (ForInStep (Option Fin×Unit))):Prop:=
 ∀ (v:Value) (k:Nat) (s:Shared) (Q:ForInStep (Option Fin×Unit)→Shared→Prop),
  wpAny (model prog w) A (Builtin.SmallTypes.nextOf v) (fun x s1=>∃ arr,TupO s1.heap TO arr∧arr.size≤sizeLine∧∀ h',TupO h' TO (arr.setIfInBounds k x)→Heap.SameBut TO s1.heap h'→Q (.yield (none,())) { s1 with heap:=h' })
   (fun e s1=>wpAny (model prog w) A (setField (.ref z) 0 .none) (fun _ s2=>E e s2) E s1) s→wpAny (model prog w) A (B (v,k) (none,())) Q E s
structure Apart (z TO:Addr) (ss:List (Sub×Array Value)):Prop where
 zTO:z≠TO
 zi:∀ u∈ss,u.1.i≠z
 ti:∀ u∈ss,u.1.i≠TO
 nd:ss.Pairwise fun u v=>u.1.i≠v.1.i
 lz:∀ u∈ss,u.1.l≠z
 lt:∀ u∈ss,u.1.l≠TO
 li:∀ u∈ss,∀ v∈ss,u.1.l≠v.1.i
theorem Apart.tail {z TO:Addr} {u:Sub×Array Value} {ss:List (Sub×Array Value)} (D:Apart z TO (u::ss)):Apart z TO ss:=
 ⟨D.zTO,fun v hv=>D.zi v (List.mem_cons_of_mem _ hv),fun v hv=>D.ti v (List.mem_cons_of_mem _ hv),(List.pairwise_cons.mp D.nd).2,fun v hv=>D.lz v (List.mem_cons_of_mem _ hv),fun v hv=>D.lt v (List.mem_cons_of_mem _ hv),
  fun v hv x hx=>D.li v (List.mem_cons_of_mem _ hv) x (List.mem_cons_of_mem _ hx)⟩
theorem draws {z TI TO:Addr} {n:Nat} {B:Value×Nat→Option Fin×Unit→Sem (ForInStep (Option Fin×Unit))} (hB:DrawB prog w A z TO E B) :
  ∀ (ss:List (Sub×Array Value)) (c:Nat) (arr:Array Value) (s:Shared) (Q:Option Fin×Unit→Shared→Prop),Apart z TO ss→IsZip s.heap z TI TO .ellipsis→TupO s.heap TO arr→arr.size≤sizeLine →
   (∀ u∈ss,u.1.At s.heap n∧u.1.Src s.heap u.2∧∃ x,u.2[n]?=some x) →
   (∀ h',IsZip h' z TI TO .ellipsis→TupO h' TO (drawn n ss c arr)→(∀ u∈ss,u.1.At h' (n+1))→h'.objs.size=s.heap.objs.size →
    (∀ b o,b≠TO→(∀ u∈ss,b≠u.1.i)→s.heap.get? b=some o→h'.get? b=some o)→Q (none,()) { s with heap:=h' }) →
   wpAny (model prog w) A (forIn ((ss.map fun u=>Value.ref u.1.i).zipIdx c) (none,()) B) Q E s
 | [],c,arr,s,Q,D,hz,hT,hl,hu,hQ=>by
  simp only [List.map_nil,List.zipIdx_nil,List.forIn_nil]
  exact wpAny_pure (hQ s.heap hz hT (fun _ h=>nomatch h) rfl fun _ _ _ _ e=>e)
 | u::r,c,arr,s,Q,D,hz,hT,hl,hu,hQ=>by
  simp only [List.map_cons,List.zipIdx_cons,List.forIn_cons]
  obtain ⟨ha,hsrc,x,hx⟩:=hu u List.mem_cons_self
  refine wpAny_bind (hB _ _ _ _ (Sub.item ha hsrc hx fun h1 ha1 sb1=>⟨arr,sb1.extBut _ _ (D.ti u List.mem_cons_self).symm hT,hl,fun h2 hT2 sb2=>?_⟩))
  have uz:=D.zi u List.mem_cons_self
  have ut:=D.ti u List.mem_cons_self
  have kp:∀ b o,b≠TO→b≠u.1.i→s.heap.get? b=some o→h2.get? b=some o:=fun b o h1 h2 e=>sb2.extBut _ _ h1 (sb1.extBut _ _ h2 e)
  have hui:∀ v∈r,v.1.i≠u.1.i:=fun v hv=>((List.pairwise_cons.mp D.nd).1 v hv).symm
  refine draws (n:=n) (TI:=TI) hB r (c+1) (arr.setIfInBounds c x) { s with heap:=h2 } Q D.tail (kp _ _ D.zTO uz.symm hz) hT2 (by simpa using hl) (fun v hv=>?_) fun h3 z3 T3 a3 s3 k3=>?_
  ·obtain ⟨a,b,y⟩:=hu v (List.mem_cons_of_mem _ hv)
   exact ⟨a.keep fun o e=>kp _ o (D.ti v (List.mem_cons_of_mem _ hv)) (hui v hv) e,b.keep fun o e=>kp _ o (D.lt v (List.mem_cons_of_mem _ hv)) (D.li v (List.mem_cons_of_mem _ hv) u List.mem_cons_self) e,y⟩
  ·refine hQ h3 z3 ?_ (fun v hv=>?_) (by rw [s3]; show h2.objs.size=_; rw [sb2.1,sb1.1]) fun b o h1 h2 e=>k3 b o h1 (fun v hv=>h2 v (List.mem_cons_of_mem _ hv)) (kp b o h1 (h2 u List.mem_cons_self) e)
   ·have e:u.2.getD n .none=x:=by simp [Array.getD_eq_getD_getElem?,hx]
    show TupO h3 TO (drawn n r (c+1) (arr.setIfInBounds c (u.2.getD n .none)))
    rw [e]; exact T3
   ·rcases List.mem_cons.mp hv with rfl | hv
    ·exact ha1.keep fun o e=>k3 _ o ut (fun v' hv'=>(hui v' hv').symm) (sb2.extBut _ _ ut e)
    ·exact a3 v hv
theorem draws_end {z TI TO:Addr} {n:Nat} {B:Value×Nat→Option Fin×Unit→Sem (ForInStep (Option Fin×Unit))} (hh:A.handled=none) (hB:DrawB prog w A z TO E B) :
  ∀ (ss:List (Sub×Array Value)) (c:Nat) (arr:Array Value) (s:Shared) (Q:Option Fin×Unit→Shared→Prop),Apart z TO ss→IsZip s.heap z TI TO .ellipsis→TupO s.heap TO arr→arr.size≤sizeLine →
   (∀ u∈ss,u.1.At s.heap n∧u.1.Src s.heap u.2)→(∃ u∈ss,u.2[n]?=none) →
   (∀ h' e,(∀ b o,b≠z→b≠TO→(∀ u∈ss,b≠u.1.i)→s.heap.get? b=some o→h'.get? b=some o)→(∃ o,h'.get? e=some o∧o.cls=.type "StopIteration")→E (.ref e) { s with heap:=h' }) →
   wpAny (model prog w) A (forIn ((ss.map fun u=>Value.ref u.1.i).zipIdx c) (none,()) B) Q E s
 | [],c,arr,s,Q,D,hz,hT,hl,hu,hx,hQ=>by obtain ⟨_,h,_⟩:=hx; exact nomatch h
 | u::r,c,arr,s,Q,D,hz,hT,hl,hu,hx,hQ=>by
  simp only [List.map_cons,List.zipIdx_cons,List.forIn_cons]
  obtain ⟨ha,hsrc⟩:=hu u List.mem_cons_self
  have uz:=D.zi u List.mem_cons_self
  have ut:=D.ti u List.mem_cons_self
  cases hu0:u.2[n]? with
  | none=>
   refine wpAny_bind (hB _ _ _ _ (Sub.ends hh ha hsrc hu0 fun h1 e eb he=>?_))
   obtain ⟨oe,hoe,hce⟩:=he
   have hz1:IsZip h1 z TI TO .ellipsis:=eb _ _ uz.symm hz
   have hez:e≠z:=fun x=>by subst x; rw [hz1] at hoe; cases hoe; simp at hce
   exact wpAny_setField_rec hz1 (by simp) fun h3 _ sb3=>hQ h3 e (fun b o b1 b2 b3 q=>sb3.extBut _ _ b1 (eb _ _ (b3 u List.mem_cons_self) q)) ⟨oe,sb3.extBut _ _ hez hoe,hce⟩
  | some x=>
   refine wpAny_bind (hB _ _ _ _ (Sub.item ha hsrc hu0 fun h1 ha1 sb1=>⟨arr,sb1.extBut _ _ ut.symm hT,hl,fun h2 hT2 sb2=>?_⟩))
   have kp:∀ b o,b≠TO→b≠u.1.i→s.heap.get? b=some o→h2.get? b=some o:=fun b o h1 h2 e=>sb2.extBut _ _ h1 (sb1.extBut _ _ h2 e)
   have hui:∀ v∈r,v.1.i≠u.1.i:=fun v hv=>((List.pairwise_cons.mp D.nd).1 v hv).symm
   refine draws_end (n:=n) (TI:=TI) hh hB r (c+1) (arr.setIfInBounds c x) { s with heap:=h2 } Q D.tail (kp _ _ D.zTO uz.symm hz) hT2 (by simpa using hl) (fun v hv=>?_) ?_ fun h3 e k3 he=>?_
   ·obtain ⟨a,b⟩:=hu v (List.mem_cons_of_mem _ hv)
    exact ⟨a.keep fun o e=>kp _ o (D.ti v (List.mem_cons_of_mem _ hv)) (hui v hv) e,b.keep fun o e=>kp _ o (D.lt v (List.mem_cons_of_mem _ hv)) (D.li v (List.mem_cons_of_mem _ hv) u List.mem_cons_self) e⟩
   ·obtain ⟨v,hv,e⟩:=hx
    rcases List.mem_cons.mp hv with rfl | hv
    ·rw [hu0] at e; cases e
    ·exact ⟨v,hv,e⟩
   ·exact hQ h3 e (fun b o b1 b2 b3 q=>k3 b o b1 b2 (fun v hv=>b3 v (List.mem_cons_of_mem _ hv)) (kp b o b2 (b3 u List.mem_cons_self) q)) he
theorem drawn_size (n:Nat):∀ (ss:List (Sub×Array Value)) (c:Nat) (arr:Array Value),(drawn n ss c arr).size=arr.size
 | [],_,_=>rfl
 | u::r,c,arr=>by unfold drawn; rw [drawn_size n r]; simp
theorem drawn_get (n:Nat):∀ (ss:List (Sub×Array Value)) (c:Nat) (arr:Array Value),c+ss.length=arr.size→(drawn n ss c arr).toList=arr.toList.take c++ss.map fun u=>u.2.getD n .none
 | [],c,arr,h=>by
  unfold drawn
  simp at h; subst h
  rw [List.map_nil,List.append_nil]
  exact (List.take_of_length_le (by simp)).symm
 | u::r,c,arr,h=>by
  unfold drawn
  have hc:c<arr.size:=by simp at h; omega
  rw [drawn_get n r (c+1) _ (by simp at h ⊢; omega)]
  rw [List.map_cons,Array.toList_setIfInBounds]
  have:(arr.toList.set c (u.2.getD n Value.none)).take (c+1)=arr.toList.take c ++ [u.2.getD n Value.none]:=by
   rw [List.take_add_one,List.take_set,List.getElem?_set_self (by simpa using hc)]
   rw [List.set_eq_of_length_le (by simp; omega)]; rfl
  rw [this,List.append_assoc]; rfl
theorem zip_item {z TI TO:Addr} {n:Nat} {ss:List (Sub×Array Value)} {arr:Array Value} {Q:Option Value→Shared→Prop} (D:Apart z TO ss) (hne:ss ≠ []) (hsz:arr.size=ss.length) (hline:ss.length≤sizeLine)
  (hz:IsZip s.heap z TI TO .none) (hTI:TupO s.heap TI (ss.map fun u=>Value.ref u.1.i).toArray) (hTO:TupO s.heap TO arr) (hu:∀ u∈ss,u.1.At s.heap n∧u.1.Src s.heap u.2∧∃ x,u.2[n]?=some x)
  (hQ:∀ h',IsZip h' z TI TO (rawInt s.heap.objs.size)→(∃ arr',TupO h' TO arr'∧arr'.size=ss.length)→(∀ u∈ss,u.1.At h' (n+1))→TupO h' s.heap.objs.size (ss.map fun u=>u.2.getD n .none).toArray →
   (∀ b o,b≠z→b≠TO→(∀ u∈ss,b≠u.1.i)→s.heap.get? b=some o→h'.get? b=some o)→Q (some (.ref s.heap.objs.size)) { s with heap:=h' }) :
  wpAny (model prog w) A (pyNext (.ref z)) Q E s:=by
 have hT:s.TypeIs (.ref z) "zip" := ⟨_,hz,rfl⟩
 unfold pyNext
 refine wpAny_bind (wpAny_attempt (wpAny_callSpecial?_slot (name:=Str.ofString "__next__") hT F.slot_zip_next (wpAny_call_entry F.slot_zip_next hT F.entry_zip_next ?_ (F.args_zip_next_1 _))))
 show wpAny _ _ (field (.ref z) 2>>=_) _ _ _; refine wpAny_bind (wpAny_field hz rfl (x:=.bool false) rfl ?_)
 show wpAny _ _ (field (.ref z) 3>>=_) _ _ _; refine wpAny_bind (wpAny_field hz rfl (x:=.ref TI) rfl ?_); refine wpAny_bind (wpAny_seqItems hTI rfl ?_)
 have e1:(ss.map fun u=>Value.ref u.1.i).toArray.isEmpty=false:=by cases ss <;> simp_all
 simp only [e1]
 refine wpAny_bind ?_; unfold Builtin.SmallTypes.ownedTupleIsFree; refine wpAny_bind (wpAny_field hz rfl (x:=.none) rfl (wpAny_pure ?_)); simp only [if_true]
 refine wpAny_bind (wpAny_rule ?_); refine wpAny_bind (wpAny_field hz rfl (x:=.ref TO) rfl ?_)
 refine wpAny_bind (wpAny_setField_rec hz (by simp) fun h1 z1 sb1=>?_); replace z1:IsZip h1 z TI TO .ellipsis:=z1
 refine wpAny_bind (draws (TI:=TI) (n:=n) (z:=z) (TO:=TO) ?_ ss 0 arr _ _ D z1 (sb1.extBut _ _ D.zTO.symm hTO) (by omega) (fun u hm=>?_) fun h2 z2 T2 a2 s2 k2=>?_)
 ·intro v k s Q h
  refine wpAny_bind (wpAny_onRaise ?_)
  show wpAny _ _ (Builtin.SmallTypes.nextOf v>>=_) _ _ _
  refine wpAny_bind (wpAny_mono h (fun x s1 ⟨arr,hT1,hl,hq⟩=>wpAny_pure ?_) fun e s1 he=>he)
  refine wpAny_bind (wpAny_seqItems hT1 rfl ?_)
  refine wpAny_bind (wpAny_updateSeq hT1 rfl ?_ hl (by rw [Array.size_setIfInBounds]; omega))
  refine wpAny_bind (wpAny_letGo (wpAny_pure (hq _ ?_ (Heap.SameBut.update ..))))
  show Heap.get? _ _=_
  rw [Heap.get?_update_self _ hT1 rfl]; simp [Obj.mapSeq]
 ·obtain ⟨a,b,x⟩:=hu u hm
  exact ⟨a.keep fun o e=>sb1.extBut _ _ (D.zi u hm) e,b.keep fun o e=>sb1.extBut _ _ (D.lz u hm) e,x⟩
 ·have ed:(drawn n ss 0 arr).toList=ss.map fun u=>u.2.getD n .none:=by rw [drawn_get n ss 0 arr (by omega)]; simp
  refine wpAny_bind (wpAny_seqItems T2 rfl ?_)
  have hs2:h2.objs.size=s.heap.objs.size:=by rw [s2]; exact sb1.1
  have hlz:z<h2.objs.size:=Heap.lt_size z2
  refine wpAny_bind (wpAny_newTuple (wpAny_bind ?_) (by rw [ed,List.length_map]; exact hline))
  unfold Builtin.SmallTypes.ownedTupleHandOut
  have z3:IsZip (h2.push { cls:=.type "tuple",data:=.seq (drawn n ss 0 arr).toList.toArray }) z TI TO .ellipsis:=Heap.get?_push_of_some _ z2
  refine wpAny_bind (wpAny_setField_rec z3 (by simp) fun h4 z4 sb4=>?_); replace z4:IsZip h4 z TI TO (rawInt h2.objs.size):=z4
  refine wpAny_setField_rec z4 (by simp) fun h5 z5 sb5=>?_; replace z5:IsZip h5 z TI TO (rawInt h2.objs.size):=z5
  have up:∀ b o,b≠z→h2.get? b=some o→h5.get? b=some o:=fun b o hb e=>sb5.extBut _ _ hb (sb4.extBut _ _ hb (Heap.get?_push_of_some _ e))
  have T5:TupO h5 h2.objs.size (drawn n ss 0 arr).toList.toArray:=sb5.extBut _ _ (Nat.ne_of_gt hlz) (sb4.extBut _ _ (Nat.ne_of_gt hlz) (Heap.get?_push_size _ rfl))
  rw [ed] at T5
  rw [hs2] at z5 T5
  refine wpAny_pure ⟨_,rfl,wpAny_pure ?_⟩
  show Q (some (.ref h2.objs.size)) _
  rw [hs2]
  exact hQ h5 z5 ⟨_,up _ _ D.zTO.symm T2,by rw [drawn_size,hsz]⟩ (fun u hm=>(a2 u hm).keep fun o e=>up _ o (D.zi u hm) e) T5 fun b o b1 b2 b3 e=>up b o b1 (k2 b o b2 b3 (sb1.extBut _ _ b1 e))
theorem zip_stop {z TI TO:Addr} {n:Nat} {ss:List (Sub×Array Value)} {arr:Array Value} {Q:Option Value→Shared→Prop} (hh:A.handled=none) (D:Apart z TO ss) (hsz:arr.size=ss.length) (hline:ss.length≤sizeLine)
  (hz:IsZip s.heap z TI TO .none) (hTI:TupO s.heap TI (ss.map fun u=>Value.ref u.1.i).toArray) (hTO:TupO s.heap TO arr) (hu:∀ u∈ss,u.1.At s.heap n∧u.1.Src s.heap u.2) (hx:∃ u∈ss,u.2[n]?=none)
  (hQ:∀ h',(∀ b o,b≠z→b≠TO→(∀ u∈ss,b≠u.1.i)→s.heap.get? b=some o→h'.get? b=some o)→Q none { s with heap:=h' }) :
  wpAny (model prog w) A (pyNext (.ref z)) Q E s:=by
 have hT:s.TypeIs (.ref z) "zip" := ⟨_,hz,rfl⟩
 unfold pyNext
 refine wpAny_bind (wpAny_attempt (wpAny_callSpecial?_slot (name:=Str.ofString "__next__") hT F.slot_zip_next (wpAny_call_entry F.slot_zip_next hT F.entry_zip_next ?_ (F.args_zip_next_1 _))))
 show wpAny _ _ (field (.ref z) 2>>=_) _ _ _; refine wpAny_bind (wpAny_field hz rfl (x:=.bool false) rfl ?_)
 show wpAny _ _ (field (.ref z) 3>>=_) _ _ _; refine wpAny_bind (wpAny_field hz rfl (x:=.ref TI) rfl ?_); refine wpAny_bind (wpAny_seqItems hTI rfl ?_)
 have e1:(ss.map fun u=>Value.ref u.1.i).toArray.isEmpty=false:=by
  obtain ⟨u,hm,_⟩:=hx
  cases ss with
  | nil=>exact nomatch hm
  | cons a b=>simp
 simp only [e1]
 refine wpAny_bind ?_; unfold Builtin.SmallTypes.ownedTupleIsFree; refine wpAny_bind (wpAny_field hz rfl (x:=.none) rfl (wpAny_pure ?_)); simp only [if_true]
 refine wpAny_bind (wpAny_rule ?_); refine wpAny_bind (wpAny_field hz rfl (x:=.ref TO) rfl ?_)
 refine wpAny_bind (wpAny_setField_rec hz (by simp) fun h1 z1 sb1=>?_); replace z1:IsZip h1 z TI TO .ellipsis:=z1
 refine wpAny_bind (draws_end (A:=A.in1) (TI:=TI) (n:=n) (z:=z) (TO:=TO) (show A.in1.handled=none from hh) ?_ ss 0 arr _ _ D z1 (sb1.extBut _ _ D.zTO.symm hTO) (by omega) (fun u hm=>?_) hx fun h2 e k2 he=>?_)
 ·intro v k s Q h
  refine wpAny_bind (wpAny_onRaise ?_)
  show wpAny _ _ (Builtin.SmallTypes.nextOf v>>=_) _ _ _
  refine wpAny_bind (wpAny_mono h (fun x s1 ⟨arr,hT1,hl,hq⟩=>wpAny_pure ?_) fun e s1 he=>he)
  refine wpAny_bind (wpAny_seqItems hT1 rfl ?_)
  refine wpAny_bind (wpAny_updateSeq hT1 rfl ?_ hl (by rw [Array.size_setIfInBounds]; omega))
  refine wpAny_bind (wpAny_letGo (wpAny_pure (hq _ ?_ (Heap.SameBut.update ..))))
  show Heap.get? _ _=_
  rw [Heap.get?_update_self _ hT1 rfl]; simp [Obj.mapSeq]
 ·obtain ⟨a,b⟩:=hu u hm
  exact ⟨a.keep fun o e=>sb1.extBut _ _ (D.zi u hm) e,b.keep fun o e=>sb1.extBut _ _ (D.lz u hm) e⟩
 ·obtain ⟨o,ho,hc⟩:=he
  refine wpAny_bind (wpAny_isInstance (T := "StopIteration") (b:=true) ⟨o,ho,hc⟩ isSubtype_stop ?_)
  exact wpAny_pure (hQ _ fun b o b1 b2 b3 e=>k2 b o b1 b2 b3 (sb1.extBut _ _ b1 e))
def SrcAt (h:Heap) (u:Bool×Addr×Array Value):Prop:=if u.1=true then h.IsTuple u.2.1 u.2.2 else h.IsList u.2.1 u.2.2
def subsFrom (n:Nat):List (Bool×Addr×Array Value)→List (Sub×Array Value)
 | []=>[]
 | u::r=>(⟨u.1,n,u.2.1⟩,u.2.2)::subsFrom (n+1) r
theorem iter_src {u:Bool×Addr×Array Value} {Q:Value→Shared→Prop} (hs:SrcAt s.heap u)
  (hQ:∀ h',(Sub.mk u.1 s.heap.objs.size u.2.1).At h' 0→h'.objs.size=s.heap.objs.size+1→(∀ b o,s.heap.get? b=some o→h'.get? b=some o)→Q (.ref s.heap.objs.size) { s with heap:=h' }) :
  wpAny (model prog w) A (pyIter (.ref u.2.1)) Q E s:=by
 unfold SrcAt at hs
 cases ht:u.1 with
 | true=>
  simp only [ht,if_true] at hs
  refine wpAny_pyIter_tuple hs (hQ _ ?_ (Heap.size_push ..) fun b o e=>Heap.get?_push_of_some _ e)
  unfold Sub.At
  simp only [ht,if_true]
  exact ⟨_,Heap.get?_push_size _ rfl,rfl,rfl⟩
 | false=>
  simp only [ht,Bool.false_eq_true,if_false] at hs
  refine wpAny_pyIter_list hs (hQ _ ?_ (Heap.size_push ..) fun b o e=>Heap.get?_push_of_some _ e)
  unfold Sub.At
  simp only [ht,Bool.false_eq_true,if_false]
  exact ⟨_,Heap.get?_push_size _ rfl,rfl,rfl⟩
theorem SrcAt.keep {h h':Heap} {u:Bool×Addr×Array Value} (x:SrcAt h u) (k:∀ b o,h.get? b=some o→h'.get? b=some o):SrcAt h' u:=by
 unfold SrcAt at x ⊢
 split at x <;> (rename_i ht; obtain ⟨o,e,r⟩:=x; simp only [ht,if_true,if_false,Bool.false_eq_true]; exact ⟨o,k _ o e,r⟩)
theorem iter_all_go:∀ (us:List (Bool×Addr×Array Value)) (acc:Array Value) (s:Shared) (Q:Array Value→Shared→Prop),(∀ u∈us,SrcAt s.heap u) →
  (∀ h',(∀ v∈subsFrom s.heap.objs.size us,v.1.At h' 0)→h'.objs.size=s.heap.objs.size+us.length→(∀ b o,s.heap.get? b=some o→h'.get? b=some o) →
   Q (acc++((subsFrom s.heap.objs.size us).map fun v=>Value.ref v.1.i).toArray) { s with heap:=h' }) →
  wpAny (model prog w) A (forIn (us.map fun u=>Value.ref u.2.1) acc fun x r=>do let y ← holding r.toList (pyIter x); pure (ForInStep.yield (r.push y))) Q E s
 | [],acc,s,Q,_,hQ=>by
  simp only [List.map_nil,List.forIn_nil]
  have:=hQ s.heap (fun _ h=>nomatch h) rfl fun _ _ e=>e
  exact wpAny_pure (by simpa [subsFrom] using this)
 | u::r,acc,s,Q,hs,hQ=>by
  simp only [List.map_cons,List.forIn_cons]
  refine wpAny_bind (wpAny_bind (wpAny_holding (iter_src (hs u List.mem_cons_self) fun h1 a1 s1 k1=>wpAny_pure ?_)))
  refine iter_all_go r (acc.push (.ref s.heap.objs.size)) { s with heap:=h1 } Q (fun v hv=>(hs v (List.mem_cons_of_mem _ hv)).keep k1) fun h2 a2 s2 k2=>?_
  have e0:subsFrom h1.objs.size r=subsFrom (s.heap.objs.size+1) r:=by rw [s1]
  have q:=hQ h2 (fun v hv=>?_) (by rw [s2]; show h1.objs.size+_=_; rw [s1,List.length_cons]; omega) fun b o e=>k2 b o (k1 b o e)
  ·have e:acc.push (Value.ref s.heap.objs.size)++(List.map (fun v=>Value.ref v.1.i) (subsFrom h1.objs.size r)).toArray=acc++(List.map (fun v=>Value.ref v.1.i) (subsFrom s.heap.objs.size (u::r))).toArray:=by
    rw [e0]; simp [subsFrom]
   show Q (acc.push (Value.ref s.heap.objs.size)++(List.map (fun v=>Value.ref v.1.i) (subsFrom h1.objs.size r)).toArray) _
   rw [e]; exact q
  ·rcases List.mem_cons.mp hv with rfl | hv
   ·exact a1.keep fun o e=>k2 _ o e
   ·exact a2 v (by show v∈subsFrom h1.objs.size r; rw [e0]; exact hv)
theorem iter_all {us:List (Bool×Addr×Array Value)} {Q:List Value→Shared→Prop} (hs:∀ u∈us,SrcAt s.heap u)
  (hQ:∀ h',(∀ v∈subsFrom s.heap.objs.size us,v.1.At h' 0)→h'.objs.size=s.heap.objs.size+us.length→(∀ b o,s.heap.get? b=some o→h'.get? b=some o) →
   Q ((subsFrom s.heap.objs.size us).map fun v=>Value.ref v.1.i) { s with heap:=h' }):wpAny (model prog w) A (Builtin.SmallTypes.iterAll (us.map fun u=>Value.ref u.2.1)) Q E s:=by
 unfold Builtin.SmallTypes.iterAll
 refine wpAny_bind (iter_all_go us #[] s _ hs fun h' a1 s1 k1=>wpAny_pure ?_)
 have:=hQ h' a1 s1 k1
 simpa using this
theorem subs_length:∀ (us:List (Bool×Addr×Array Value)) (n:Nat),(subsFrom n us).length=us.length
 | [],_=>rfl
 | u::r,n=>by unfold subsFrom; rw [List.length_cons,subs_length r,List.length_cons]
theorem meets_zip (us:List (Bool×Addr×Array Value)) (hl:us.length≤sizeLine) :
  Meets (Builtin.«zip.__new__» ⟨.type "zip" :: us.map fun u=>Value.ref u.2.1,[]⟩) (fun _ R s=>(∀ u∈us,SrcAt s.heap u) ∧
   ∀ h',(∀ v∈subsFrom s.heap.objs.size us,v.1.At h' 0)→TupO h' (s.heap.objs.size+us.length) ((subsFrom s.heap.objs.size us).map fun v=>Value.ref v.1.i).toArray →
    (∃ arr,TupO h' (s.heap.objs.size+us.length+1) arr∧arr.size=us.length)→IsZip h' (s.heap.objs.size+us.length+2) (s.heap.objs.size+us.length) (s.heap.objs.size+us.length+1) .none →
    (∀ b o,s.heap.get? b=some o→h'.get? b=some o)→R (.ok (.ret (.ref (s.heap.objs.size+us.length+2)))) { s with heap:=h' }):=
 .of_wp fun prog w A R s h=>by
  obtain ⟨hs,h⟩:=h
  show wpAny _ _ (Builtin.SmallTypes.newClass "zip" _>>=_) _ _ _
  refine wpAny_bind ?_
  unfold Builtin.SmallTypes.newClass
  refine wpAny_bind (wpAny_of_eq (a:=true) rfl ?_)
  simp only [Bool.not_true,Bool.false_eq_true,if_false]
  refine wpAny_bind (wpAny_of_eq (a:=true) sub_zip ?_)
  simp only [Bool.not_true,Bool.false_eq_true,if_false]
  refine wpAny_pure ?_
  simp only [List.length_nil,show ¬ (0>1) by decide,if_false]
  refine wpAny_bind (iter_all hs fun h1 a1 s1 k1=>?_)
  refine wpAny_bind (wpAny_newTuple ?_ (by simp [subs_length,hl]))
  refine wpAny_bind (wpAny_newTuple ?_ (by simp [subs_length,hl]))
  generalize hI:((subsFrom s.heap.objs.size us).map fun v=>Value.ref v.1.i)=I at h ⊢
  have hIl:I.length=us.length:=by rw [← hI,List.length_map,subs_length]
  refine wpAny_bind ?_
  show wpAny _ _ (newObj (.type "zip") (.fields #[.none,.bool false,.bool false,.ref h1.objs.size,.ref (h1.push { cls:=.type "tuple",data:=.seq I.toArray }).objs.size]) none) _ _ _
  refine wpAny_newObj_type (wpAny_pure ?_) (by size_fits)
  have z0:h1.objs.size=s.heap.objs.size+us.length:=s1
  have z1:(h1.push { cls:=.type "tuple",data:=.seq I.toArray }).objs.size=s.heap.objs.size+us.length+1:=by rw [Heap.size_push,s1]
  have z2:((h1.push { cls:=.type "tuple",data:=.seq I.toArray }).push { cls:=.type "tuple",data:=.seq (I.map fun _=>Value.none).toArray }).objs.size=s.heap.objs.size+us.length+2:=by rw [Heap.size_push,z1]
  refine ⟨_,rfl,?_⟩
  have g:=h (((h1.push { cls:=.type "tuple",data:=.seq I.toArray }).push { cls:=.type "tuple",data:=.seq (I.map fun _=>Value.none).toArray }).push { cls:=.type "zip",data:=.fields #[.none,.bool false,.bool false,.ref h1.objs.size,.ref (h1.push { cls:=.type "tuple",data:=.seq I.toArray }).objs.size] })
   (fun v hv=>(a1 v hv).keep fun o e=>Heap.get?_push_of_some _ (Heap.get?_push_of_some _ (Heap.get?_push_of_some _ e))) ?_ ⟨(I.map fun _=>Value.none).toArray,?_,by simp [hIl]⟩ ?_ fun b o e=>Heap.get?_push_of_some _ (Heap.get?_push_of_some _ (Heap.get?_push_of_some _ (k1 b o e)))
  ·rw [← z2] at g
   exact g
  ·rw [← z0]; exact Heap.get?_push_of_some _ (Heap.get?_push_of_some _ (Heap.get?_push_size _ rfl))
  ·rw [← z1]; exact Heap.get?_push_of_some _ (Heap.get?_push_size _ rfl)
  ·rw [← z2,← z1,← z0]; exact Heap.get?_push_size _ rfl
theorem tcall_zip3 (a b c:Value):checkTypeCall "zip" ⟨[a,b,c],[]⟩=pure ():=by kernel_rfl
theorem ncall_zip3 (a b c:Value):checkBuiltinCall "zip.__new__" ⟨[.type "zip",a,b,c],[]⟩=pure ():=by kernel_rfl
theorem args_init4 (a b c d:Value):argsOk "object.__init__" ⟨[a,b,c,d],[]⟩:=by
 unfold argsOk; rw [signature?_of (id := "object.__init__") (n:=['_','_','t','i','n','i','_','_']) (o:=['t','c','e','j','b','o']) (by kernel_rfl) F.owner_object]; kernel_rfl
theorem call_zip (us:List (Bool×Addr×Array Value)) (hl:us.length=2∨us.length=3) {Q:Value→Shared→Prop} (hs:∀ u∈us,SrcAt s.heap u)
  (h:∀ h',(∀ v∈subsFrom s.heap.objs.size us,v.1.At h' 0)→TupO h' (s.heap.objs.size+us.length) ((subsFrom s.heap.objs.size us).map fun v=>Value.ref v.1.i).toArray →
    (∃ arr,TupO h' (s.heap.objs.size+us.length+1) arr∧arr.size=us.length)→IsZip h' (s.heap.objs.size+us.length+2) (s.heap.objs.size+us.length) (s.heap.objs.size+us.length+1) .none →
    (∀ b o,s.heap.get? b=some o→h'.get? b=some o)→Q (.ref (s.heap.objs.size+us.length+2)) { s with heap:=h' }) :
  wpAny (model prog w) A (call (.type "zip") (us.map fun u=>Value.ref u.2.1)) Q E s:=by
 have hle:us.length≤sizeLine:=Nat.le_trans (show us.length≤3 by omega) (by decide)
 have k:∀ h',_→_→_→_→_→({ s with heap:=h' }:Shared).TypeIs (.ref (s.heap.objs.size+us.length+2)) "zip" ∧ Q (.ref (s.heap.objs.size+us.length+2)) { s with heap:=h' }:=fun h' c1 c2 c3 c4 c5=>⟨⟨_,c4,rfl⟩,h h' c1 c2 c3 c4 c5⟩
 match us,hl with
 | [a,b],_=>exact callType_new F.called_zip (by decide) (F.typeCall_zip_2 _ _) (F.newCall_zip_2 _ _) (fun obj=>F.args_object_init_3 obj _ _) F.entry_zip_new (meets_zip [a,b] hle) ⟨hs,k⟩
 | [a,b,c],_=>exact callType_new F.called_zip (by decide) (tcall_zip3 _ _ _) (ncall_zip3 _ _ _) (fun obj=>args_init4 obj _ _ _) F.entry_zip_new (meets_zip [a,b,c] hle) ⟨hs,k⟩
end
end L2
set_option Elab.async false
set_option linter.all false
set_option maxRecDepth 100000
namespace L2
open PySem PySem.Spec PyProof.Rows
theorem choose_list {α β:Type} {R:α→β→Prop}:∀ {l:List α},(∀ a∈l,∃ b,R a b)→∃ l':List (α×β),l'.map (·.1)=l∧∀ p∈l',R p.1 p.2
 | [],_=>⟨[],rfl,fun _ h=>nomatch h⟩
 | a::l,h=>by
  obtain ⟨b,hb⟩:=h a List.mem_cons_self
  obtain ⟨l',e,q⟩:=choose_list fun x hx=>h x (List.mem_cons_of_mem _ hx)
  refine ⟨(a,b)::l',by rw [List.map_cons,e],fun p hp=>?_⟩
  rcases List.mem_cons.mp hp with rfl | hp
  ·exact hb
  ·exact q p hp
def Sq (K:PySem.W.Frag) (H:Hp) (t:Bool) (a:Addr) (xs:List V):Prop:=if t=true then SqT K H a xs else SqL K H a xs
section
variable {X:Cx} {pins:List (Addr×Obj)} {σ:St} {H:Hp} {s:Shared}
theorem kne {b a:Addr} {o:Obj} (I:Inv X pins σ H s) (h:X.K.lookup a=some o) (f:FpOk X pins H b):a≠b:=by
 intro e
 subst e
 have hb:X.base.get? a=some o:=I.mod.kin a o h
 obtain ⟨f0,f1,f2,f3,f4,f5⟩:=f
 rcases f3 with z | z
 ·exact I.ok.noex a o hb z
 ·exact absurd (Nat.lt_of_lt_of_le (Heap.lt_size (I.ok.bs a o hb).1) z) (Nat.lt_irrefl _)
theorem Sq.ne {t:Bool} {a b:Addr} {xs:List V} (I:Inv X pins σ H s) (h:Sq X.K H t a xs) (f:FpOk X pins H b):a≠b:=by
 have tr:∀ {u:HO},Rd H a u→a≠b:=fun {u} r e=>by
  subst e
  have f0:=f.1
  rcases r with r | ⟨o,r⟩ <;> (rw [f0] at r; cases r)
 unfold Sq at h
 split at h
 ·rcases h with h | ⟨o,its,n,hk,_⟩
  ·exact tr h
  ·exact kne I hk f
 ·rcases h with h | ⟨o,its,n,hk,_⟩
  ·exact tr h
  ·exact kne I hk f
theorem Sq.src {t:Bool} {a:Addr} {xs:List V} (I:Inv X pins σ H s) (h:Sq X.K H t a xs):∃ its:List Value,Vals xs its∧(Sub.mk t 0 a).Src s.heap its.toArray:=by
 unfold Sq at h
 unfold Sub.Src
 split at h
 ·rename_i ht
  obtain ⟨its,r,p,_⟩:=I.tuple h
  exact ⟨its,r,by simp only [ht,if_true]; exact p⟩
 ·rename_i ht
  obtain ⟨its,r,p,_⟩:=I.list h
  exact ⟨its,r,by simp only [ht,if_false]; exact p.isList⟩
theorem Sq.inj {t:Bool} {a:Addr} {xs ys:List V} (I:Inv X pins σ H s) (h:Sq X.K H t a xs) (h':Sq X.K H t a ys):xs=ys:=by
 unfold Sq at h h'
 split at h
 ·rename_i ht; simp only [ht,if_true] at h'; exact I.tuple_inj h h'
 ·rename_i ht; simp only [ht,if_false] at h'; exact I.list_inj h h'
end
def ItZ (K:PySem.W.Frag) (us:List (Bool×Addr)):It:=
  ⟨fun i H=>∀ u∈us,∃ xs x,Sq K H u.1 u.2 xs∧xs[i]?=some x,
   fun i H x H'=>∃ p ys,x=.ref p∧H p=none∧H'=upd H p (.tup ys)∧Paired (fun (u:Bool×Addr) (y:V)=>∀ xs,Sq K H u.1 u.2 xs→xs[i]?=some y) us ys,
   fun i H=>(∀ u∈us,∃ xs,Sq K H u.1 u.2 xs)∧∃ u∈us,∃ xs,Sq K H u.1 u.2 xs∧xs.length≤i⟩
structure ZSt (z TI TO:Addr) (subs:List Sub):Prop where
 zTO:z≠TO
 TIz:TI≠z
 TITO:TI≠TO
 zi:∀ u∈subs,u.i≠z
 ti:∀ u∈subs,u.i≠TO
 Ii:∀ u∈subs,u.i≠TI
 nd:subs.Pairwise fun u v=>u.i≠v.i
abbrev zTn (z TI TO:Addr) (subs:List Sub) (i:Nat) (h:Heap):Prop:=
 IsZip h z TI TO .none∧TupO h TI (subs.map fun u=>Value.ref u.i).toArray∧(∃ arr,TupO h TO arr∧arr.size=subs.length)∧∀ u∈subs,u.At h i
theorem paired_map {α β γ:Type} {F:α→γ→Prop} {f:β→α} {g:β→γ}:∀ {l:List β},(∀ b∈l,F (f b) (g b))→Paired F (l.map f) (l.map g)
 | [],_=>.nil
 | _::_,h=>.cons (h _ List.mem_cons_self) (paired_map fun b hb=>h b (List.mem_cons_of_mem _ hb))
theorem turn_zip {P:Program} {w:World} {K:PySem.W.Frag} {elts:List Expr} {k:Nat} {tp:Pos} {z TI TO:Addr} {subs:List Sub} (D:ZSt z TI TO subs) (hne:subs ≠ []) (hln:subs.length≤sizeLine) :
  Turn P w K (.Tuple elts k tp) (ItZ K (subs.map fun u=>(u.t,u.l))) (z::TI::TO::subs.map (·.i)) z (zTn z TI TO subs) where
 mem:=by simp
 obj:=fun i h st b hb=>by
  obtain ⟨hz,hTI,⟨arr,hTO,_⟩,hs⟩:=st
  simp only [List.mem_cons,List.mem_map] at hb
  rcases hb with rfl | rfl | rfl | ⟨u,hu,rfl⟩
  ·exact ⟨_,hz,fun v q=>by cases q⟩
  ·exact ⟨_,hTI,fun v q=>by cases q⟩
  ·exact ⟨_,hTO,fun v q=>by cases q⟩
  ·obtain ⟨o,e,d⟩:=(hs u hu).obj
   exact ⟨o,e,fun v q=>by rw [d] at q; cases q⟩
 keep:=fun i h h' st kp=>by
  obtain ⟨hz,hTI,⟨arr,hTO,ha⟩,hs⟩:=st
  exact ⟨kp z (by simp) _ hz,kp TI (by simp) _ hTI,⟨arr,kp TO (by simp) _ hTO,ha⟩,fun u hu=>(hs u hu).keep fun o e=>kp u.i (by simp only [List.mem_cons,List.mem_map]; exact .inr (.inr (.inr ⟨u,hu,rfl⟩))) o e⟩
 item:=by
  intro X hP hw hK hc i pins s σ H E I hf st hg
  subst hP hw hK
  obtain ⟨hz,hTI,⟨arr,hTO,ha⟩,hs⟩:=st
  have fz:=hf z (by simp)
  have fT:=hf TO (by simp)
  have fi:∀ u∈subs,FpOk X pins H u.i:=fun u hu=>hf u.i (by simp only [List.mem_cons,List.mem_map]; exact .inr (.inr (.inr ⟨u,hu,rfl⟩)))
  obtain ⟨ss,ess,hss⟩:=choose_list (R:=fun (u:Sub) (q:List Value×List V×V)=>Sq X.K H u.t u.l q.2.1∧Vals q.2.1 q.1∧u.Src s.heap q.1.toArray∧q.2.1[i]?=some q.2.2) (l:=subs) (fun u hu=>by
   obtain ⟨xs,x,h1,h2⟩:=hg (u.t,u.l) (List.mem_map.mpr ⟨u,hu,rfl⟩)
   obtain ⟨its,r,hsrc⟩:=Sq.src I h1
   exact ⟨(its,xs,x),h1,r,hsrc,h2⟩)
  have mss:∀ v∈ss,v.1∈subs:=fun v hv=>by rw [← ess]; exact List.mem_map.mpr ⟨v,hv,rfl⟩
  have nd2:ss.Pairwise fun u v=>u.1.i≠v.1.i:=by
   have:=D.nd
   rw [← ess,List.pairwise_map] at this
   exact this
  have DA:Apart z TO (ss.map fun v=>(v.1,v.2.1.toArray)):=by
   refine ⟨D.zTO,?_,?_,?_,?_,?_,?_⟩
   ·rintro _ hu; obtain ⟨v,hv,rfl⟩:=List.mem_map.mp hu; exact D.zi _ (mss v hv)
   ·rintro _ hu; obtain ⟨v,hv,rfl⟩:=List.mem_map.mp hu; exact D.ti _ (mss v hv)
   ·rw [List.pairwise_map]; exact nd2
   ·rintro _ hu; obtain ⟨v,hv,rfl⟩:=List.mem_map.mp hu; exact Sq.ne I (hss v hv).1 fz
   ·rintro _ hu; obtain ⟨v,hv,rfl⟩:=List.mem_map.mp hu; exact Sq.ne I (hss v hv).1 fT
   ·rintro _ hu _ hu2; obtain ⟨v,hv,rfl⟩:=List.mem_map.mp hu; obtain ⟨v2,hv2,rfl⟩:=List.mem_map.mp hu2; exact Sq.ne I (hss v hv).1 (fi _ (mss v2 hv2))
  have el:(ss.map fun v=>(v.1,v.2.1.toArray)).length=subs.length:=by rw [List.length_map,← ess,List.length_map]
  have eI:((ss.map fun v=>(v.1,v.2.1.toArray)).map fun u=>Value.ref u.1.i)=subs.map fun u=>Value.ref u.i:=by rw [← ess,List.map_map,List.map_map]; rfl
  have ys:∀ v∈ss,∃ u,v.2.1.toArray[i]?=some u∧RelV v.2.2.2 u:=fun v hv=>by
   obtain ⟨u,e,r⟩:=(hss v hv).2.1.get (hss v hv).2.2.2
   exact ⟨u,by simpa using e,r⟩
  refine zip_item (n:=i) DA (by intro q; apply hne; have:=congrArg List.length q; rw [el] at this; exact List.length_eq_zero_iff.mp this) (by rw [ha,el]) (by rw [el]; exact hln) hz (by rw [eI]; exact hTI) hTO (fun u hu=>?_) fun h1 z1 T1 a1 p1 k1=>?_
  ·obtain ⟨v,hv,rfl⟩:=List.mem_map.mp hu
   obtain ⟨u,e,_⟩:=ys v hv
   exact ⟨hs _ (mss v hv),(hss v hv).2.2.1,u,e⟩
  refine ⟨_,rfl,wpAny_letOwnedTupleGo_zip z1 fun h2 z2 sb2=>?_⟩
  have hzl:z<s.heap.objs.size:=Heap.lt_size hz
  have kp:∀ b o,b≠z→b≠TO→(∀ u∈subs,b≠u.i)→s.heap.get? b=some o→h2.get? b=some o:=fun b o b1 b2 b3 e=>sb2.extBut _ _ b1 (k1 b o b1 b2 (fun u hu=>by obtain ⟨v,hv,rfl⟩:=List.mem_map.mp hu; exact b3 _ (mss v hv)) e)
  have hfr:H s.heap.objs.size=none:=I.hok.fresh (Nat.le_refl _)
  have trk:∀ b u,H b=some u→b≠z∧b≠TO∧∀ v∈subs,b≠v.i:=fun b u e=>⟨fun q=>(by subst q; rw [fz.1] at e; cases e),fun q=>(by subst q; rw [fT.1] at e; cases e),fun v hv q=>(by subst q; rw [(fi v hv).1] at e; cases e)⟩
  have hP2:TupO h2 s.heap.objs.size (ss.map fun v=>v.2.1.toArray.getD i .none).toArray:=by
   have:=sb2.extBut _ _ (Nat.ne_of_gt hzl) p1
   rw [List.map_map] at this
   exact this
  have rel:Vals (ss.map fun v=>v.2.2.2) (ss.map fun v=>v.2.1.toArray.getD i .none):=paired_map fun v hv=>by
   obtain ⟨u,e,r⟩:=ys v hv
   rw [show v.2.1.toArray.getD i Value.none=u by simp only [Array.getD_eq_getD_getElem?,e,Option.getD_some]]
   exact r
  have len:(ss.map fun v=>v.2.2.2).length≤sizeLine:=by rw [List.length_map,show ss.length=subs.length by rw [← ess,List.length_map]]; exact hln
  refine ⟨.ref s.heap.objs.size,upd H s.heap.objs.size (.tup (ss.map fun v=>v.2.2.2)),?_,rfl,⟨_,_,rfl,hfr,rfl,?_⟩,⟨z2,?_,?_,fun u hu=>?_⟩,fun b hb=>?_⟩
  ·show Inv X pins σ _ { s with heap:=h2 }
   refine I.step (g':=s.gens) (t':=s.toks) (d':=s.drawn) (ch:=z::TO::subs.map (·.i)) (fun b hb=>?_) (fun b o _ _ hc e _=>kp b o ?_ ?_ ?_ e) (fun b o _ _ hc e _=>⟨o.slots,kp b o ?_ ?_ ?_ e⟩) (fun b o hc e n=>?_) (fun b o hc e=>⟨o,kp b o ?_ ?_ ?_ e⟩) (fun b xs e=>?_) (fun b o u e=>?_) (fun b ps e=>?_) (fun m hm=>?_) ?_ I.bare
   ·simp only [List.mem_cons,List.mem_map] at hb
    rcases hb with rfl | rfl | ⟨u,hu,rfl⟩
    ·exact ⟨fz.2.2.2.1,fz.2.1,fz.2.2.2.2.1,fz.2.2.2.2.2⟩
    ·exact ⟨fT.2.2.2.1,fT.2.1,fT.2.2.2.2.1,fT.2.2.2.2.2⟩
    ·have f:=fi u hu; exact ⟨f.2.2.2.1,f.2.1,f.2.2.2.2.1,f.2.2.2.2.2⟩
   all_goals first
    | (intro q; exact hc (by simp [q]; done))
    | (intro u hu q; exact hc (by rw [q]; exact List.mem_cons_of_mem _ (List.mem_cons_of_mem _ (List.mem_map.mpr ⟨u,hu,rfl⟩))))
    | skip
   ·rw [upd_ne (Nat.ne_of_lt (Heap.lt_size e))]; exact n
   ·rw [upd_ne (ne_of_none e hfr)]; exact e
   ·rw [upd_ne (ne_of_none e hfr)]; exact e
   ·exact ⟨#[],by rw [upd_ne (ne_of_none e hfr),e]; simp⟩
   ·obtain ⟨o,es,ep,ho,r⟩:=hm
    exact ⟨o,es,ep,kp _ o (Ne.symm fz.2.1) (Ne.symm fT.2.1) (fun u hu=>Ne.symm (fi u hu).2.1) ho,r⟩
   ·intro b u e
    by_cases hb:b=s.heap.objs.size
    ·subst hb
     rw [upd_same] at e; cases e
     exact ⟨len,_,rel,⟨_,hP2,rfl,_,rfl⟩⟩
    ·rw [upd_ne hb] at e
     refine (I.hok b u e).stay (fun c v hcc q=>?_) (fun c q=>by rw [upd_ne (ne_of_none q hfr)]; exact q) fun c xs q=>by rw [upd_ne (ne_of_none q hfr)]; exact q
     rcases hcc with rfl | hcc
     ·exact kp _ v (trk _ _ e).1 (trk _ _ e).2.1 (trk _ _ e).2.2 q
     ·exact kp _ v (trk _ _ hcc).1 (trk _ _ hcc).2.1 (trk _ _ hcc).2.2 q
  ·rw [← ess,List.map_map]
   exact paired_map fun v hv xs hx=>by rw [Sq.inj I hx (hss v hv).1]; exact (hss v hv).2.2.2
  ·exact kp TI _ D.TIz D.TITO (fun u hu=>Ne.symm (D.Ii u hu)) hTI
  ·obtain ⟨arr',hT',ha'⟩:=T1
   exact ⟨arr',sb2.extBut _ _ D.zTO.symm hT',by rw [ha',el]⟩
  ·have hv:∃ v∈ss,v.1=u:=by rw [← ess] at hu; exact List.mem_map.mp hu
   obtain ⟨v,hv,rfl⟩:=hv
   exact (a1 (v.1,v.2.1.toArray) (List.mem_map.mpr ⟨v,hv,rfl⟩)).keep fun o e=>sb2.extBut _ _ (D.zi _ (mss v hv)) e
  ·have:b≠s.heap.objs.size:=by
    simp only [List.mem_cons,List.mem_map] at hb
    rcases hb with rfl | rfl | rfl | ⟨u,hu,rfl⟩
    ·exact Nat.ne_of_lt hzl
    ·exact Nat.ne_of_lt (Heap.lt_size hTI)
    ·exact Nat.ne_of_lt (Heap.lt_size hTO)
    ·obtain ⟨o,e,_⟩:=(hs u hu).obj; exact Nat.ne_of_lt (Heap.lt_size e)
   rw [upd_ne this]
   exact (hf b hb).1
 done:=by
  intro X hP hw hK hc i pins s σ H E I hf st hg
  subst hP hw hK
  obtain ⟨hz,hTI,⟨arr,hTO,ha⟩,hs⟩:=st
  obtain ⟨hall,u0,hu0,xs0,hq0,hl0⟩:=hg
  have fz:=hf z (by simp)
  have fT:=hf TO (by simp)
  have fi:∀ u∈subs,FpOk X pins H u.i:=fun u hu=>hf u.i (by simp only [List.mem_cons,List.mem_map]; exact .inr (.inr (.inr ⟨u,hu,rfl⟩)))
  obtain ⟨ss,ess,hss⟩:=choose_list (R:=fun (u:Sub) (q:List Value×List V)=>Sq X.K H u.t u.l q.2∧Vals q.2 q.1∧u.Src s.heap q.1.toArray) (l:=subs) (fun u hu=>by
   obtain ⟨xs,h1⟩:=hall (u.t,u.l) (List.mem_map.mpr ⟨u,hu,rfl⟩)
   obtain ⟨its,r,hsrc⟩:=Sq.src I h1
   exact ⟨(its,xs),h1,r,hsrc⟩)
  have mss:∀ v∈ss,v.1∈subs:=fun v hv=>by rw [← ess]; exact List.mem_map.mpr ⟨v,hv,rfl⟩
  have nd2:ss.Pairwise fun u v=>u.1.i≠v.1.i:=by
   have:=D.nd
   rw [← ess,List.pairwise_map] at this
   exact this
  have DA:Apart z TO (ss.map fun v=>(v.1,v.2.1.toArray)):=by
   refine ⟨D.zTO,?_,?_,?_,?_,?_,?_⟩
   ·rintro _ hu; obtain ⟨v,hv,rfl⟩:=List.mem_map.mp hu; exact D.zi _ (mss v hv)
   ·rintro _ hu; obtain ⟨v,hv,rfl⟩:=List.mem_map.mp hu; exact D.ti _ (mss v hv)
   ·rw [List.pairwise_map]; exact nd2
   ·rintro _ hu; obtain ⟨v,hv,rfl⟩:=List.mem_map.mp hu; exact Sq.ne I (hss v hv).1 fz
   ·rintro _ hu; obtain ⟨v,hv,rfl⟩:=List.mem_map.mp hu; exact Sq.ne I (hss v hv).1 fT
   ·rintro _ hu _ hu2; obtain ⟨v,hv,rfl⟩:=List.mem_map.mp hu; obtain ⟨v2,hv2,rfl⟩:=List.mem_map.mp hu2; exact Sq.ne I (hss v hv).1 (fi _ (mss v2 hv2))
  have el:(ss.map fun v=>(v.1,v.2.1.toArray)).length=subs.length:=by rw [List.length_map,← ess,List.length_map]
  have eI:((ss.map fun v=>(v.1,v.2.1.toArray)).map fun u=>Value.ref u.1.i)=subs.map fun u=>Value.ref u.i:=by rw [← ess,List.map_map,List.map_map]; rfl
  refine zip_stop (n:=i) (I.ok.hd hc) DA (by rw [ha,el]) (by rw [el]; exact hln) hz (by rw [eI]; exact hTI) hTO (fun u hu=>?_) ?_ fun h1 k1=>⟨rfl,?_⟩
  ·obtain ⟨v,hv,rfl⟩:=List.mem_map.mp hu
   exact ⟨hs _ (mss v hv),(hss v hv).2.2⟩
  ·obtain ⟨u,hu,e0⟩:=List.mem_map.mp hu0
   have hv:∃ v∈ss,v.1=u:=by rw [← ess] at hu; exact List.mem_map.mp hu
   obtain ⟨v,hv,rfl⟩:=hv
   subst e0
   refine ⟨(v.1,v.2.1.toArray),List.mem_map.mpr ⟨v,hv,rfl⟩,?_⟩
   have e1:=Sq.inj I (hss v hv).1 hq0
   have e2:=(hss v hv).2.1.length
   rw [e1] at e2
   simp only [List.getElem?_toArray]
   exact List.getElem?_eq_none (by omega)
  ·have kp:∀ b o,b≠z→b≠TO→(∀ u∈subs,b≠u.i)→s.heap.get? b=some o→h1.get? b=some o:=fun b o b1 b2 b3 e=>k1 b o b1 b2 (fun u hu=>by obtain ⟨v,hv,rfl⟩:=List.mem_map.mp hu; exact b3 _ (mss v hv)) e
   have trk:∀ b u,H b=some u→b≠z∧b≠TO∧∀ v∈subs,b≠v.i:=fun b u e=>⟨fun q=>(by subst q; rw [fz.1] at e; cases e),fun q=>(by subst q; rw [fT.1] at e; cases e),fun v hv q=>(by subst q; rw [(fi v hv).1] at e; cases e)⟩
   refine I.step (g':=s.gens) (t':=s.toks) (d':=s.drawn) (ch:=z::TO::subs.map (·.i)) (fun b hb=>?_) (fun b o _ _ hc e _=>kp b o ?_ ?_ ?_ e) (fun b o _ _ hc e _=>⟨o.slots,kp b o ?_ ?_ ?_ e⟩) (fun b o hc e n=>n) (fun b o hc e=>⟨o,kp b o ?_ ?_ ?_ e⟩) (fun b xs e=>e) (fun b o u e=>e) (fun b ps e=>⟨#[],by rw [e]; simp⟩) (fun m hm=>?_) (fun b u e=>?_) I.bare
   ·simp only [List.mem_cons,List.mem_map] at hb
    rcases hb with rfl | rfl | ⟨u,hu,rfl⟩
    ·exact ⟨fz.2.2.2.1,fz.2.1,fz.2.2.2.2.1,fz.2.2.2.2.2⟩
    ·exact ⟨fT.2.2.2.1,fT.2.1,fT.2.2.2.2.1,fT.2.2.2.2.2⟩
    ·have f:=fi u hu; exact ⟨f.2.2.2.1,f.2.1,f.2.2.2.2.1,f.2.2.2.2.2⟩
   all_goals first
    | (intro q; exact hc (by simp [q]; done))
    | (intro u hu q; exact hc (by rw [q]; exact List.mem_cons_of_mem _ (List.mem_cons_of_mem _ (List.mem_map.mpr ⟨u,hu,rfl⟩))))
    | skip
   ·obtain ⟨o,es,ep,ho,r⟩:=hm
    exact ⟨o,es,ep,kp _ o (Ne.symm fz.2.1) (Ne.symm fT.2.1) (fun u hu=>Ne.symm (fi u hu).2.1) ho,r⟩
   ·refine (I.hok b u e).stay (fun c v hcc q=>?_) (fun c q=>q) fun c xs q=>q
    rcases hcc with rfl | hcc
    ·exact kp _ v (trk _ _ e).1 (trk _ _ e).2.1 (trk _ _ e).2.2 q
    ·exact kp _ v (trk _ _ hcc).1 (trk _ _ hcc).2.1 (trk _ _ hcc).2.2 q
 self:=fun _ _ _ _ _ st h=>wpAny_pyIter_zip st.1 h
def iZip (K:PySem.W.Frag) (ta:TA):TI:=fun σ H R=>ta σ H fun vs H1=>∃ us:List (Bool×Addr),vs=us.map (fun u=>V.ref u.2)∧(us.length=2∨us.length=3)∧(∀ u∈us,∃ xs,Sq K H1 u.1 u.2 xs)∧R (ItZ K us) H1
theorem neN {a b:Nat} (h:a≠b):(a:Addr)≠b:=h
theorem vals_refs:∀ {us:List (Bool×Addr)} {vs:List Value},Vals (us.map fun u=>V.ref u.2) vs→vs=us.map fun u=>Value.ref u.2
 | [],_,.nil=>rfl
 | _::_,_,.cons r t=>by
  have r':_=Value.ref _:=r
  rw [r',vals_refs t]; rfl
theorem subs_i:∀ (us:List (Bool×Addr×Array Value)) (n:Nat),∀ v∈subsFrom n us,n≤v.1.i∧n+us.length>v.1.i
 | [],_,_,h=>nomatch h
 | u::r,n,v,h=>by
  rcases List.mem_cons.mp h with rfl | h
  ·exact ⟨Nat.le_refl _,by show n+(r.length+1)>n; omega⟩
  ·have:=subs_i r (n+1) v h
   rw [List.length_cons]; omega
theorem subs_nd:∀ (us:List (Bool×Addr×Array Value)) (n:Nat),(subsFrom n us).Pairwise fun u v=>u.1.i≠v.1.i
 | [],_=>.nil
 | u::r,n=>by
  refine List.pairwise_cons.mpr ⟨fun v hv=>?_,subs_nd r (n+1)⟩
  have:=subs_i r (n+1) v hv
  show (n:Nat)≠v.1.i
  omega
theorem subs_src:∀ (us:List (Bool×Addr×Array Value)) (n:Nat),(subsFrom n us).map (fun u=>(u.1.t,u.1.l))=us.map fun u=>(u.1,u.2.1)
 | [],_=>rfl
 | u::r,n=>by unfold subsFrom; rw [List.map_cons,subs_src r,List.map_cons]
section
variable {X:Cx}
theorem pi_zip {a:Expr} {es elts:List Expr} {ta:TA} {p pos tp:Pos} {k:Nat} (hg:Gl X "zip") (hm:X.mg "zip" = none) (ha:PA X (a::es) ta) (hs:starEach (a::es) X.env=(false,eval a X.env)::starEach es X.env:=by rfl)
  (hpl:(backTo pos (starEach es X.env)).any (·.1)=false:=by rfl):PI X (.Tuple elts k tp) (.Call (.Name "zip" p) (a::es) [] pos) (iZip X.K ta):=by
 intro pins s σ H R I h
 refine Call_ (ld_blt I hg hm boot_zip (PyProof.Rows.callWith_type1 (thn (ha pos pins s σ H _ I h) fun vs s1 ⟨xs,H1,I1,r1,us,e1,hl,hsq,q⟩=>?_) hs hpl))
 subst e1
 have e2:=vals_refs r1
 subst e2
 obtain ⟨ws,ew,hws⟩:=choose_list (R:=fun (u:Bool×Addr) (its:Array Value)=>SrcAt s1.heap (u.1,u.2,its)) (l:=us) (fun u hu=>by
  obtain ⟨ys,hy⟩:=hsq u hu
  obtain ⟨its,_,hsrc⟩:=Sq.src I1 hy
  exact ⟨its.toArray,by unfold SrcAt; unfold Sub.Src at hsrc; exact hsrc⟩)
 have ev:us.map (fun u=>Value.ref u.2)=(ws.map fun w=>(w.1.1,w.1.2,w.2)).map fun u=>Value.ref u.2.1:=by rw [← ew,List.map_map,List.map_map]; rfl
 have el:(ws.map fun w=>(w.1.1,w.1.2,w.2)).length=us.length:=by rw [← ew,List.length_map,List.length_map]
 rw [ev]
 generalize hW:(ws.map fun w=>(w.1.1,w.1.2,w.2))=W at el ev
 have hsw:∀ u∈W,SrcAt s1.heap u:=fun u hu=>by
  rw [← hW] at hu
  obtain ⟨w,hw,rfl⟩:=List.mem_map.mp hu
  exact hws w hw
 refine call_zip W (by rw [el]; exact hl) hsw fun h' hA hTI hTO hz hk=>wpAny_pyIter_zip hz ?_
 have I2:Inv X pins σ H1 { s1 with heap:=h' }:=I1.kept (t':=s1.toks) hk
 have eS:((subsFrom s1.heap.objs.size W).map (·.1)).map (fun u=>(u.t,u.l))=us:=by
  rw [List.map_map]
  show (subsFrom s1.heap.objs.size W).map (fun u=>(u.1.t,u.1.l))=us
  rw [subs_src,← hW,List.map_map,← ew]
  rfl
 have D:ZSt (s1.heap.objs.size+W.length+2) (s1.heap.objs.size+W.length) (s1.heap.objs.size+W.length+1) ((subsFrom s1.heap.objs.size W).map (·.1)):=by
  refine ⟨neN (by omega),neN (by omega),neN (by omega),?_,?_,?_,?_⟩
  ·rintro _ hu; obtain ⟨v,hv,rfl⟩:=List.mem_map.mp hu; have:=subs_i W _ v hv; exact neN (by omega)
  ·rintro _ hu; obtain ⟨v,hv,rfl⟩:=List.mem_map.mp hu; have:=subs_i W _ v hv; exact neN (by omega)
  ·rintro _ hu; obtain ⟨v,hv,rfl⟩:=List.mem_map.mp hu; have:=subs_i W _ v hv; exact neN (by omega)
  ·rw [List.pairwise_map]; exact subs_nd W _
 have ls:((subsFrom s1.heap.objs.size W).map (·.1)).length=W.length:=by rw [List.length_map,subs_length]
 have TZ:=turn_zip (P:=X.prog) (w:=X.w) (K:=X.K) (elts:=elts) (k:=k) (tp:=tp) D (by intro q; have:=congrArg List.length q; rw [ls,el] at this; have h0:us.length=0:=this; omega) (by rw [ls,el]; exact Nat.le_trans (show us.length≤3 by omega) (by decide))
 rw [eS] at TZ
 refine ⟨_,_,_,_,H1,rfl,I2,TZ,⟨hz,?_,?_,fun u hu=>?_⟩,fun b hb=>?_,q⟩
 ·rw [List.map_map]; exact hTI
 ·obtain ⟨arr,h1,h2⟩:=hTO
  exact ⟨arr,h1,by rw [ls]; exact h2⟩
 ·obtain ⟨v,hv,rfl⟩:=List.mem_map.mp hu
  exact hA v hv
 ·have hb':s1.heap.objs.size≤b:=by
   simp only [List.mem_cons,List.mem_map] at hb
   rcases hb with rfl | rfl | rfl | ⟨_,⟨v,hv,rfl⟩,rfl⟩
   ·omega
   ·omega
   ·omega
   ·exact (subs_i W _ v hv).1
  have f:=I1.fpOk (H':=H1) hb' (I1.hok.fresh hb')
  exact f
end
end L2
set_option Elab.async false
set_option linter.all false
set_option maxRecDepth 100000
namespace L2
open PySem PySem.Spec PyProof.Rows
theorem relabel_lookup (cs:Scope) (env:Env) (x:Str):(relabel cs env).names.lookup x=(cs.names.lookup x).map fun k=>if (k == .free&&env.scope.kind == .function&&env.kindOf x == some .cell)=true then .cell else k:=by
 unfold relabel
 show List.lookup x (cs.names.map _)=_
 induction cs.names with
 | nil=>rfl
 | cons p r ih=>
  obtain ⟨n,k⟩:=p
  by_cases hx:x=n
  ·subst hx
   rw [List.map_cons]
   simp only [List.lookup_cons]
   split <;> simp_all
  ·have hb:(x == n)=false:=by simpa using hx
   have er:List.lookup x ((n,k)::r)=List.lookup x r:=by rw [List.lookup_cons,hb]
   rw [List.map_cons,er]
   refine Eq.trans ?_ ih
   dsimp only
   by_cases hc:(k == NameKind.free&&env.scope.kind == ScopeKind.function&&env.kindOf n == some NameKind.cell)=true
   ·rw [if_pos hc,List.lookup_cons,hb]
   ·rw [if_neg hc,List.lookup_cons,hb]
theorem closure_of {env : Env} : ∀ (names : List (Str × NameKind)) (cs0 : List (Str × Addr)), (∀ x ∈ names, x.2 = .free → ∃ c, env.cells.lookup x.1 = some c) → (∀ x c, cs0.lookup x = some c → env.cells.lookup x = some c) →
    ∃ cl, (forIn (m := Sem) names cs0 fun x __s => if (x.snd == NameKind.free) = true then do
              let __do_lift ← cellOf env x.fst
              pure (ForInStep.yield ((x.fst, __do_lift) :: __s))
            else pure (ForInStep.yield __s)) = pure cl ∧ (∀ x c, cl.lookup x = some c → env.cells.lookup x = some c) ∧ (∀ x, (x, NameKind.free) ∈ names → ∃ c, cl.lookup x = some c) ∧ ∀ x c, cs0.lookup x = some c → ∃ c', cl.lookup x = some c'
  | [], cs0, _, h0 => ⟨cs0, by simp only [List.forIn_nil], h0, (fun _ h => nomatch h), fun _ c h => ⟨c, h⟩⟩
  | (n, k) :: r, cs0, hf, h0 => by
    by_cases hk : k = .free
    · subst hk
      obtain ⟨c, hc⟩ := hf (n, .free) List.mem_cons_self rfl
      obtain ⟨cl, e, h1, h2, h3⟩ := closure_of r ((n, c) :: cs0) (fun x hx => hf x (List.mem_cons_of_mem _ hx)) (fun x c' hx => by
        rw [List.lookup_cons] at hx
        split at hx
        · rename_i hb
          have hxn : x = n := by simpa using hb
          cases hx; rw [hxn]; exact hc
        · exact h0 x c' hx)
      have hn : ∃ c', cl.lookup n = some c' := h3 n c (by simp)
      refine ⟨cl, ?_, h1, fun x hx => ?_, fun x c' hx => ?_⟩
      · rw [List.forIn_cons]
        simp only [beq_self_eq_true, if_true, cellOf, hc]
        exact e
      · rcases List.mem_cons.mp hx with q | hx
        · cases q; exact hn
        · exact h2 x hx
      · by_cases hxn : x = n
        · subst hxn; exact hn
        · exact h3 x c' (by
            have hb : (x == n) = false := by simpa using hxn
            rw [List.lookup_cons, hb]; exact hx)
    · have hb : (k == NameKind.free) = false := by simpa using hk
      obtain ⟨cl, e, h1, h2, h3⟩ := closure_of r cs0 (fun x hx => hf x (List.mem_cons_of_mem _ hx)) h0
      refine ⟨cl, ?_, h1, fun x hx => ?_, h3⟩
      · rw [List.forIn_cons]
        simp only [hb, Bool.false_eq_true, if_false]
        exact e
      · rcases List.mem_cons.mp hx with q | hx
        · cases q; exact absurd rfl hk
        · exact h2 x hx
structure CompScope (sc cs:Scope) (N N':List Str):Prop where
 kind:cs.kind=.function
 ncell:∀ x∈cs.names,x.2≠.cell
 loc:∀ x∈cs.names,x.2=.local→cs.names.lookup x.1=some .local
 free:∀ x∈cs.names,x.2=.free→sc.names.lookup x.1=some .cell∨sc.names.lookup x.1=some .free
 nd:N'.Nodup
 len:N.length≤N'.length
 same:∀ i∈List.range N.length,N'[i]?=N[i]?∨∀ x∈N'[i]?,cs.names.lookup x=none
 out:∀ x∈N'.take N.length,cs.names.lookup x≠some .local
abbrev cxComp (X:Cx) (cs:Scope) (cl:List (Str×Addr)) (N':List Str) (ex:List Addr) (s:Shared) (H:Hp):Cx:=
 { X with N:=N',s₀:=s,H₀:=H,env:=compEnvC cs cl s.heap.objs.size X.env,outer:=X.stack,stack:=X.stack,ex:=ex,fn:=fun _=>false,pn:=[],xe:=fun _ _=>False }
def inner (N':List Str) (σ:St):St:=σ++List.replicate (N'.length-σ.length) none
theorem inner_get {N':List Str} {σ:St} {i:Nat} {v:V} (h:(inner N' σ)[i]?=some (some v)):σ[i]?=some (some v):=by
 unfold inner at h
 by_cases hi:i<σ.length
 ·rwa [List.getElem?_append_left hi] at h
 ·rw [List.getElem?_append_right (by omega),List.getElem?_replicate] at h
  split at h <;> cases h
theorem comp_inv {X:Cx} {pins:List (Addr×Obj)} {σ:St} {H:Hp} {s3 s4:Shared} {cs:Scope} {cl:List (Str×Addr)} {N':List Str} {fp:List Addr} {m:Str→Option Value} (S:CompScope X.env.scope cs X.N N') (I:Inv X pins σ H s3)
  (hcl1:∀ x c,cl.lookup x=some c→X.env.cells.lookup x=some c) (hcl2:∀ x,(x,NameKind.free)∈cs.names→∃ c,cl.lookup x=some c) (hf:∀ b∈fp,FpOk X pins H b) (hlt:∀ b∈fp,b<s3.heap.objs.size)
  (kp:∀ b o,s3.heap.get? b=some o→s4.heap.get? b=some o) (hn:s4.heap.Ns s3.heap.objs.size m) (hos:s4.os=s3.os) (hg:s4.gens=s3.gens):Inv (cxComp X cs cl N' fp s3 H) [] (inner N' σ) H s4:=by
 have kcell:∀ {c:Addr} {v:Option Value},s3.heap.IsCell c v→s4.heap.IsCell c v:=fun {c v} z=>by obtain ⟨o,e,d⟩:=z; exact ⟨o,kp c o e,d⟩
 refine ⟨⟨I.ok.mod,S.kind,I.ok.glob,I.ok.blt,Nat.le_refl _,fun x y c h1 h2=>I.ok.inj x y c (hcl1 x c h1) (hcl1 y c h2),fun x hx=>?_,fun x c h _=>absurd (show false=true from h) (by decide),I.ok.hd,I.ok.frames,.inl rfl,fun b hb=>⟨?_,fun x c e=>(hf b hb).2.2.2.2.1 x c (hcl1 x c e)⟩,I.bs,Nat.le_trans I.ok.bsz I.sz,fun b o e hb=>?_,fun b hb hfs=>?_,I.stack,I.stkFree⟩,
  hos,by rw [hg]; exact I.bare,Un.kept kp,⟨m,hn,fun i x v e1 e2 e3=>?_⟩,fun x c e=>?_,I.hok.fresh (Nat.le_refl _),fun x c e=>I.freeC x c (hcl1 x c e),fun p hp=>absurd (show p∈([]:List (Addr×Obj)) from hp) (by simp),I.hok.kept kp,?_⟩
 ·have hx':(relabel cs X.env).names.lookup x=some .cell∨(relabel cs X.env).names.lookup x=some .free:=hx
  rw [relabel_lookup] at hx'
  cases hl:cs.names.lookup x with
  | none=>rw [hl] at hx'; rcases hx' with h | h <;> cases h
  | some k=>
   have hm:=PySem.mem_of_lookup hl
   by_cases hk:k=.free
   ·subst hk; exact hcl2 x hm
   ·exfalso
    have hb:(k == NameKind.free)=false:=by simpa using hk
    rw [hl] at hx'
    simp only [Option.map_some,hb,Bool.false_and,Bool.false_eq_true,if_false] at hx'
    rcases hx' with h | h
    ·cases h; exact S.ncell _ hm rfl
    ·cases h; exact hk rfl
 ·intro q
  have hb':b=s3.heap.objs.size:=q
  exact absurd (hlt b hb) (by rw [hb']; exact Nat.lt_irrefl _)
 ·obtain ⟨f0,f1,f2,f3,f4,f5⟩:=hf b hb
  rcases f3 with z | z
  ·exact I.ok.noex b o e z
  ·exact absurd (Nat.lt_of_lt_of_le (Heap.lt_size (I.ok.bs b o e).1) z) (Nat.lt_irrefl _)
 ·have hfs':b∈frs X.stack:=hfs
  rcases List.mem_cons.mp (I.stkSub b hfs') with z | z
  ·exact (hf b hb).2.1 z
  ·exact (hf b hb).2.2.1 z
 ·have e2':=inner_get e2
  have hi:i<X.N.length:=by rw [← I.len]; exact (List.getElem?_eq_some_iff.mp e2').1
  have e1':N'[i]?=some x:=e1
  have e3':Vis (relabel cs X.env) x:=e3
  have hv:∃ k,cs.names.lookup x=some k:=by
   unfold Vis at e3'
   rw [relabel_lookup] at e3'
   cases hl:cs.names.lookup x with
   | none=>rw [hl] at e3'; rcases e3' with h | h | h <;> cases h
   | some k=>exact ⟨k,rfl⟩
  obtain ⟨k,hk⟩:=hv
  have hN:X.N[i]?=some x:=by
   rcases S.same i (List.mem_range.mpr hi) with q | q
   ·rw [← q]; exact e1'
   ·have:=q x (by rw [e1']; rfl)
    rw [hk] at this; cases this
  have hnl:k≠.local:=fun q=>by
   subst q
   exact S.out x (List.mem_of_getElem? (i:=i) (by rw [List.getElem?_take_of_lt hi]; exact e1')) hk
  have hm:=PySem.mem_of_lookup hk
  have hfree:k=.free:=by
   unfold Vis at e3'
   rw [relabel_lookup,hk] at e3'
   by_cases hkf:k=.free
   ·exact hkf
   ·exfalso
    have hb:(k == NameKind.free)=false:=by simpa using hkf
    simp only [Option.map_some,hb,Bool.false_and,Bool.false_eq_true,if_false] at e3'
    rcases e3' with h | h | h
    ·exact hnl (Option.some.inj h)
    ·exact S.ncell _ hm (Option.some.inj h)
    ·exact hkf (Option.some.inj h)
  subst hfree
  obtain ⟨m0,hn0,hl0⟩:=I.loc
  have hvis:Vis X.env.scope x:=by
   rcases S.free _ hm rfl with h | h
   ·exact .inr (.inl h)
   ·exact .inr (.inr h)
  obtain ⟨u,r,l⟩:=hl0 i x v hN e2' hvis
  refine ⟨u,r,.inr ⟨?_,?_⟩⟩
  ·show (relabel cs X.env).names.lookup x=some .cell∨(relabel cs X.env).names.lookup x=some .free
   rw [relabel_lookup,hk]
   show some (if _ then _ else _)=_∨some (if _ then _ else _)=_
   split
   ·exact .inl rfl
   ·exact .inr rfl
  ·obtain ⟨c,hc⟩:=hcl2 x hm
   have hc':=hcl1 x c hc
   rcases l with ⟨q,_⟩ | ⟨_,c',e,z⟩
   ·exfalso
    have q':X.env.scope.names.lookup x=some .local:=q
    rcases S.free _ hm rfl with h | h <;> (rw [q'] at h; cases h)
   ·rw [hc'] at e; cases e
    exact ⟨c,hc,kcell z⟩
 ·obtain ⟨v,z⟩:=I.cell x c (hcl1 x c e)
  exact ⟨v,kcell z⟩
 ·unfold inner
  rw [List.length_append,List.length_replicate,I.len]
  have:=S.len
  show _=N'.length
  omega
def GKeep (n:Nat) (g:TG):Prop:=∀ (v:V) (σ:St) (H:Hp) (Q:St→Hp→Prop),g v σ H Q→g v σ H fun σ2 H2=>Q σ2 H2∧σ2.length=σ.length∧∀ j,j<n→σ2[j]?=σ[j]?
def GKeeps (n:Nat) (g:TGs):Prop:=∀ (vs:List V) (σ:St) (H:Hp) (Q:St→Hp→Prop),g vs σ H Q→g vs σ H fun σ2 H2=>Q σ2 H2∧σ2.length=σ.length∧∀ j,j<n→σ2[j]?=σ[j]?
theorem gk_name {n i:Nat} (h:n≤i):GKeep n (gName i):=fun v σ H Q q=>⟨q,by simp,fun j hj=>List.getElem?_set_ne (by omega)⟩
theorem gk_nil {n:Nat}:GKeeps n gNil:=fun vs σ H Q ⟨e,q⟩=>⟨e,q,rfl,fun _ _=>rfl⟩
theorem gk_cons {n i:Nat} {u:TGs} (h:n≤i) (hu:GKeeps n u):GKeeps n (gCons (gName i) u):=fun vs σ H Q ⟨v,r,e,q⟩=>by
 refine ⟨v,r,e,?_⟩
 have q':=hu r (σ.set i (some v)) H Q q
 show u r (σ.set i (some v)) H _
 have e1:∀ σ2:St,(σ2.length=(σ.set i (some v)).length∧∀ j,j<n→σ2[j]?=(σ.set i (some v))[j]?)=(σ2.length=σ.length∧∀ j,j<n→σ2[j]?=σ[j]?):=fun σ2=>by
  have:∀ j,j<n→(σ.set i (some v))[j]?=σ[j]?:=fun j hj=>List.getElem?_set_ne (by omega)
  rw [List.length_set]
  exact propext ⟨fun ⟨a,b⟩=>⟨a,fun j hj=>(b j hj).trans (this j hj)⟩,fun ⟨a,b⟩=>⟨a,fun j hj=>(b j hj).trans (this j hj).symm⟩⟩
 have e2:(fun (σ2:St) (H2:Hp)=>Q σ2 H2∧σ2.length=σ.length∧∀ j,j<n→σ2[j]?=σ[j]?)=fun σ2 H2=>Q σ2 H2∧σ2.length=(σ.set i (some v)).length∧∀ j,j<n→σ2[j]?=(σ.set i (some v))[j]?:=by
  funext σ2 H2; rw [e1]
 rw [e2]; exact q'
theorem gk_tup {K:PySem.W.Frag} {n k:Nat} {u:TGs} (hu:GKeeps n u):GKeep n (gTup K k u):=fun v σ H Q ⟨a,xs,e,h1,h2,q⟩=>⟨a,xs,e,h1,h2,hu xs σ H Q q⟩
def PIf (X:Cx) (ifs:List Expr) (t:TT):Prop:=
 ∀ (pins:List (Addr×Obj)) (s:Shared) (σ:St) (H:Hp) (Q:Bool→Hp→Prop),Inv X pins σ H s→t σ H Q →
  wpAny (model X.prog X.w) X.A (forIn ifs true fun c r=>if r=true then do let ok ← isTrue c X.env (eval c X.env); pure (ForInStep.yield ok) else pure (ForInStep.yield r)) (TP X pins σ Q) X.xe s
def tYes:TT:=fun _ H Q=>Q true H
theorem pif_nil {X:Cx}:PIf X [] tYes:=fun _ _ _ H _ I h=>wpAny_tests_nil ⟨H,I,h⟩
theorem pif_one {X:Cx} {c:Expr} {t:TT} (h:PT X c t):PIf X [c] t:=fun pins s σ H Q I q=>wpAny_tests_one (h pins s σ H Q I q)
def CompW (J:It) (D:Addr) (g:TG) (tc:TT) (te:TE) (σ':St) (H1:Hp) (Q:Hp→Prop):Prop:=
 ∃ W:Nat→Nat→Hp→Prop,(∃ m,W 0 m (upd H1 D (.lst [])))∧∀ i m H2,W i m H2 →
  (J.stop i H2∧Q H2)∨(J.go i H2∧∀ x H3,J.yld i H2 x H3→g x σ' H3 fun σ4 H4=>tc σ4 H4 fun b H5=>
   if b=true then te σ4 H5 fun y H6=>∃ ys,H6 D=some (.lst ys)∧ys.length<sizeLine∧∃ m',m'<m∧W (i+1) m' (upd H6 D (.lst (ys ++ [y])))
   else ∃ m',m'<m∧W (i+1) m' H5)
def tComp (N':List Str) (wi:TI) (g:TG) (tc:TT) (te:TE):TE:=fun σ H Q=>wi σ H fun J H1=>∀ D,H1 D=none→CompW J D g tc te (inner N' σ) H1 (Q (.ref D))
section
variable {X:Cx} {cs:Scope} {N':List Str} {tg iter elt:Expr} {ifs:List Expr} {wi:TI} {g:TG} {tc:TT} {te:TE} {pos:Pos}
theorem fp_in {cl:List (Str×Addr)} {pins:List (Addr×Obj)} {fp:List Addr} {H3 H':Hp} {s3:Shared} (hcl1:∀ x c,cl.lookup x=some c→X.env.cells.lookup x=some c) (stk:∀ b∈frs X.stack,b∈X.env.locals::X.fs)
  (hf3:∀ b∈fp,FpOk X pins H3 b) (hlt:∀ b∈fp,b<s3.heap.objs.size) (hn:∀ b∈fp,H' b=none):∀ b∈fp,FpOk (cxComp X cs cl N' fp s3 H3) [] H' b:=fun b hb=>by
 obtain ⟨f0,f1,f2,f3,f4,f5⟩:=hf3 b hb
 refine ⟨hn b hb,Nat.ne_of_lt (hlt b hb),fun hfs=>?_,.inl hb,fun x c e=>f4 x c (hcl1 x c e),fun p hp=>absurd (show p∈([]:List (Addr×Obj)) from hp) (by simp)⟩
 have hfs':b∈frs X.stack:=hfs
 rcases List.mem_cons.mp (stk b hfs') with z | z
 ·exact f1 z
 ·exact f2 z
theorem comp_loop {cl:List (Str×Addr)} {pins:List (Addr×Obj)} {σ:St} {R:Result→Shared→Prop} {Q:Hp→Prop} {s3 s4:Shared} {H3:Hp} {it D:Addr} {fp:List Addr} {tn:Nat→Heap→Prop} {J:It} {W:Nat→Nat→Hp→Prop} {m0:Nat}
  (hc:X.calm=true) (hg:PG (cxComp X cs cl N' fp s3 H3) tg g) (hk:GKeep X.N.length g) (ht:PIf (cxComp X cs cl N' fp s3 H3) ifs tc) (he:PE (cxComp X cs cl N' fp s3 H3) elt te)
  (hcl1:∀ x c,cl.lookup x=some c→X.env.cells.lookup x=some c)
  (I3:Inv X pins σ H3 s3) (I4:Inv (cxComp X cs cl N' fp s3 H3) [] (inner N' σ) H3 s4) (T:Turn X.prog X.w X.K tg J fp it tn) (st:tn 0 s4.heap) (hf3:∀ b∈fp,FpOk X pins H3 b) (hlt:∀ b∈fp,b<s3.heap.objs.size)
  (w0:W 0 m0 H3)
  (turn:∀ i m H2,W i m H2→(J.stop i H2∧Q H2)∨(J.go i H2∧∀ x H3,J.yld i H2 x H3→g x (inner N' σ) H3 fun σ4 H4=>tc σ4 H4 fun b H5=>
   if b=true then te σ4 H5 fun y H6=>∃ ys,H6 D=some (.lst ys)∧ys.length<sizeLine∧∃ m',m'<m∧W (i+1) m' (upd H6 D (.lst (ys ++ [y])))
   else ∃ m',m'<m∧W (i+1) m' H5))
  (hR:∀ (H':Hp) (s':Shared),Inv X pins σ H' s'→Q H'→(∃ m,s'.heap.Ns s3.heap.objs.size m)→FpOk X pins H' s3.heap.objs.size→R (.ok .next) s') :
  codeAny (model X.prog X.w) X.A (.compLoop (.ListComp elt [⟨tg,iter,ifs,0⟩] cs pos) 0 (.ref it) (.ref D) (cxComp X cs cl N' fp s3 H3).env) R s4:=by
 have fpx:∀ {H':Hp},(∀ b∈fp,H' b=none)→∀ b∈fp,FpOk (cxComp X cs cl N' fp s3 H3) [] H' b:=fun hn=>fp_in hcl1 I3.stkSub hf3 hlt hn
 have lσ:(inner N' σ).length=N'.length:=I4.len
 refine codeAny_loop rfl (fun n s'=>∃ i H',Inv (cxComp X cs cl N' fp s3 H3) [] (inner N' σ) H' s'∧tn i s'.heap∧(∀ b∈fp,H' b=none)∧W i n H') (fun n s5 hI=>?_) m0 ⟨0,H3,I4,st,fun b hb=>(hf3 b hb).1,w0⟩
 obtain ⟨i,H5,I5,st5,fr5,w5⟩:=hI
 show wpAny _ _ ((compTurn (.ListComp elt [⟨tg,iter,ifs,0⟩] cs pos) 0 (.ref it) (.ref D) (cxComp X cs cl N' fp s3 H3).env).onRaise _) _ _ s5
 refine wpAny_noted ?_
 rw [compTurn_list]
 refine wpAny_bind (wpAny_standAt (wpAny_bind ?_))
 have cvt:∀ {α:Type} {t:Sem α} {P:α→Shared→Prop} {E':Value→Shared→Prop} {s:Shared},wpAny (model X.prog X.w) X.A t P (fun _ _=>False) s→wpAny (model X.prog X.w) X.A t P E' s:=fun h=>wpAny_mono h (fun _ _ q=>q) fun _ _ q=>q.elim
 rcases turn i n H5 w5 with ⟨stop,q⟩ | ⟨go,step⟩
 ·refine thn (T.done (cxComp X cs cl N' fp s3 H3) rfl rfl rfl hc i [] s5 _ H5 _ I5 (fpx fr5) st5 stop) fun r s6 ⟨hr,I6⟩=>?_
  subst hr
  refine wpAny_pure ?_
  have J6:Inv X pins σ H5 s6:=I3.call' (H':=H5) (ch:=fp) I6.os I6.base I6.hok I6.bare fun b hb=>by
   obtain ⟨f0,f1,f2,f3,f4,f5⟩:=hf3 b hb
   exact ⟨f3,f1,f4,f5⟩
  obtain ⟨m,hn,_⟩:=I6.loc
  exact hR H5 s6 J6 q ⟨m,hn⟩ (I3.fpOk (Nat.le_refl _) I6.free)
 ·refine thn (T.item (cxComp X cs cl N' fp s3 H3) rfl rfl rfl hc i [] s5 _ H5 _ I5 (fpx fr5) st5 go) fun r s6 ⟨u,hr,h6⟩=>?_
  subst hr
  refine wpAny_bind (thn h6 fun _ s7 ⟨x,H7,I7,r7,y7,st7,fr7⟩=>?_)
  have I7':=I7.pinned (fpx fr7) (T.obj _ _ st7)
  refine wpAny_bind (cvt (thn (hg _ s7 _ H7 x u _ I7' r7 (hk x _ H7 _ (step x H7 y7))) fun _ s8 ⟨σ8,H8,I8,q8,l8,k8⟩=>?_))
  refine wpAny_bind (cvt (thn (ht _ s8 σ8 H8 _ I8 q8) fun b s9 ⟨H9,I9,q9⟩=>?_))
  have again:∀ {s':Shared} {H':Hp},Inv (cxComp X cs cl N' fp s3 H3) ([]++pinsAt fp s7.heap) σ8 H' s'→(∃ m',m'<n∧W (i+1) m' H') →
    ∃ m',m'<n∧∃ i H',Inv (cxComp X cs cl N' fp s3 H3) [] (inner N' σ) H' s'∧tn i s'.heap∧(∀ b∈fp,H' b=none)∧W i m' H':=fun {s' H'} I' ⟨m',hm,w'⟩=>by
   refine ⟨m',hm,i+1,H',(I'.unpinned).weak (by rw [l8]) (fun j v e=>?_),T.keep _ _ _ st7 fun b hb o e=>(I'.pin (b,o) (List.mem_append_right _ (List.mem_append_right _ (mem_pinsAt hb e)))).1,fun b hb=>?_,w'⟩
   ·have hj:j<X.N.length:=by rw [← I3.len]; exact (List.getElem?_eq_some_iff.mp (inner_get e)).1
    rw [k8 j hj]; exact e
   ·obtain ⟨o,e,d⟩:=T.obj _ _ st7 b hb
    exact (I'.pin (b,o) (List.mem_append_right _ (List.mem_append_right _ (mem_pinsAt hb e)))).2.1
  cases b with
  | false=>
   have q9':∃ m',m'<n∧W (i+1) m' H9:=q9
   exact wpAny_pure ⟨rfl,again I9 q9'⟩
  | true=>
   have q9':te σ8 H9 _:=q9
   refine wpAny_bind (wpAny_bind (cvt (thn (he _ s9 σ8 H9 _ I9 q9') fun v s10 ⟨y,H10,I10,r10,ys,hD,hy,q10⟩=>?_)))
   refine wpAny_bind (cvt (thn (mt_append _ s10 σ8 H10 (.ref D) [y] (.ref D) [v] (fun _ H'=>∃ m',m'<n∧W (i+1) m' H') I10 rfl (.cons r10 .nil) ⟨D,ys,y,rfl,rfl,hD,hy,q10⟩) fun _ s11 ⟨_,H11,I11,_,q11⟩=>?_))
   exact wpAny_pure (wpAny_pure ⟨rfl,again I11 q11⟩)
theorem comp_core {cl:List (Str×Addr)} {pins:List (Addr×Obj)} {σ:St} {R:Value→Addr→Result→Shared→Prop} {Q:V→Hp→Prop} {s2:Shared} {itv:Value} (S:CompScope X.env.scope cs X.N N') (hc:X.calm=true)
  (hg:∀ cl ex s H,PG (cxComp X cs cl N' ex s H) tg g) (hk:GKeep X.N.length g) (ht:∀ cl ex s H,PIf (cxComp X cs cl N' ex s H) ifs tc) (he:∀ cl ex s H,PE (cxComp X cs cl N' ex s H) elt te)
  (hcl1:∀ x c,cl.lookup x=some c→X.env.cells.lookup x=some c) (hcl2:∀ x,(x,NameKind.free)∈cs.names→∃ c,cl.lookup x=some c)
  (h:PIE X pins σ tg (fun J H1=>∀ D,H1 D=none→CompW J D g tc te (inner N' σ) H1 (Q (.ref D))) itv s2)
  (hR:∀ (D C:Addr) (H':Hp) (s':Shared),Inv X pins σ H' s'→Q (.ref D) H'→(∃ m,s'.heap.Ns C m)→FpOk X pins H' C→R (.ref D) C (.ok .next) s') :
  wpAny (model X.prog X.w) X.A (newList []) (fun acc s₃=>wpAny (model X.prog X.w) X.A (newFunctionEnv cs X.env.globals cl [] X.env.qual none .none (some X.env)) (fun cenv s₄=>
   codeAny (model X.prog X.w) X.A (.compStart (.ListComp elt [⟨tg,iter,ifs,0⟩] cs pos) 0 itv acc { cenv with scope:=relabel cs X.env }) (R acc cenv.locals) s₄) X.xe s₃) X.xe s2:=by
 obtain ⟨it,fp,tn,J,H2,e,I2,T,st2,f2,hw⟩:=h
 subst e
 refine wpAny_newObj_type (wpAny_newFunctionEnv S.ncell (by intro y hy; simp at hy) (fun h1 hns1 hsb1=>?_) S.kind)
 dsimp only at hns1 hsb1 ⊢
 have hD:=I2.hok.fresh (Nat.le_refl _)
 obtain ⟨W,⟨m0,w0⟩,turn⟩:=hw s2.heap.objs.size hD
 have I3:Inv X pins σ (upd H2 s2.heap.objs.size (.lst [])) { s2 with heap:=s2.heap.push { cls:=.type "list",dict:=none,data:=.seq ([]:List Value).toArray } }:=I2.lnew (t':=s2.toks) .nil (Nat.zero_le _)
 have hfp3:∀ b∈fp,b<s2.heap.objs.size:=fun b hb=>by
  obtain ⟨o,e,_⟩:=T.obj 0 _ st2 b hb
  exact Heap.lt_size e
 have hf3:∀ b∈fp,FpOk X pins (upd H2 s2.heap.objs.size (.lst [])) b:=fun b hb=>by
  obtain ⟨f0,r⟩:=f2 b hb
  exact ⟨by rw [upd_ne (Nat.ne_of_lt (hfp3 b hb))]; exact f0,r⟩
 have hlt:∀ b∈fp,b<(s2.heap.push { cls:=.type "list",dict:=none,data:=.seq ([]:List Value).toArray }).objs.size:=fun b hb=>by rw [Heap.size_push]; exact Nat.lt_succ_of_lt (hfp3 b hb)
 have kp:∀ b o,(s2.heap.push { cls:=.type "list",dict:=none,data:=.seq ([]:List Value).toArray }).get? b=some o→h1.get? b=some o:=fun b o e=>hsb1.extBut b o (Nat.ne_of_lt (Heap.lt_size e)) (Heap.get?_push_of_some _ e)
 have I4:=comp_inv (cs:=cs) (cl:=cl) (N':=N') (fp:=fp) (s4:={ s2 with heap:=h1,toks:=s2.toks+([]:List (Str×Value)).length }) S I3 hcl1 hcl2 hf3 hlt kp hns1 rfl rfl
 have st4:tn 0 h1:=T.keep 0 _ _ st2 fun b hb o e=>kp b o (Heap.get?_push_of_some _ e)
 have loop:=comp_loop (R:=R (.ref s2.heap.objs.size) (s2.heap.push { cls:=.type "list",dict:=none,data:=.seq ([]:List Value).toArray }).objs.size) (D:=s2.heap.objs.size) (iter:=iter) (pos:=pos) (it:=it) (Q:=Q (.ref s2.heap.objs.size)) hc (hg cl fp _ _) hk (ht cl fp _ _) (he cl fp _ _) hcl1 I3 I4 T st4 hf3 hlt w0 turn fun H' s' I' q n f=>hR _ _ H' s' I' q n f
 exact codeAny_compStart_list loop (T.self _ 0 _ _ _ st4 loop)
theorem pe_comp (S:CompScope X.env.scope cs X.N N') (hc:X.calm=true) (hi:PI X tg iter wi)
  (hg:∀ cl ex s H,PG (cxComp X cs cl N' ex s H) tg g) (hk:GKeep X.N.length g) (ht:∀ cl ex s H,PIf (cxComp X cs cl N' ex s H) ifs tc) (he:∀ cl ex s H,PE (cxComp X cs cl N' ex s H) elt te)
  (hs:∀ x,foldedSetIterable iter X.env x=pure x:=by intro _; rfl):PE X (.ListComp elt [⟨tg,iter,ifs,0⟩] cs pos) (tComp N' wi g tc te):=by
 intro pins s σ H Q I h
 obtain ⟨cl,e,h1,h2,_⟩:=closure_of (env:=X.env) cs.names [] (fun x hx hk=>I.ok.has x.1 (S.free x hx hk)) (fun _ _ z=>nomatch z)
 have hclos:closureFor cs X.env=pure cl:=by
  simp only [closureFor]
  rw [e]; rfl
 rw [eval_ListComp]
 refine wpAny_comprehension_free (use:=none) rfl hs hclos S.kind S.loc (thn (hi pins s σ H _ I h) fun v s1 q1=>thn q1 fun itv s2 q2=>?_)
 refine comp_core (R:=fun acc C=>compPost (model X.prog X.w) X.A X.xe none (EP X pins σ Q) acc C) (Q:=Q) S hc hg hk ht he h1 h2 q2 fun D C H' s' I' q n f=>?_
 obtain ⟨m,hn⟩:=n
 obtain ⟨f0,f1,f2,f3,f4,f5⟩:=f
 exact ⟨m,hn,fun h' sb=>⟨.ref D,H',I'.turned (t':=s'.toks) (fun b o hb e=>sb.extBut b o hb e) f0 f1 f3 f4 f5,rfl,q⟩⟩
theorem ps_setc {i:Nat} {y:Str} {py spos:Pos} (S:CompScope X.env.scope cs X.N N') (hc:X.calm=true) (hi:PI X tg iter wi)
  (hg:∀ cl ex s H,PG (cxComp X cs cl N' ex s H) tg g) (hk:GKeep X.N.length g) (ht:∀ cl ex s H,PIf (cxComp X cs cl N' ex s H) ifs tc) (he:∀ cl ex s H,PE (cxComp X cs cl N' ex s H) elt te)
  (hN:X.N.Nodup) (hy:X.N[i]?=some y) (hl:Loc X.env.scope y)
  (hsw:swapsWith (.ListComp elt [⟨tg,iter,ifs,0⟩] cs pos) (some (.Name y py)) spos.line X.env=pure true:=by rfl) (hf:X.fn y=true∨X.env.scope.names.lookup y=some .local:=by first | exact .inl rfl | exact .inr rfl | assumption)
  (hs:∀ x,foldedSetIterable iter X.env x=pure x:=by intro _; rfl):PS X (.Assign [.Name y py] (.ListComp elt [⟨tg,iter,ifs,0⟩] cs pos) spos) (tAsg (tComp N' wi g tc te) (gName i)):=by
 intro pins s σ H Q I h
 obtain ⟨cl,e,h1,h2,_⟩:=closure_of (env:=X.env) cs.names [] (fun x hx hk=>I.ok.has x.1 (S.free x hx hk)) (fun _ _ z=>nomatch z)
 have hclos:closureFor cs X.env=pure cl:=by
  simp only [closureFor]
  rw [e]; rfl
 rw [exec_Assign_Name_used _ _ _ _ hsw]
 refine wpAny_bind (wpAny_standAt (wpAny_bind ?_))
 show wpAny _ _ (comprehension (.ListComp elt [⟨tg,iter,ifs,0⟩] cs pos) cs X.env _ (newList []) false (eval iter X.env) (some (assign (.Name y py) X.env))>>=_) _ _ s
 refine wpAny_bind (thn (wpAny_comprehension_free (use:=some (assign (.Name y py) X.env)) (Q:=fun _ s'=>SP X pins Q .next s') rfl hs hclos S.kind S.loc (thn (hi pins s σ H _ I h) fun v s1 q1=>thn q1 fun itv s2 q2=>?_)) fun _ s' q=>wpAny_pure (wpAny_pure q))
 refine comp_core (R:=fun acc C=>compPost (model X.prog X.w) X.A X.xe (some (assign (.Name y py) X.env)) (fun _ s'=>SP X pins Q .next s') acc C) (Q:=fun x H1=>gName i x σ H1 Q.nx) S hc hg hk ht he h1 h2 q2 fun D C H' s' I' q n f=>?_
 obtain ⟨m,hn⟩:=n
 obtain ⟨f0,f1,f2,f3,f4,f5⟩:=f
 show wpAny _ _ (assign (.Name y py) X.env (.ref D)) _ _ _
 refine wpAny_assign_Name (store_ok2 (v:=.ref D) (u:=.ref D) I' hN hy hl rfl (fun s'' I'' ⟨a,sb,ha⟩=>?_) hf)
 have hCa:C≠a:=by
  rcases ha with rfl | ha
  ·exact f1
  ·exact fun q=>f4 _ _ ha q.symm
 refine ⟨m,hn.sameBut sb hCa,fun h' sb'=>?_⟩
 exact ⟨_,H',I''.turned (t':=s''.toks) (fun b o hb e=>sb'.extBut b o hb e) f0 f1 f3 f4 f5,q⟩
end
end L2
set_option Elab.async false
set_option linter.all false
set_option maxRecDepth 100000
namespace L2
open PySem PySem.Spec PyProof.Rows
theorem Sq.same {K:PySem.W.Frag} {H H':Hp} {t:Bool} {a:Addr} {xs:List V} (e:Same H H') (h:Sq K H t a xs):Sq K H' t a xs:=by
 unfold Sq at h ⊢
 split
 ·rename_i ht; rw [if_pos ht] at h
  rcases h with (h | ⟨o,h⟩) | h
  ·exact .inl (.inl (e _ _ h))
  ·exact .inl (.inr ⟨o,e _ _ h⟩)
  ·exact .inr h
 ·rename_i ht; rw [if_neg ht] at h
  exact e.seq h
def seqAt (K:PySem.W.Frag) (H:Hp) (p:Addr) (R:List V→Prop):Prop:=match H p with
 | some (.tup xs)=>R xs
 | some (.lst xs)=>R xs
 | _=>∃ t xs,Sq K H t p xs∧R xs
section
variable {X:Cx}
def ItQ (K:PySem.W.Frag) (t:Bool) (a:Addr):It:=if t=true then Itt K a else Itl K a
def iSq (K:PySem.W.Frag) (tl:TE):TI:=fun σ H R=>tl σ H fun x H1=>∃ a,x=.ref a∧∃ t xs,Sq K H1 t a xs∧R (ItQ K t a) H1
theorem pi_sq {tg l:Expr} {tl:TE} (hl:PE X l tl):PI X tg l (iSq X.K tl):=by
 intro pins s σ H R I h
 refine thn (hl pins s σ H _ I h) fun v s1 ⟨x,H1,I1,r1,q1⟩=>?_
 obtain ⟨a,e,t,xs,hq,q⟩:=q1
 subst e
 cases r1
 cases t with
 | true=>
  have hq':SqT X.K H1 a xs:=by unfold Sq at hq; rw [if_pos rfl] at hq; exact hq
  obtain ⟨its,rv,p,hz⟩:=I1.tuple hq'
  refine wpAny_pyIter_tuple (show s1.heap.IsTuple a its.toArray from p) ?_
  refine ⟨s1.heap.objs.size,[s1.heap.objs.size],_,Itt X.K a,H1,rfl,I1.kept (t':=s1.toks) fun b o e=>Heap.get?_push_of_some _ e,turn_tuple a _,⟨_,Heap.get?_push_size _ rfl,rfl,rfl⟩,fun b hb=>?_,q⟩
  have e:b=s1.heap.objs.size:=by simpa using hb
  subst e
  exact I1.fpOk (Nat.le_refl _) (I1.hok.fresh (Nat.le_refl _))
 | false=>
  have hq':SqL X.K H1 a xs:=by unfold Sq at hq; rw [if_neg Bool.false_ne_true] at hq; exact hq
  obtain ⟨its,rv,p,hz⟩:=I1.list hq'
  refine wpAny_pyIter_list p.isList ?_
  refine ⟨s1.heap.objs.size,[s1.heap.objs.size],_,Itl X.K a,H1,rfl,I1.kept (t':=s1.toks) fun b o e=>Heap.get?_push_of_some _ e,turn_list a _,⟨_,Heap.get?_push_size _ rfl,rfl,rfl⟩,fun b hb=>?_,q⟩
  have e:b=s1.heap.objs.size:=by simpa using hb
  subst e
  exact I1.fpOk (Nat.le_refl _) (I1.hok.fresh (Nat.le_refl _))
theorem bt_list:bootBuiltins "list" = some (.type "list"):=by decide +kernel
theorem bt_tuple:bootBuiltins "tuple" = some (.type "tuple"):=by decide +kernel
theorem bt_max:bootBuiltins "max" = some (.builtin "max"):=by decide +kernel
theorem bt_min:bootBuiltins "min" = some (.builtin "min"):=by decide +kernel
def isiB (A T:String):Option Bool:=
 if A=T then some true else if A = "bool" ∧ T = "int" then some true
 else if (A = "NoneType" ∨ A = "bool" ∨ A = "int" ∨ A = "str" ∨ A = "list" ∨ A = "tuple" ∨ A = "dict")∧(T = "bool" ∨ T = "int" ∨ T = "list" ∨ T = "tuple") then some false else none
end
theorem isi_bb:isiB "bool" "bool" = some true:=by decide
theorem isi_bi:isiB "bool" "int" = some true:=by decide
theorem isi_ib:isiB "int" "bool" = some false:=by decide
theorem isi_ii:isiB "int" "int" = some true:=by decide
theorem isi_tt:isiB "tuple" "tuple" = some true:=by decide
theorem isi_ll:isiB "list" "list" = some true:=by decide
theorem isi_ni:isiB "NoneType" "int" = some false:=by decide
theorem isi_nb:isiB "NoneType" "bool" = some false:=by decide
theorem isi_si:isiB "str" "int" = some false:=by decide
theorem isi_sb:isiB "str" "bool" = some false:=by decide
theorem isi_li:isiB "list" "int" = some false:=by decide
theorem isi_lb:isiB "list" "bool" = some false:=by decide
theorem isi_ti:isiB "tuple" "int" = some false:=by decide
theorem isi_tb:isiB "tuple" "bool" = some false:=by decide
theorem ixN_int {n:Nat} {i:Int} (h0:0≤i) (h1:i<n):ixN n i=some i.toNat:=by unfold ixN; rw [if_pos h0,if_pos h1]
theorem mem_getD {ms:List Int} {P:Int→Prop} (h:∀ x∈ms,P x) {i:Nat} (hi:i<ms.length):P (ms.getD i 0):=by
 have:ms.getD i 0=ms[i]:=by simp [hi]
 rw [this]; exact h _ (List.getElem_mem hi)
structure Runs (J:It) (n:Nat) (H1:Hp) (Y:Nat→V→Hp→Hp→Prop):Prop where
 go:∀ i H,i<n→Same H1 H→J.go i H
 stop:∀ H,Same H1 H→J.stop n H
 yld:∀ i H x H',i<n→Same H1 H→J.yld i H x H'→Y i x H H'
theorem runs_zip2 {K:PySem.W.Frag} {t u:Bool} {a b:Addr} {xs ys:List V} {H1:Hp} (h:Sq K H1 t a xs) (h':Sq K H1 u b ys) :
  Runs (ItZ K [(t,a),(u,b)]) (min xs.length ys.length) H1 fun i x H H'=>∃ p y z,x=.ref p∧H p=none∧H'=upd H p (.tup [y,z])∧xs[i]?=some y∧ys[i]?=some z:=by
 refine ⟨fun i H hi s v hv=>?_,fun H s=>⟨fun v hv=>?_,?_⟩,fun i H x H' hi s hy=>?_⟩
 ·simp only [List.mem_cons,List.not_mem_nil,or_false] at hv
  rcases hv with rfl | rfl
  ·exact ⟨xs,xs[i]'(by omega),Sq.same s h,by simp⟩
  ·exact ⟨ys,ys[i]'(by omega),Sq.same s h',by simp⟩
 ·simp only [List.mem_cons,List.not_mem_nil,or_false] at hv
  rcases hv with rfl | rfl
  ·exact ⟨xs,Sq.same s h⟩
  ·exact ⟨ys,Sq.same s h'⟩
 ·rcases Nat.le_total xs.length ys.length with q | q
  ·exact ⟨(t,a),by simp,xs,Sq.same s h,by omega⟩
  ·exact ⟨(u,b),by simp,ys,Sq.same s h',by omega⟩
 ·obtain ⟨p,zs,e1,e2,e3,pr⟩:=hy
  cases pr with
  | cons r1 pr=>
   cases pr with
   | cons r2 pr=>
    cases pr
    exact ⟨p,_,_,e1,e2,e3,r1 xs (Sq.same s h),r2 ys (Sq.same s h')⟩
theorem runs_zip3 {K:PySem.W.Frag} {t u w:Bool} {a b c:Addr} {xs ys zs:List V} {H1:Hp} (h:Sq K H1 t a xs) (h':Sq K H1 u b ys) (h'':Sq K H1 w c zs) :
  Runs (ItZ K [(t,a),(u,b),(w,c)]) (min xs.length (min ys.length zs.length)) H1 fun i x H H'=>∃ p y z v,x=.ref p∧H p=none∧H'=upd H p (.tup [y,z,v])∧xs[i]?=some y∧ys[i]?=some z∧zs[i]?=some v:=by
 refine ⟨fun i H hi s v hv=>?_,fun H s=>⟨fun v hv=>?_,?_⟩,fun i H x H' hi s hy=>?_⟩
 ·simp only [List.mem_cons,List.not_mem_nil,or_false] at hv
  rcases hv with rfl | rfl | rfl
  ·exact ⟨xs,xs[i]'(by omega),Sq.same s h,by simp⟩
  ·exact ⟨ys,ys[i]'(by omega),Sq.same s h',by simp⟩
  ·exact ⟨zs,zs[i]'(by omega),Sq.same s h'',by simp⟩
 ·simp only [List.mem_cons,List.not_mem_nil,or_false] at hv
  rcases hv with rfl | rfl | rfl
  ·exact ⟨xs,Sq.same s h⟩
  ·exact ⟨ys,Sq.same s h'⟩
  ·exact ⟨zs,Sq.same s h''⟩
 ·have:min xs.length (min ys.length zs.length)=xs.length∨min xs.length (min ys.length zs.length)=ys.length∨min xs.length (min ys.length zs.length)=zs.length:=by omega
  rcases this with q | q | q
  ·exact ⟨(t,a),by simp,xs,Sq.same s h,by omega⟩
  ·exact ⟨(u,b),by simp,ys,Sq.same s h',by omega⟩
  ·exact ⟨(w,c),by simp,zs,Sq.same s h'',by omega⟩
 ·obtain ⟨p,vs,e1,e2,e3,pr⟩:=hy
  cases pr with
  | cons r1 pr=>
   cases pr with
   | cons r2 pr=>
    cases pr with
    | cons r3 pr=>
     cases pr
     exact ⟨p,_,_,_,e1,e2,e3,r1 xs (Sq.same s h),r2 ys (Sq.same s h'),r3 zs (Sq.same s h'')⟩
structure Def (K:PySem.W.Frag) (mg:Str→Option Value) (x:Str) (st:Stmt) (ps:List Str) (f:Addr) (fd:FuncData):Prop where
 F:Fun K x x st f fd
 m:mg x=some (.ref f)
 b:Binds K fd ps []
theorem ixmod {n:Nat} {i:Int} (h:0<n):0≤i%(n:Int)∧i%(n:Int)<n:=⟨Int.emod_nonneg _ (by omega),Int.emod_lt_of_pos _ (by omega)⟩
section
variable {X:Cx}
theorem pg_tupK (K:PySem.W.Frag) {es:List Expr} {pos:Pos} {k:Nat} {t:TGs} (n:Nat) (hc:X.calm=true) (h:PGs X es t) (hK:X.K=K:=by rfl)
  (hn:(assignEach es X.env).length=n:=by rfl) (hst:(assignEach es X.env).findIdx? (·.1)=none:=by rfl):PG X (.Tuple es k pos) (gTup K n t):=by subst hK; exact pg_tup hc h hn hst
def tApp (to:TE) (te:TE):TE:=fun σ H Q=>to σ H fun x H1=>∃ p,x=.ref p∧(∃ xs,H1 p=some (.lst xs))∧te σ H1 fun y H2=>match H2 p with
 | some (.lst xs)=>xs.length<sizeLine∧Q .non (upd H2 p (.lst (xs ++ [y])))
 | _=>False
theorem pe_append {o e:Expr} {to te:TE} {apos cpos:Pos} (ho:PE X o to) (ha:PE X e te)
  (hbase:attributeBase o "append" X.env (eval o X.env)=eval o X.env:=by rfl)
  (hfew:((backTo cpos (starEach [e] X.env)).all (fun x=>!x.1)&&(backToKw cpos (keywordEach [] X.env)).all (fun x=>x.1.isSome)
   && decide (([e]:List Expr).length+([]:List Keyword).length+(if ([]:List Keyword).isEmpty then 0 else 1)<30))=true:=by rfl)
  (hline:(apos.endLine == cpos.line)=true:=by rfl) (hs:starEach [e] X.env=(false,eval e X.env)::starEach [] X.env:=by rfl):PE X (.Call (.Attribute o "append" apos) [e] [] cpos) (tApp to te):=by
 intro pins s σ H Q I h
 refine wpAny_Call_method_late hbase hfew hline rfl (thn (ho pins s σ H _ I h) fun v s1 ⟨x,H1,I1,r1,p,ex,⟨xs,e1⟩,q1⟩=>?_)
 subst ex
 obtain ⟨h1,h2⟩:=tyV_is (T := "list") I1 r1 (.inl ⟨rfl,xs,SqL.of e1⟩)
 refine ⟨"list", "list.append",PySem.F.plainAttrs_list,PySem.F.slot_list_append,PySem.F.type_list_append,h1,h2,?_⟩
 have hA:=pa_cons ha pa_nil hs cpos pins s1 σ H1 (fun vs H2=>∃ y,vs = [y]∧match H2 p with
  | some (.lst xs)=>xs.length<sizeLine∧Q .non (upd H2 p (.lst (xs ++ [y])))
  | _=>False) I1 (by
   have e:(fun (y:V) (H2:Hp)=>match H2 p with
     | some (.lst xs)=>xs.length<sizeLine∧Q .non (upd H2 p (.lst (xs ++ [y])))
     | _=>False)=fun (y:V) (H2:Hp)=>∃ y',[y] = [y']∧match H2 p with
     | some (.lst xs)=>xs.length<sizeLine∧Q .non (upd H2 p (.lst (xs ++ [y'])))
     | _=>False:=by
    funext y H2
    exact propext ⟨fun q=>⟨y,rfl,q⟩,fun ⟨y',e,q⟩=>by cases e; exact q⟩
   rw [e] at q1
   exact q1)
 rw [hs] at hA ⊢
 refine Calls.callWith_builtin rfl (Calls.evalArgs_plain ?_)
 refine thn hA fun us s2 ⟨vs,H2,I2,r2,y,ev,q2⟩=>?_
 subst ev
 refine mt_append pins s2 σ H2 (.ref p) [y] v us Q I2 r1 r2 ?_
 split at q2
 ·rename_i ys e2; exact ⟨p,ys,y,rfl,rfl,e2,q2.1,q2.2⟩
 ·exact q2.elim
end
section
variable {X:Cx}
end
def CPowB (i j:Int):Prop:=0≤j∧(Builtin.Int.intBits i:Int)*j≤2^27
theorem some_getD {ns:List Int} {i:Nat} (h:i<ns.length):ns[i]?=some (ns.getD i 0):=by rw [List.getD_eq_getElem?_getD]; simp [h]
end L2
set_option Elab.async false
set_option linter.all false
set_option maxRecDepth 100000
namespace TP
open PySem L2
inductive W where
 | non | bl (b:Bool) | int (i:Int) | str (x:Str) | ty (n:String) | tup (ws:List W) | lst (ws:List W) | scr (ws:List W)
 | exc (c:Str) (i:Option Int) | cls (c:Str)
def XD (F:Hp) (od:Option Addr):Option Int→Prop
 | none=>od=none
 | some i=>∃ d,od=some d∧F d=some (.xd [("at",.int i)])
mutual
inductive Rep (K:PySem.W.Frag) (F:Hp):V→W→Prop where
 | non:Rep K F .non .non
 | bl {b:Bool}:Rep K F (.bl b) (.bl b)
 | int {i:Int}:Rep K F (.int i) (.int i)
 | str {x:Str}:Rep K F (.str x) (.str x)
 | ty {n:String}:Rep K F (.ty n) (.ty n)
 | tup {a:Addr} {vs:List V} {ws:List W}:F a=some (.tup vs)→Reps K F vs ws→Rep K F (.ref a) (.tup ws)
 | lst {a:Addr} {vs:List V} {ws:List W}:F a=some (.lst vs)→Reps K F vs ws→Rep K F (.ref a) (.lst ws)
 | scr {a:Addr} {vs:List V} {ws:List W}:SqL K F a vs→Reps K F vs ws→Rep K F (.ref a) (.scr ws)
 | exc {a C:Addr} {o:Obj} {vs:Array Value} {c:Str} {i:Option Int}:F a=some (.ext fun h=>h.get? a=some o)→o.cls=.ref C→o.data=.fields vs→PySem.W.nsIn K mainGlobals c=some (some (.ref C))→XD F o.dict i→Rep K F (.ref a) (.exc c i)
 | cls {C:Addr} {c:Str}:PySem.W.nsIn K mainGlobals c=some (some (.ref C))→Rep K F (.ref C) (.cls c)
inductive Reps (K:PySem.W.Frag) (F:Hp):List V→List W→Prop where
 | nil:Reps K F [] []
 | cons {v:V} {w:W} {vs:List V} {ws:List W}:Rep K F v w→Reps K F vs ws→Reps K F (v::vs) (w::ws)
end
section
variable {K:PySem.W.Frag} {F F':Hp}
theorem sqT_same {a:Addr} {xs:List V} (e:Same F F') (h:SqT K F a xs):SqT K F' a xs:=by
 rcases h with (h | ⟨o,h⟩) | h
 ·exact .inl (.inl (e _ _ h))
 ·exact .inl (.inr ⟨o,e _ _ h⟩)
 ·exact .inr h
theorem XD.same (e:Same F F') {od:Option Addr}:∀ {i:Option Int},XD F od i→XD F' od i
 | none,h=>h
 | some _,⟨d,h1,h2⟩=>⟨d,h1,e _ _ h2⟩
mutual
theorem Rep.same (e:Same F F'):∀ {v:V} {w:W},Rep K F v w→Rep K F' v w
 | _,_,.non=>.non
 | _,_,.bl=>.bl
 | _,_,.int=>.int
 | _,_,.str=>.str
 | _,_,.ty=>.ty
 | _,_,.tup h r=>.tup (e _ _ h) (Reps.same e r)
 | _,_,.lst h r=>.lst (e _ _ h) (Reps.same e r)
 | _,_,.scr h r=>.scr (Same.seq e h) (Reps.same e r)
 | _,_,.exc h1 h2 h3 h4 h5=>.exc (e _ _ h1) h2 h3 h4 (XD.same e h5)
 | _,_,.cls h=>.cls h
theorem Reps.same (e:Same F F'):∀ {vs:List V} {ws:List W},Reps K F vs ws→Reps K F' vs ws
 | _,_,.nil=>.nil
 | _,_,.cons h r=>.cons (Rep.same e h) (Reps.same e r)
end
theorem Reps.length:∀ {vs:List V} {ws:List W},Reps K F vs ws→vs.length=ws.length
 | _,_,.nil=>rfl
 | _,_,.cons _ r=>by simp [Reps.length r]
theorem Reps.get:∀ {vs:List V} {ws:List W} {i:Nat} {w:W},Reps K F vs ws→ws[i]?=some w→∃ v,vs[i]?=some v∧Rep K F v w
 | _,_,_,_,.nil,e=>by simp at e
 | _,_,0,_,.cons r _,e=>by simp at e; subst e; exact ⟨_,rfl,r⟩
 | _,_,i+1,w,.cons _ t,e=>by
  obtain ⟨v,h1,h2⟩:=Reps.get (i:=i) (w:=w) t (by simpa using e)
  exact ⟨v,by simpa using h1,h2⟩
theorem Reps.get':∀ {vs:List V} {ws:List W} {i:Nat} {v:V},Reps K F vs ws→vs[i]?=some v→∃ w,ws[i]?=some w∧Rep K F v w
 | _,_,_,_,.nil,e=>by simp at e
 | _,_,0,_,.cons r _,e=>by simp at e; subst e; exact ⟨_,rfl,r⟩
 | _,_,i+1,v,.cons _ t,e=>by
  obtain ⟨w,h1,h2⟩:=Reps.get' (i:=i) (v:=v) t (by simpa using e)
  exact ⟨w,by simpa using h1,h2⟩
theorem Reps.append:∀ {vs us:List V} {ws xs:List W},Reps K F vs ws→Reps K F us xs→Reps K F (vs++us) (ws++xs)
 | _,_,_,_,.nil,s=>s
 | _,_,_,_,.cons r t,s=>.cons r (Reps.append t s)
theorem Reps.take:∀ {vs:List V} {ws:List W} (n:Nat),Reps K F vs ws→Reps K F (vs.take n) (ws.take n)
 | _,_,0,_=>.nil
 | _,_,_+1,.nil=>.nil
 | _,_,n+1,.cons r t=>.cons r (Reps.take n t)
theorem Reps.drop:∀ {vs:List V} {ws:List W} (n:Nat),Reps K F vs ws→Reps K F (vs.drop n) (ws.drop n)
 | _,_,0,r=>r
 | _,_,_+1,.nil=>.nil
 | _,_,n+1,.cons _ t=>Reps.drop n t
theorem Reps.set {v:V} {w:W} (h:Rep K F v w):∀ {vs:List V} {ws:List W} (i:Nat),Reps K F vs ws→Reps K F (vs.set i v) (ws.set i w)
 | _,_,_,.nil=>.nil
 | _,_,0,.cons _ t=>.cons h t
 | _,_,i+1,.cons q t=>.cons q (Reps.set h i t)
theorem Reps.snoc {vs:List V} {ws:List W} {v:V} {w:W} (r:Reps K F vs ws) (h:Rep K F v w):Reps K F (vs ++ [v]) (ws ++ [w]):=r.append (.cons h .nil)
end
mutual
def noL:W→Bool
 | .lst _=>false
 | .scr _=>false
 | .tup ws=>noLs ws
 | _=>true
def noLs:List W→Bool
 | []=>true
 | w::ws=>noL w&&noLs ws
end
def isL:HO→Bool
 | .lst _=>true
 | .dT _=>true
 | .dK _=>true
 | .frz _ (.lst _)=>true
 | _=>false
def join (H0 G:Hp):Hp:=fun a=>match H0 a with
 | some o=>if isL o then some o else G a
 | none=>G a
inductive Sl where
 | un | val (w:W) | par (w:W) | own (ws:List W) | dic (ks:List (List Int)) | dik (ks:List Int) | iop (p:Addr) (ws:List W) | hz (w:W)
abbrev Rho:=List Sl
def noLG (G:Hp):Hp:=fun a=>match G a with
 | some o=>if isL o then none else some o
 | none=>none
theorem noLG_same {G G':Hp} (h:Same G G'):Same (noLG G) (noLG G'):=fun a o e=>by
 unfold noLG at e ⊢
 cases q:G a with
 | none=>rw [q] at e; cases e
 | some u=>rw [q] at e; rw [h a u q]; exact e
theorem noLG_sub {G:Hp}:Same (noLG G) G:=fun a o e=>by
 unfold noLG at e
 cases q:G a with
 | none=>rw [q] at e; cases e
 | some u=>
  rw [q] at e
  dsimp only at e
  cases hl:isL u
  ·rw [hl] at e; exact e
  ·rw [hl] at e; cases e
def SlR (K:PySem.W.Frag) (H0 G H:Hp):Sl→Option V→Prop
 | .un,_=>True
 | .val w,o=>∃ v,o=some v∧Rep K G v w
 | .par w,o=>∃ v,o=some v∧Rep K (join H0 G) v w
 | .own ws,o=>∃ a vs,o=some (.ref a)∧H a=some (.lst vs)∧G a=none∧H0 a=none∧Reps K G vs ws
 | .dic ks,o=>∃ (a:Addr) (kvs:List (List Key×V)),o=some (.ref a)∧H a=some (.dT kvs)∧G a=none∧H0 a=none∧kvs.map (·.1)=ks.map fun k=>k.map Sum.inl
 | .dik ks,o=>∃ (a:Addr) (kvs:List (Key×V)),o=some (.ref a)∧H a=some (.dK kvs)∧G a=none∧H0 a=none∧kvs.map (·.1)=ks.map Sum.inl
 | .iop p ws,o=>o=some (.ref p)∧∃ vs,H0 p=some (.lst vs)∧Reps K G vs ws
 | .hz w,o=>∃ v,o=some v∧Rep K (join H0 (noLG G)) v w
structure PIv (K:PySem.W.Frag) (H0 G:Hp) (ρ:Rho) (σ:St) (H:Hp):Prop where
 g0:∀ a o,H0 a=some o→isL o=false→G a=some o
 gl:∀ a o,H0 a=some o→isL o=true→G a=none
 gh:Same G H
 hh:Same H0 H
 len:ρ.length=σ.length
 sl:∀ (i:Nat) (x:Sl) (o:Option V),ρ[i]?=some x→σ[i]?=some o→SlR K H0 G H x o
 ne:∀ (i j:Nat) (ws us:List W) (a:Addr),i≠j→ρ[i]?=some (.own ws)→ρ[j]?=some (.own us)→σ[i]?=some (some (.ref a))→σ[j]?≠some (some (.ref a))
structure Ext (G H G' H':Hp):Prop where
 gg:Same G G'
 hh:Same H H'
 gh:Same G' H'
 keep:∀ a o,H a=some o→isL o=true→G a=none→G' a=none
theorem Ext.refl {G H:Hp} (h:Same G H):Ext G H G H:=⟨Same.refl G,Same.refl H,h,fun _ _ _ _ e=>e⟩
theorem Ext.trans {G H G1 H1 G2 H2:Hp} (a:Ext G H G1 H1) (b:Ext G1 H1 G2 H2):Ext G H G2 H2:=
 ⟨a.gg.trans b.gg,a.hh.trans b.hh,b.gh,fun x o h l e=>b.keep x o (a.hh x o h) l (a.keep x o h l e)⟩
section
variable {K:PySem.W.Frag} {H0 G H G' H':Hp} {ρ:Rho} {σ:St}
theorem join_same (h:Same G G'):Same (join H0 G) (join H0 G'):=fun a o e=>by
 unfold join at e ⊢
 cases q:H0 a with
 | none=>rw [q] at e; exact h a o e
 | some u=>
  rw [q] at e
  dsimp only at e ⊢
  by_cases hl:isL u=true
  ·rw [if_pos hl] at e ⊢; exact e
  ·rw [if_neg hl] at e ⊢; exact h a o e
theorem PIv.G_join (I:PIv K H0 G ρ σ H):Same G (join H0 G):=fun a o e=>by
 unfold join
 cases q:H0 a with
 | none=>exact e
 | some u=>
  dsimp only
  by_cases hl:isL u=true
  ·rw [I.gl a u q hl] at e; cases e
  ·rw [if_neg hl]; exact e
theorem PIv.join_H (I:PIv K H0 G ρ σ H):Same (join H0 G) H:=fun a o e=>by
 unfold join at e
 cases q:H0 a with
 | none=>rw [q] at e; exact I.gh a o e
 | some u=>
  rw [q] at e
  dsimp only at e
  by_cases hl:isL u=true
  ·rw [if_pos hl] at e; cases e; exact I.hh a _ q
  ·rw [if_neg hl] at e; exact I.gh a o e
theorem PIv.ext (I:PIv K H0 G ρ σ H) (x:Ext G H G' H'):PIv K H0 G' ρ σ H' where
 g0 a o e l:=x.gg a o (I.g0 a o e l)
 gl a o e l:=x.keep a o (I.hh a o e) l (I.gl a o e l)
 gh:=x.gh
 hh:=I.hh.trans x.hh
 len:=I.len
 sl i s o h1 h2:=by
  have:=I.sl i s o h1 h2
  cases s with
  | un=>trivial
  | val w=>obtain ⟨v,e,r⟩:=this; exact ⟨v,e,r.same x.gg⟩
  | par w=>obtain ⟨v,e,r⟩:=this; exact ⟨v,e,r.same (join_same x.gg)⟩
  | own ws=>
   obtain ⟨a,vs,e,h,g,h0,r⟩:=this
   exact ⟨a,vs,e,x.hh a _ h,x.keep a _ h rfl g,h0,r.same x.gg⟩
  | dic ks=>
   obtain ⟨a,kvs,e,h,g,h0,r⟩:=this
   exact ⟨a,kvs,e,x.hh a _ h,x.keep a _ h rfl g,h0,r⟩
  | dik ks=>
   obtain ⟨a,kvs,e,h,g,h0,r⟩:=this
   exact ⟨a,kvs,e,x.hh a _ h,x.keep a _ h rfl g,h0,r⟩
  | iop p ws=>
   obtain ⟨e,vs,h,r⟩:=this
   exact ⟨e,vs,h,r.same x.gg⟩
  | hz w=>obtain ⟨v,e,r⟩:=this; exact ⟨v,e,r.same (join_same (noLG_same x.gg))⟩
 ne:=I.ne
theorem join_noL {a:Addr} {o:HO} (h:join H0 G a=some o) (l:isL o=false):G a=some o:=by
 unfold join at h
 cases q:H0 a with
 | none=>rw [q] at h; exact h
 | some u=>
  rw [q] at h
  dsimp only at h
  by_cases hl:isL u=true
  ·rw [if_pos hl] at h; cases h; rw [hl] at l; cases l
  ·rw [if_neg hl] at h; exact h
theorem XD.clean {od:Option Addr}:∀ {i:Option Int},XD (join H0 G) od i→XD G od i
 | none,h=>h
 | some _,⟨d,h1,h2⟩=>⟨d,h1,join_noL h2 rfl⟩
mutual
theorem Rep.clean (I:PIv K H0 G ρ σ H):∀ {v:V} {w:W},Rep K (join H0 G) v w→noL w=true→Rep K G v w
 | _,_,.non,_=>.non
 | _,_,.bl,_=>.bl
 | _,_,.int,_=>.int
 | _,_,.str,_=>.str
 | _,_,.ty,_=>.ty
 | _,_,.tup (a:=a) h r,n=>by
  refine .tup ?_ (Reps.clean I r (by simpa [noL] using n))
  unfold join at h
  cases q:H0 a with
  | none=>rw [q] at h; exact h
  | some u=>
   rw [q] at h
   dsimp only at h
   by_cases hl:isL u=true
   ·rw [if_pos hl] at h; cases h; cases hl
   ·rw [if_neg hl] at h; exact h
 | _,_,.lst _ _,n=>by simp [noL] at n
 | _,_,.scr _ _,n=>by simp [noL] at n
 | _,_,.exc h1 h2 h3 h4 h5,_=>.exc (join_noL h1 rfl) h2 h3 h4 (XD.clean h5)
 | _,_,.cls h,_=>.cls h
theorem Reps.clean (I:PIv K H0 G ρ σ H):∀ {vs:List V} {ws:List W},Reps K (join H0 G) vs ws→noLs ws=true→Reps K G vs ws
 | _,_,.nil,_=>.nil
 | _,_,.cons (w:=w) (ws:=ws) h r,n=>by
  have n':noL w=true∧noLs ws=true:=by simpa [noLs] using n
  exact .cons (Rep.clean I h n'.1) (Reps.clean I r n'.2)
end
end
structure XW where
 cls:Str
 at_:Option Int
inductive R (α:Type) where
 | ok (a:α) | ex (e:XW) | stuck
def R.bind {α β:Type} (x:R α) (f:α→R β):R β:=match x with
 | .ok a=>f a
 | .ex e=>.ex e
 | .stuck=>.stuck
instance:Monad R where
 pure:=R.ok
 bind:=R.bind
@[simp] theorem R.ok_bind {α β:Type} (a:α) (f:α→R β):((R.ok a:R α)>>=f)=f a:=rfl
@[simp] theorem R.stuck_bind {α β:Type} (f:α→R β):((R.stuck:R α)>>=f)=.stuck:=rfl
@[simp] theorem R.ex_bind {α β:Type} (e:XW) (f:α→R β):((R.ex e:R α)>>=f)=.ex e:=rfl
@[simp] theorem R.pure_eq {α:Type} (a:α):(pure a:R α)=.ok a:=rfl
inductive Mode where
 | F | V | U | C | B
def Md (K:PySem.W.Frag) (H0 H G' H':Hp) (v:V) (w:W):Mode→Prop
 | .V=>Rep K G' v w
 | .U=>Rep K (join H0 G') v w
 | .F=>match w with
  | .lst ws=>∃ a vs,v=.ref a∧H' a=some (.lst vs)∧G' a=none∧H a=none∧Reps K G' vs ws
  | w=>Rep K G' v w
 | .C=>Rep K G' v w∨∃ a vs ws,v=.ref a∧w=.lst ws∧H' a=some (.lst vs)∧Reps K G' vs ws
 | .B=>Rep K (join H0 G') v w∨∃ a vs ws,v=.ref a∧w=.lst ws∧H' a=some (.lst vs)∧Reps K G' vs ws
abbrev EXT:=XW→Hp→Prop
def Out {α β:Type} (EX:EXT) (G H:Hp) (md:α→β→Hp→Hp→Prop) (r:R α) (Q:β→Hp→Prop):Prop:=match r with
 | .ok w=>∀ v G' H',Ext G H G' H'→md w v G' H'→Q v H'
 | .ex e=>∀ H',Same H H'→EX e H'
 | .stuck=>False
abbrev mdW (K:PySem.W.Frag) (d:Mode) (H0 H:Hp):W→V→Hp→Hp→Prop:=fun w v G' H'=>Md K H0 H G' H' v w d
abbrev mdB:Bool→Bool→Hp→Hp→Prop:=fun b c _ _=>c=b
inductive MdA (K:PySem.W.Frag) (d:Mode) (H0 H G' H':Hp):List W→List V→Prop where
 | nil:MdA K d H0 H G' H' [] []
 | cons {w:W} {v:V} {ws:List W} {vs:List V}:Md K H0 H G' H' v w d→MdA K d H0 H G' H' ws vs→MdA K d H0 H G' H' (w::ws) (v::vs)
abbrev mdA (K:PySem.W.Frag) (d:Mode) (H0 H:Hp):List W→List V→Hp→Hp→Prop:=fun ws vs G' H'=>MdA K d H0 H G' H' ws vs
def tM (K:PySem.W.Frag) (EX:EXT) (d:Mode) (m:Rho→R W):TE:=fun σ H Q=>∃ H0 G ρ,PIv K H0 G ρ σ H∧Out EX G H (mdW K d H0 H) (m ρ) Q
def tT (K:PySem.W.Frag) (EX:EXT) (m:Rho→R Bool):TT:=fun σ H Q=>∃ H0 G ρ,PIv K H0 G ρ σ H∧Out EX G H mdB (m ρ) Q
def tA (K:PySem.W.Frag) (EX:EXT) (d:Mode) (m:Rho→R (List W)):TA:=fun σ H Q=>∃ H0 G ρ,PIv K H0 G ρ σ H∧Out EX G H (mdA K d H0 H) (m ρ) Q
section
variable {K:PySem.W.Frag} {EX:EXT} {H0 G H G1 H1 G2 H2:Hp} {ρ:Rho} {σ:St}
theorem Out.bind {α β γ δ:Type} {md:α→β→Hp→Hp→Prop} {md':γ→δ→Hp→Hp→Prop} {m:R α} {k:α→R γ} {Q:δ→Hp→Prop} {Q1:β→Hp→Prop} (o:Out EX G H md' (m>>=k) Q)
  (h:∀ x G1 H1 w,Ext G H G1 H1→md w x G1 H1→Out EX G1 H1 md' (k w) Q→Q1 x H1):Out EX G H md m Q1:=by
 cases m with
 | ok w=>
  intro v G' H' e d
  refine h v G' H' w e d ?_
  rw [R.ok_bind] at o
  revert o
  cases k w with
  | ok u=>exact fun o v2 G2 H2 e2 d2=>o v2 G2 H2 (e.trans e2) d2
  | ex x=>exact fun o H2 s2=>o H2 (e.hh.trans s2)
  | stuck=>exact fun o=>o
 | ex x=>exact o
 | stuck=>exact o
theorem Md.start {v:V} {w:W} {d:Mode} (s:Same H H1) (h:Md K H0 H1 G2 H2 v w d):Md K H0 H G2 H2 v w d:=by
 cases d with
 | F=>
  cases w with
  | lst ws=>obtain ⟨a,vs,e,h1,h2,h3,r⟩:=h; exact ⟨a,vs,e,h1,h2,s.free h3,r⟩
  | _=>exact h
 | _=>exact h
theorem Md.move {v:V} {w:W} {d:Mode} (x:Ext G1 H1 G2 H2) (h:Md K H0 H G1 H1 v w d):Md K H0 H G2 H2 v w d:=by
 cases d with
 | V=>exact Rep.same x.gg h
 | U=>exact Rep.same (join_same x.gg) h
 | F=>
  cases w with
  | lst ws=>obtain ⟨a,vs,e,h1,h2,h3,r⟩:=h; exact ⟨a,vs,e,x.hh _ _ h1,x.keep _ _ h1 rfl h2,h3,r.same x.gg⟩
  | non=>exact Rep.same x.gg h
  | bl _=>exact Rep.same x.gg h
  | int _=>exact Rep.same x.gg h
  | str _=>exact Rep.same x.gg h
  | ty _=>exact Rep.same x.gg h
  | tup _=>exact Rep.same x.gg h
  | scr _=>exact Rep.same x.gg h
  | exc _ _=>exact Rep.same x.gg h
  | cls _=>exact Rep.same x.gg h
 | C=>
  rcases h with h | ⟨a,vs,ws,e,e2,h1,r⟩
  ·exact .inl (h.same x.gg)
  ·exact .inr ⟨a,vs,ws,e,e2,x.hh _ _ h1,r.same x.gg⟩
 | B=>
  rcases h with h | ⟨a,vs,ws,e,e2,h1,r⟩
  ·exact .inl (h.same (join_same x.gg))
  ·exact .inr ⟨a,vs,ws,e,e2,x.hh _ _ h1,r.same x.gg⟩
theorem Md.CB {v:V} {w:W} (I:PIv K H0 G1 ρ σ H1) (h:Md K H0 H G1 H1 v w .C):Md K H0 H G1 H1 v w .B:=by
 rcases h with h | h
 ·exact .inl (h.same I.G_join)
 ·exact .inr h
def sca:W→Bool
 | .tup _=>false
 | .scr _=>false
 | .lst _=>false
 | _=>true
theorem Md.sca {v:V} {w:W} (hs:sca w=true) (r:∀ F,Rep K F v w) (d:Mode):Md K H0 H G1 H1 v w d:=by
 cases d with
 | V=>exact r _
 | U=>exact r _
 | C=>exact .inl (r _)
 | B=>exact .inl (r _)
 | F=>cases w <;> first | exact r _ | cases hs
theorem Md.lstB {v:V} {ws:List W} (I:PIv K H0 G1 ρ σ H1) (h:Md K H0 H G1 H1 v (.lst ws) .B):∃ a vs,v=.ref a∧H1 a=some (.lst vs)∧Reps K (join H0 G1) vs ws:=by
 rcases h with h | ⟨a,vs,us,e,e2,h1,r⟩
 ·cases h with
  | lst s r=>exact ⟨_,_,rfl,I.join_H _ _ s,r⟩
 ·cases e2; exact ⟨a,vs,e,h1,r.same I.G_join⟩
theorem Md.scrB {v:V} {ws:List W} (I:PIv K H0 G1 ρ σ H1) (h:Md K H0 H G1 H1 v (.scr ws) .B):∃ a vs,v=.ref a∧SqL K H1 a vs∧Reps K (join H0 G1) vs ws:=by
 rcases h with h | ⟨a,vs,us,e,e2,h1,r⟩
 ·cases h with
  | scr s r=>exact ⟨_,_,rfl,Same.seq I.join_H s,r⟩
 ·cases e2
theorem Md.lstC {v:V} {ws:List W} (I:PIv K H0 G1 ρ σ H1) (h:Md K H0 H G1 H1 v (.lst ws) .C):∃ a vs,v=.ref a∧H1 a=some (.lst vs)∧Reps K G1 vs ws:=by
 rcases h with h | ⟨a,vs,us,e,e2,h1,r⟩
 ·cases h with
  | lst s r=>exact ⟨_,_,rfl,I.gh _ _ s,r⟩
 ·cases e2; exact ⟨a,vs,e,h1,r⟩
theorem Md.tupB {v:V} {ws:List W} (I:PIv K H0 G1 ρ σ H1) (h:Md K H0 H G1 H1 v (.tup ws) .B):∃ a vs,v=.ref a∧H1 a=some (.tup vs)∧Reps K (join H0 G1) vs ws:=by
 rcases h with h | ⟨a,vs,us,e,e2,h1,r⟩
 ·cases h with
  | tup s r=>exact ⟨_,_,rfl,I.join_H _ _ s,r⟩
 ·cases e2
theorem Md.tupC {v:V} {ws:List W} (I:PIv K H0 G1 ρ σ H1) (h:Md K H0 H G1 H1 v (.tup ws) .C):∃ a vs,v=.ref a∧H1 a=some (.tup vs)∧Reps K G1 vs ws:=by
 rcases h with h | ⟨a,vs,us,e,e2,h1,r⟩
 ·cases h with
  | tup s r=>exact ⟨_,_,rfl,I.gh _ _ s,r⟩
 ·cases e2
theorem Md.intB {v:V} {i:Int} (h:Md K H0 H G1 H1 v (.int i) .B):v=.int i:=by
 rcases h with h | ⟨a,vs,us,e,e2,h1,r⟩
 ·cases h; rfl
 ·cases e2
theorem Md.blB {v:V} {i:Bool} (h:Md K H0 H G1 H1 v (.bl i) .B):v=.bl i:=by
 rcases h with h | ⟨a,vs,us,e,e2,h1,r⟩
 ·cases h; rfl
 ·cases e2
theorem Md.strB {v:V} {i:Str} (h:Md K H0 H G1 H1 v (.str i) .B):v=.str i:=by
 rcases h with h | ⟨a,vs,us,e,e2,h1,r⟩
 ·cases h; rfl
 ·cases e2
theorem Md.nonB {v:V} (h:Md K H0 H G1 H1 v .non .B):v=.non:=by
 rcases h with h | ⟨a,vs,us,e,e2,h1,r⟩
 ·cases h; rfl
 ·cases e2
theorem mode_FV {m:Rho→R W} {Q:VK} (h:tM K EX .V m σ H Q):tM K EX .F m σ H Q:=by
 obtain ⟨H0,G,ρ,I,o⟩:=h
 refine ⟨H0,G,ρ,I,?_⟩
 revert o
 cases m ρ with
 | ex e=>exact id
 | stuck=>exact id
 | ok w=>
  intro o v G' H' e d
  cases w with
  | lst ws=>
   obtain ⟨a,vs,rfl,h1,h2,h3,r⟩:=d
   have s1:Same G' (upd G' a (.lst vs)):=fun b o q=>by rw [upd_ne (ne_of_none q h2)]; exact q
   refine o _ (upd G' a (.lst vs)) H' ⟨e.gg.trans s1,e.hh,fun b o q=>?_,fun b o q l g=>?_⟩ (.lst upd_same (r.same s1))
   ·by_cases hb:b=a
    ·subst hb; rw [upd_same] at q; cases q; exact h1
    ·rw [upd_ne hb] at q; exact e.gh b o q
   ·rw [upd_ne (ne_of_none q h3)]; exact e.keep b o q l g
  | _=>exact o v G' H' e d
theorem mode_VU {m:Rho→R W} {Q:VK} (h:tM K EX .U m σ H Q):tM K EX .V m σ H Q:=by
 obtain ⟨H0,G,ρ,I,o⟩:=h
 refine ⟨H0,G,ρ,I,?_⟩
 revert o
 cases m ρ with
 | ex e=>exact id
 | stuck=>exact id
 | ok w=>exact fun o v G' H' e d=>o v G' H' e (Rep.same (I.ext e).G_join d)
theorem mode_VC {m:Rho→R W} {Q:VK} (h:tM K EX .C m σ H Q):tM K EX .V m σ H Q:=by
 obtain ⟨H0,G,ρ,I,o⟩:=h
 refine ⟨H0,G,ρ,I,?_⟩
 revert o
 cases m ρ with
 | ex e=>exact id
 | stuck=>exact id
 | ok w=>exact fun o v G' H' e d=>o v G' H' e (.inl d)
theorem mode_UB {m:Rho→R W} {Q:VK} (h:tM K EX .B m σ H Q):tM K EX .U m σ H Q:=by
 obtain ⟨H0,G,ρ,I,o⟩:=h
 refine ⟨H0,G,ρ,I,?_⟩
 revert o
 cases m ρ with
 | ex e=>exact id
 | stuck=>exact id
 | ok w=>exact fun o v G' H' e d=>o v G' H' e (.inl d)
theorem mode_CB {m:Rho→R W} {Q:VK} (h:tM K EX .B m σ H Q):tM K EX .C m σ H Q:=by
 obtain ⟨H0,G,ρ,I,o⟩:=h
 refine ⟨H0,G,ρ,I,?_⟩
 revert o
 cases m ρ with
 | ex e=>exact id
 | stuck=>exact id
 | ok w=>exact fun o v G' H' e d=>o v G' H' e (Md.CB (H:=H) (I.ext e) d)
theorem mode_FC {m:Rho→R W} {Q:VK} (h:tM K EX .C m σ H Q):tM K EX .F m σ H Q:=by
 obtain ⟨H0,G,ρ,I,o⟩:=h
 refine ⟨H0,G,ρ,I,?_⟩
 revert o
 cases m ρ with
 | ex e=>exact id
 | stuck=>exact id
 | ok w=>
  intro o v G' H' e d
  cases w with
  | lst ws=>obtain ⟨a,vs,rfl,h1,h2,h3,r⟩:=d; exact o _ G' H' e (.inr ⟨a,vs,ws,rfl,rfl,h1,r⟩)
  | _=>exact o v G' H' e (.inl d)
def chk (w:W):R W:=if noL w then .ok w else .stuck
theorem noL_F {v:V} {w:W} (n:noL w=true) (r:Rep K G1 v w):Md K H0 H G1 H1 v w .F:=by
 cases w with
 | lst ws=>simp [noL] at n
 | _=>exact r
theorem mode_chk {m:Rho→R W} {Q:VK} {d:Mode} (hd:d=.F∨d=.V) (h:tM K EX d (fun ρ=>m ρ>>=chk) σ H Q):tM K EX .U m σ H Q:=by
 obtain ⟨H0,G,ρ,I,o⟩:=h
 refine ⟨H0,G,ρ,I,Out.bind o fun x G1 H1 w e m1 o1=>?_⟩
 unfold chk at o1
 by_cases n:noL w=true
 ·rw [if_pos n] at o1
  have r:=Rep.clean (I.ext e) m1 n
  refine o1 x G1 H1 (Ext.refl e.gh) ?_
  rcases hd with rfl | rfl
  ·exact noL_F n r
  ·exact r
 ·rw [if_neg n] at o1; exact o1.elim
end
end TP
namespace TP
open PySem L2
section
variable {K:PySem.W.Frag} {EX:EXT} {H0 G H G1 H1 G2 H2:Hp} {ρ:Rho} {σ:St} {d:Mode} {Q:VK}
theorem c_const {v:V} {w:W} (hs:sca w=true) (r:∀ F,Rep K F v w) (h:tM K EX d (fun _=>.ok w) σ H Q):tC v σ H Q:=by
 obtain ⟨H0,G,ρ,I,o⟩:=h
 exact o v G H (Ext.refl I.gh) (Md.sca hs r d)
def mVar (d:Mode) (i:Nat):Rho→R W:=fun ρ=>match ρ[i]? with
 | some (.val w)=>(match d with | .F=>chk w | _=>.ok w)
 | some (.par w)=>(match d with | .F=>chk w | .V=>chk w | .C=>chk w | _=>.ok w)
 | some (.own ws)=>(match d with | .C=>.ok (.lst ws) | .B=>.ok (.lst ws) | _=>.stuck)
 | some (.iop _ ws)=>(match d with | .B=>.ok (.lst ws) | .U=>.ok (.lst ws) | _=>.stuck)
 | some (.hz w)=>(match d with | .B=>.ok w | .U=>.ok w | _=>.stuck)
 | _=>.stuck
theorem Out.chk {α:Type} {v:V} {w:W} {md:W→α→Hp→Hp→Prop} {Q:α→Hp→Prop} (o:Out EX G H md (chk w) Q):noL w=true∧Out EX G H md (.ok w) Q:=by
 unfold TP.chk at o
 by_cases n:noL w=true
 ·rw [if_pos n] at o; exact ⟨n,o⟩
 ·rw [if_neg n] at o; exact o.elim
theorem c_var {i:Nat} (h:tM K EX d (mVar d i) σ H Q):tVar i σ H Q:=by
 obtain ⟨H0,G,ρ,I,o⟩:=h
 unfold mVar at o
 cases e:ρ[i]? with
 | none=>rw [e] at o; exact o.elim
 | some s=>
  rw [e] at o
  have hi:i<σ.length:=by rw [← I.len]; exact (List.getElem?_eq_some_iff.mp e).1
  have es:σ[i]?=some σ[i]:=by simp
  have r:=I.sl i s _ e es
  cases s with
  | un=>exact o.elim
  | val w=>
   obtain ⟨v,ev,r⟩:=r
   refine ⟨v,by rw [es,ev],?_⟩
   cases d with
   | F=>obtain ⟨n,o⟩:=Out.chk (v:=v) o; exact o v G H (Ext.refl I.gh) (noL_F n r)
   | V=>exact o v G H (Ext.refl I.gh) r
   | U=>exact o v G H (Ext.refl I.gh) (r.same I.G_join)
   | C=>exact o v G H (Ext.refl I.gh) (.inl r)
   | B=>exact o v G H (Ext.refl I.gh) (.inl (r.same I.G_join))
  | par w=>
   obtain ⟨v,ev,r⟩:=r
   refine ⟨v,by rw [es,ev],?_⟩
   cases d with
   | F=>obtain ⟨n,o⟩:=Out.chk (v:=v) o; exact o v G H (Ext.refl I.gh) (noL_F n (Rep.clean I r n))
   | V=>obtain ⟨n,o⟩:=Out.chk (v:=v) o; exact o v G H (Ext.refl I.gh) (Rep.clean I r n)
   | U=>exact o v G H (Ext.refl I.gh) r
   | C=>obtain ⟨n,o⟩:=Out.chk (v:=v) o; exact o v G H (Ext.refl I.gh) (.inl (Rep.clean I r n))
   | B=>exact o v G H (Ext.refl I.gh) (.inl r)
  | own ws=>
   obtain ⟨a,vs,ev,ha,hg,h0,r⟩:=r
   refine ⟨.ref a,by rw [es,ev],?_⟩
   cases d with
   | F=>exact o.elim
   | V=>exact o.elim
   | U=>exact o.elim
   | C=>exact o _ G H (Ext.refl I.gh) (.inr ⟨a,vs,ws,rfl,rfl,ha,r⟩)
   | B=>exact o _ G H (Ext.refl I.gh) (.inr ⟨a,vs,ws,rfl,rfl,ha,r⟩)
  | dic ks=>exact o.elim
  | dik ks=>exact o.elim
  | hz w=>
   obtain ⟨v,ev,r⟩:=r
   refine ⟨v,by rw [es,ev],?_⟩
   have rj:=r.same (join_same (H0:=H0) (noLG_sub (G:=G)))
   cases d with
   | F=>exact o.elim
   | V=>exact o.elim
   | C=>exact o.elim
   | U=>exact o v G H (Ext.refl I.gh) rj
   | B=>exact o v G H (Ext.refl I.gh) (.inl rj)
  | iop p ws=>
   obtain ⟨ev,vs,h0,r⟩:=r
   refine ⟨.ref p,by rw [es,ev],?_⟩
   have rj:Rep K (join H0 G) (.ref p) (.lst ws):=by
    refine .lst (vs:=vs) ?_ (r.same I.G_join)
    unfold join
    rw [h0]; rfl
   cases d with
   | F=>exact o.elim
   | V=>exact o.elim
   | U=>exact o _ G H (Ext.refl I.gh) rj
   | C=>exact o.elim
   | B=>exact o _ G H (Ext.refl I.gh) (.inl rj)
def Op2 (K:PySem.W.Frag) (b d:Mode) (r:R2) (f:W→W→R W):Prop:=∀ (EX:EXT) (H0 Hs G H:Hp) (ρ:Rho) (σ:St) (Ha Hb:Hp) (x y:V) (u v:W) (Q:VK),PIv K H0 G ρ σ H→Same Hs H→Md K H0 Ha G H x u b→Md K H0 Hb G H y v b →
 Out EX G H (mdW K d H0 Hs) (f u v) Q→r x y H Q
theorem c_op {b:Mode} {r:R2} {f:W→W→R W} {ma mb:Rho→R W} (hr:Op2 K b d r f) (h:tM K EX d (fun ρ=>ma ρ>>=fun x=>mb ρ>>=fun y=>f x y) σ H Q):tOp r (tM K EX b ma) (tM K EX b mb) σ H Q:=by
 obtain ⟨H0,G,ρ,I,o⟩:=h
 refine ⟨H0,G,ρ,I,Out.bind o fun x G1 H1 u e1 m1 o1=>⟨H0,G1,ρ,I.ext e1,Out.bind o1 fun y G2 H2 v e2 m2 o2=>?_⟩⟩
 exact hr EX H0 H G2 H2 ρ σ H H1 x y u v Q ((I.ext e1).ext e2) (e1.hh.trans e2.hh) (m1.move e2) m2 o2
def Op1 (K:PySem.W.Frag) (b d:Mode) (r:V→Hp→VK→Prop) (f:W→R W):Prop:=∀ (EX:EXT) (H0 Hs G H:Hp) (ρ:Rho) (σ:St) (Ha:Hp) (x:V) (u:W) (Q:VK),PIv K H0 G ρ σ H→Same Hs H→Md K H0 Ha G H x u b →
 Out EX G H (mdW K d H0 Hs) (f u) Q→r x H Q
theorem c_un {b:Mode} {r:V→Hp→VK→Prop} {f:W→R W} {ma:Rho→R W} (hr:Op1 K b d r f) (h:tM K EX d (fun ρ=>ma ρ>>=fun x=>f x) σ H Q):tUn r (tM K EX b ma) σ H Q:=by
 obtain ⟨H0,G,ρ,I,o⟩:=h
 exact ⟨H0,G,ρ,I,Out.bind o fun x G1 H1 u e1 m1 o1=>hr EX H0 H G1 H1 ρ σ H x u Q (I.ext e1) e1.hh m1 o1⟩
def fI (C:Int→Int→Prop) [∀ i j,Decidable (C i j)] (g:Int→Int→W):W→W→R W
 | .int i,.int j=>if C i j then .ok (g i j) else .stuck
 | _,_=>.stuck
def fI0 (g:Int→Int→W):W→W→R W
 | .int i,.int j=>.ok (g i j)
 | _,_=>.stuck
theorem o2_I {C:Int→Int→Prop} [∀ i j,Decidable (C i j)] {g:Int→Int→W} {gv:Int→Int→V} (hs:∀ i j,sca (g i j)=true) (hg:∀ i j F,Rep K F (gv i j) (g i j)):Op2 K .B d (rI C gv) (fI C g):=by
 intro EX H0 Hs G H ρ σ Ha Hb x y u v Q I s mx my o
 cases u <;> cases v <;> first | exact o.elim | skip
 rename_i i j
 have o':Out EX G H (mdW K d H0 Hs) (if C i j then R.ok (g i j) else .stuck) Q:=o
 by_cases c:C i j
 ·rw [if_pos c] at o'
  exact ⟨i,j,mx.intB,my.intB,c,o' _ G H (Ext.refl I.gh) (Md.sca (hs i j) (hg i j) d)⟩
 ·rw [if_neg c] at o'; exact o'.elim
theorem o2_I0 {g:Int→Int→W} {gv:Int→Int→V} (hs:∀ i j,sca (g i j)=true) (hg:∀ i j F,Rep K F (gv i j) (g i j)):Op2 K .B d (rI0 gv) (fI0 g):=by
 intro EX H0 Hs G H ρ σ Ha Hb x y u v Q I s mx my o
 cases u <;> cases v <;> first | exact o.elim | skip
 rename_i i j
 exact ⟨i,j,mx.intB,my.intB,o _ G H (Ext.refl I.gh) (Md.sca (hs i j) (hg i j) d)⟩
def fU (g:Int→W):W→R W
 | .int i=>.ok (g i)
 | _=>.stuck
theorem o1_U {g:Int→W} {gv:Int→V} (hs:∀ i,sca (g i)=true) (hg:∀ i F,Rep K F (gv i) (g i)):Op1 K .B d (rU gv) (fU g):=by
 intro EX H0 Hs G H ρ σ Ha x u Q I s mx o
 cases u <;> first | exact o.elim | skip
 rename_i i
 exact ⟨i,mx.intB,o _ G H (Ext.refl I.gh) (Md.sca (hs i) (hg i) d)⟩
def isN:W→Bool
 | .non=>true
 | _=>false
def fIsN (neg:Bool):W→W→R W
 | u,.non=>.ok (.bl (if neg then !isN u else isN u))
 | _,_=>.stuck
theorem isN_of {b:Mode} (hb:b=.B∨b=.U∨b=.V∨b=.C) {v:V} {w:W} {Hs:Hp} (h:Md K H0 Hs G1 H1 v w b):decide (v=.non)=isN w:=by
 have key:∀ F,Rep K F v w→decide (v=.non)=isN w:=fun F r=>by
  cases r <;> first | rfl | (apply decide_eq_false; intro z; cases z)
 rcases hb with rfl | rfl | rfl | rfl
 ·rcases h with h | ⟨a,vs,ws,rfl,rfl,_⟩
  ·exact key _ h
  ·apply decide_eq_false; intro z; cases z
 ·exact key _ h
 ·exact key _ h
 ·rcases h with h | ⟨a,vs,ws,rfl,rfl,_⟩
  ·exact key _ h
  ·apply decide_eq_false; intro z; cases z
theorem o2_isN:Op2 K .B d (fun x y H Q=>y=.non∧Q (.bl (decide (x=.non))) H) (fIsN false):=by
 intro EX H0 Hs G H ρ σ Ha Hb x y u v Q I s mx my o
 cases v <;> first | exact o.elim | skip
 refine ⟨my.nonB,?_⟩
 rw [isN_of (.inl rfl) mx]
 exact o _ G H (Ext.refl I.gh) (Md.sca rfl (fun _=>.bl) d)
theorem o2_notN:Op2 K .B d (fun x y H Q=>y=.non∧Q (.bl (!decide (x=.non))) H) (fIsN true):=by
 intro EX H0 Hs G H ρ σ Ha Hb x y u v Q I s mx my o
 cases v <;> first | exact o.elim | skip
 refine ⟨my.nonB,?_⟩
 rw [isN_of (.inl rfl) mx]
 exact o _ G H (Ext.refl I.gh) (Md.sca rfl (fun _=>.bl) d)
def toB:W→R Bool
 | .bl b=>.ok b
 | _=>.stuck
theorem c_test {ma:Rho→R W} {Q:Bool→Hp→Prop} (h:tT K EX (fun ρ=>ma ρ>>=toB) σ H Q):tTest (tM K EX .B ma) σ H Q:=by
 obtain ⟨H0,G,ρ,I,o⟩:=h
 refine ⟨H0,G,ρ,I,Out.bind o fun x G1 H1 u e1 m1 o1=>?_⟩
 cases u <;> first | exact o1.elim | skip
 rename_i b
 exact ⟨b,m1.blB,o1 b G1 H1 (Ext.refl e1.gh) rfl⟩
theorem c_tB {ma:Rho→R W} {Q:Bool→Hp→Prop} (h:tT K EX (fun ρ=>ma ρ>>=toB) σ H Q):tB (tM K EX .B ma) σ H Q:=c_test h
def rAnd (a b:R Bool):R Bool:=a>>=fun c=>if c then b else .ok false
def rOr (a b:R Bool):R Bool:=a>>=fun c=>if c then .ok true else b
def rNot (a:R Bool):R Bool:=a>>=fun c=>.ok (!c)
theorem c_and {ma mb:Rho→R Bool} {Q:Bool→Hp→Prop} (h:tT K EX (fun ρ=>rAnd (ma ρ) (mb ρ)) σ H Q):tAnd (tT K EX ma) (tT K EX mb) σ H Q:=by
 obtain ⟨H0,G,ρ,I,o⟩:=h
 refine ⟨H0,G,ρ,I,Out.bind o fun x G1 H1 u e1 m1 o1=>?_⟩
 cases m1
 cases x with
 | true=>exact ⟨H0,G1,ρ,I.ext e1,o1⟩
 | false=>exact o1 false G1 H1 (Ext.refl e1.gh) rfl
theorem c_or {ma mb:Rho→R Bool} {Q:Bool→Hp→Prop} (h:tT K EX (fun ρ=>rOr (ma ρ) (mb ρ)) σ H Q):tOr (tT K EX ma) (tT K EX mb) σ H Q:=by
 obtain ⟨H0,G,ρ,I,o⟩:=h
 refine ⟨H0,G,ρ,I,Out.bind o fun x G1 H1 u e1 m1 o1=>?_⟩
 cases m1
 cases x with
 | true=>exact o1 true G1 H1 (Ext.refl e1.gh) rfl
 | false=>exact ⟨H0,G1,ρ,I.ext e1,o1⟩
theorem c_not {ma:Rho→R Bool} {Q:Bool→Hp→Prop} (h:tT K EX (fun ρ=>rNot (ma ρ)) σ H Q):tNot (tT K EX ma) σ H Q:=by
 obtain ⟨H0,G,ρ,I,o⟩:=h
 refine ⟨H0,G,ρ,I,Out.bind o fun x G1 H1 u e1 m1 o1=>?_⟩
 cases m1
 exact o1 _ G1 H1 (Ext.refl e1.gh) rfl
def rAndV (a b:R W):R W:=a>>=fun x=>toB x>>=fun c=>if c then b else .ok (.bl false)
def rOrV (a b:R W):R W:=a>>=fun x=>toB x>>=fun c=>if c then .ok (.bl true) else b
def rNotV (a:R W):R W:=a>>=fun x=>toB x>>=fun c=>.ok (.bl (!c))
theorem c_nil {QA:List V→Hp→Prop} (h:tA K EX d (fun _=>.ok []) σ H QA):tNil σ H QA:=by
 obtain ⟨H0,G,ρ,I,o⟩:=h
 exact o [] G H (Ext.refl I.gh) .nil
theorem c_cons {ma:Rho→R W} {mr:Rho→R (List W)} {QA:List V→Hp→Prop} (h:tA K EX d (fun ρ=>ma ρ>>=fun x=>mr ρ>>=fun xs=>.ok (x::xs)) σ H QA):tCons (tM K EX d ma) (tA K EX d mr) σ H QA:=by
 obtain ⟨H0,G,ρ,I,o⟩:=h
 refine ⟨H0,G,ρ,I,Out.bind o fun x G1 H1 u e1 m1 o1=>⟨H0,G1,ρ,I.ext e1,Out.bind o1 fun xs G2 H2 us e2 m2 o2=>?_⟩⟩
 refine o2 (x::xs) G2 H2 (Ext.refl e2.gh) (.cons (m1.move e2) ?_)
 have go:∀ {ws:List W} {vs:List V},MdA K d H0 H1 G2 H2 ws vs→MdA K d H0 H G2 H2 ws vs:=fun {ws vs} q=>by
  induction q with
  | nil=>exact .nil
  | cons a _ ih=>exact .cons (a.start e1.hh) ih
 exact go m2
theorem MdA.reps:∀ {ws:List W} {vs:List V},MdA K .V H0 H G1 H1 ws vs→Reps K G1 vs ws
 | _,_,.nil=>.nil
 | _,_,.cons h t=>.cons h (MdA.reps t)
theorem MdA.repsU:∀ {ws:List W} {vs:List V},MdA K .U H0 H G1 H1 ws vs→Reps K (join H0 G1) vs ws
 | _,_,.nil=>.nil
 | _,_,.cons h t=>.cons h (MdA.repsU t)
theorem new_ext {p:Addr} {o:HO} (hG:Same G H) (hp:H p=none):Ext G H G (upd H p o):=
 ⟨Same.refl G,fun b u q=>by rw [upd_ne (ne_of_none q hp)]; exact q,fun b u q=>by rw [upd_ne (ne_of_none (hG b u q) hp)]; exact hG b u q,fun _ _ _ _ e=>e⟩
theorem new_extG {p:Addr} {o:HO} (hG:Same G H) (hp:H p=none):Ext G H (upd G p o) (upd H p o):=by
 have gp:G p=none:=hG.free hp
 refine ⟨fun b u q=>by rw [upd_ne (ne_of_none q gp)]; exact q,fun b u q=>by rw [upd_ne (ne_of_none q hp)]; exact q,fun b u q=>?_,fun b u q l g=>?_⟩
 ·by_cases hb:b=p
  ·subst hb; rw [upd_same] at q ⊢; exact q
  ·rw [upd_ne hb] at q ⊢; exact hG b u q
 ·rw [upd_ne (ne_of_none q hp)]; exact g
theorem Out.newL {p:Addr} {vs:List V} {ws:List W} {Hs:Hp} (I:PIv K H0 G ρ σ H) (s:Same Hs H) (r:Reps K G vs ws) (hp:H p=none) (o:Out EX G H (mdW K .F H0 Hs) (.ok (.lst ws)) Q):Q (.ref p) (upd H p (.lst vs)):=
 o _ G _ (new_ext I.gh hp) ⟨p,vs,rfl,upd_same,I.gh.free hp,s.free hp,r⟩
theorem Out.newTF {p:Addr} {vs:List V} {ws:List W} {Hs:Hp} (I:PIv K H0 G ρ σ H) (r:Reps K G vs ws) (hp:H p=none) (o:Out EX G H (mdW K .F H0 Hs) (.ok (.tup ws)) Q):Q (.ref p) (upd H p (.tup vs)):=
 o _ (upd G p (.tup vs)) _ (new_extG I.gh hp) (.tup upd_same (r.same fun b u q=>by rw [upd_ne (ne_of_none q (I.gh.free hp))]; exact q))
def lim (n:Nat) (w:W):R W:=if n≤1000 then .ok w else .stuck
theorem Out.lim {α:Type} {n:Nat} {w:W} {md:W→α→Hp→Hp→Prop} {Q:α→Hp→Prop} (o:Out EX G H md (lim n w) Q):n≤1000∧Out EX G H md (.ok w) Q:=by
 unfold TP.lim at o
 by_cases n:n≤1000
 ·rw [if_pos n] at o; exact ⟨n,o⟩
 ·rw [if_neg n] at o; exact o.elim
theorem le_line {n:Nat} (h:n≤1000):n≤sizeLine:=Nat.le_trans h (by decide)
theorem c_tup {ma:Rho→R (List W)} (h:tM K EX .F (fun ρ=>ma ρ>>=fun ws=>lim ws.length (.tup ws)) σ H Q):tTup (tA K EX .V ma) σ H Q:=by
 obtain ⟨H0,G,ρ,I,o⟩:=h
 refine ⟨H0,G,ρ,I,Out.bind o fun xs G1 H1 ws e1 m1 o1=>?_⟩
 obtain ⟨hl,o2⟩:=Out.lim o1
 have r:=MdA.reps m1
 exact ⟨by rw [r.length]; exact le_line hl,fun p hp=>Out.newTF (I.ext e1) r hp o2⟩
theorem c_lst {ma:Rho→R (List W)} (h:tM K EX .F (fun ρ=>ma ρ>>=fun ws=>lim ws.length (.lst ws)) σ H Q):tLst (tA K EX .V ma) σ H Q:=by
 obtain ⟨H0,G,ρ,I,o⟩:=h
 refine ⟨H0,G,ρ,I,Out.bind o fun xs G1 H1 ws e1 m1 o1=>?_⟩
 obtain ⟨hl,o2⟩:=Out.lim o1
 have r:=MdA.reps m1
 exact ⟨by rw [r.length]; exact le_line hl,fun p hp=>Out.newL (I.ext e1) e1.hh r hp o2⟩
theorem join_upd {p:Addr} {o:HO} (h:H0 p=none):join H0 (upd G p o)=upd (join H0 G) p o:=by
 funext b
 by_cases hb:b=p
 ·subst hb; unfold join; rw [h]; dsimp only; rw [upd_same,upd_same]
 ·rw [upd_ne hb]; unfold join; cases H0 b with
  | none=>dsimp only; rw [upd_ne hb]
  | some u=>dsimp only; rw [upd_ne hb]
theorem c_tupU {ma:Rho→R (List W)} (h:tM K EX .U (fun ρ=>ma ρ>>=fun ws=>lim ws.length (.tup ws)) σ H Q):tTup (tA K EX .U ma) σ H Q:=by
 obtain ⟨H0,G,ρ,I,o⟩:=h
 refine ⟨H0,G,ρ,I,Out.bind o fun xs G1 H1 ws e1 m1 o1=>?_⟩
 obtain ⟨hl,o2⟩:=Out.lim o1
 have r:=MdA.repsU m1
 have I1:=I.ext e1
 refine ⟨by rw [r.length]; exact le_line hl,fun p hp=>o2 _ (upd G1 p (.tup xs)) _ (new_extG I1.gh hp) ?_⟩
 show Rep K (join H0 (upd G1 p (.tup xs))) _ _
 rw [join_upd (I1.hh.free hp)]
 exact .tup upd_same (r.same fun b u q=>by rw [upd_ne (ne_of_none (I1.join_H b u q) hp)]; exact q)
end
end TP
namespace TP
open PySem L2
inductive Fl where
 | nx (ρ:Rho) | rt (w:W) | bk (ρ:Rho) | ct (ρ:Rho)
def OutS (K:PySem.W.Frag) (EX:EXT) (d:Mode) (H0 G:Hp) (r:R Fl) (D:Ends):Prop:=match r with
 | .ok (.nx ρ)=>∀ G' σ' H',Same G G'→PIv K H0 G' ρ σ' H'→D.nx σ' H'
 | .ok (.bk ρ)=>∀ G' σ' H',Same G G'→PIv K H0 G' ρ σ' H'→D.bk σ' H'
 | .ok (.ct ρ)=>∀ G' σ' H',Same G G'→PIv K H0 G' ρ σ' H'→D.ct σ' H'
 | .ok (.rt w)=>∀ v G' H',Same G G'→Same G' H'→Same H0 H'→(∀ a o,H0 a=some o→isL o=true→G' a=none)→Md K H0 H0 G' H' v w d→D.rt v H'
 | .ex e=>∀ H',Same H0 H'→EX e H'
 | .stuck=>False
def tSt (K:PySem.W.Frag) (EX:EXT) (d:Mode) (m:Rho→R Fl):TS:=fun D σ H=>∃ H0 G ρ,PIv K H0 G ρ σ H∧OutS K EX d H0 G (m ρ) D
section
variable {K:PySem.W.Frag} {EX:EXT} {H0 G H G1 H1 G2 H2:Hp} {ρ:Rho} {σ:St} {d:Mode} {D:Ends}
theorem OutS.move {r:R Fl} (s:Same G G1) (o:OutS K EX d H0 G r D):OutS K EX d H0 G1 r D:=by
 cases r with
 | stuck=>exact o
 | ex e=>exact o
 | ok f=>
  cases f with
  | nx ρ'=>exact fun G' σ' H' s' I'=>o G' σ' H' (s.trans s') I'
  | bk ρ'=>exact fun G' σ' H' s' I'=>o G' σ' H' (s.trans s') I'
  | ct ρ'=>exact fun G' σ' H' s' I'=>o G' σ' H' (s.trans s') I'
  | rt w=>exact fun v G' H' s0 s1 s2 c md=>o v G' H' (s.trans s0) s1 s2 c md
theorem OutS.bind {α β:Type} {md:α→β→Hp→Hp→Prop} {m:R α} {k:α→R Fl} {Q1:β→Hp→Prop} (I:PIv K H0 G ρ σ H) (o:OutS K EX d H0 G (m>>=k) D)
  (h:∀ x G1 H1 w,Ext G H G1 H1→md w x G1 H1→OutS K EX d H0 G1 (k w) D→Q1 x H1):Out EX G H md m Q1:=by
 cases m with
 | ok w=>exact fun v G' H' e q=>h v G' H' w e q (OutS.move e.gg o)
 | ex e=>exact fun H' s=>o H' (I.hh.trans s)
 | stuck=>exact o
def mSeq (m n:Rho→R Fl):Rho→R Fl:=fun ρ=>m ρ>>=fun f=>match f with
 | .nx ρ'=>n ρ'
 | .rt w=>.ok (.rt w)
 | .bk ρ'=>.ok (.bk ρ')
 | .ct ρ'=>.ok (.ct ρ')
theorem c_next (h:tSt K EX d (fun ρ=>.ok (.nx ρ)) D σ H):tNext D σ H:=by
 obtain ⟨H0,G,ρ,I,o⟩:=h
 exact o G σ H (Same.refl G) I
theorem c_seq {m n:Rho→R Fl} (h:tSt K EX d (mSeq m n) D σ H):tSeq (tSt K EX d m) (tSt K EX d n) D σ H:=by
 obtain ⟨H0,G,ρ,I,o⟩:=h
 refine ⟨H0,G,ρ,I,?_⟩
 unfold mSeq at o
 revert o
 cases m ρ with
 | stuck=>exact id
 | ex e=>exact id
 | ok f=>
  cases f with
  | nx ρ'=>exact fun o G' σ' H' s' I'=>⟨H0,G',ρ',I',OutS.move s' o⟩
  | _=>exact id
theorem c_never (h:tSt K EX d (fun _=>.stuck) D σ H):tNever D σ H:=by
 obtain ⟨H0,G,ρ,I,o⟩:=h
 exact o
theorem c_ret {m:Rho→R W} (h:tSt K EX d (fun ρ=>m ρ>>=fun w=>.ok (.rt w)) D σ H):tRet (tM K EX d m) D σ H:=by
 obtain ⟨H0,G,ρ,I,o⟩:=h
 refine ⟨H0,G,ρ,I,OutS.bind I o fun x G1 H1 w e1 m1 o1=>?_⟩
 have I1:=I.ext e1
 exact o1 x G1 H1 (Same.refl _) e1.gh I1.hh I1.gl (m1.start I.hh)
def mRetVar (d:Mode) (i:Nat):Rho→R Fl:=fun ρ=>match ρ[i]? with
 | some (.own ws)=>.ok (.rt (.lst ws))
 | _=>mVar d i ρ>>=fun w=>.ok (.rt w)
theorem c_retVar {i:Nat} (hd:d=.F∨d=.V) (h:tSt K EX d (mRetVar d i) D σ H):tRet (tVar i) D σ H:=by
 obtain ⟨H0,G,ρ,I,o⟩:=h
 unfold mRetVar at o
 by_cases ho:∃ ws,ρ[i]?=some (.own ws)
 ·obtain ⟨ws,e⟩:=ho
  rw [e] at o
  have hi:i<σ.length:=by rw [← I.len]; exact (List.getElem?_eq_some_iff.mp e).1
  have es:σ[i]?=some σ[i]:=by simp
  obtain ⟨a,vs,ev,ha,hg,h0,r⟩:=I.sl i _ _ e es
  refine ⟨.ref a,by rw [es,ev],?_⟩
  rcases hd with rfl | rfl
  ·exact o _ G H (Same.refl _) I.gh I.hh I.gl ⟨a,vs,rfl,ha,hg,h0,r⟩
  ·have s1:Same G (upd G a (.lst vs)):=fun b o q=>by rw [upd_ne (ne_of_none q hg)]; exact q
   refine o _ (upd G a (.lst vs)) H s1 (fun b o q=>?_) I.hh (fun b u q l=>?_) (.lst upd_same (r.same s1))
   ·by_cases hb:b=a
    ·subst hb; rw [upd_same] at q; cases q; exact ha
    ·rw [upd_ne hb] at q; exact I.gh b o q
   ·rw [upd_ne (ne_of_none q h0)]; exact I.gl b u q l
 ·have o':OutS K EX d H0 G (mVar d i ρ>>=fun w=>.ok (.rt w)) D:=by
   revert o
   split
   ·rename_i ws e; exact absurd ⟨ws,e⟩ ho
   ·exact id
  have c:tRet (tM K EX d (mVar d i)) D σ H:=c_ret (m:=mVar d i) ⟨H0,G,ρ,I,o'⟩
  exact c_var c
theorem PIv.setV {i:Nat} {v:V} {w:W} (I:PIv K H0 G ρ σ H) (r:Rep K G v w):PIv K H0 G (ρ.set i (.val w)) (σ.set i (some v)) H where
 g0:=I.g0
 gl:=I.gl
 gh:=I.gh
 hh:=I.hh
 len:=by rw [List.length_set,List.length_set]; exact I.len
 sl j x o h1 h2:=by
  by_cases hj:i=j
  ·subst hj
   rw [List.getElem?_set] at h1 h2
   simp only [if_true] at h1 h2
   split at h1 <;> split at h2 <;> simp only [Option.some.injEq,reduceCtorEq] at h1 h2
   subst h1; subst h2
   exact ⟨v,rfl,r⟩
  ·rw [List.getElem?_set_ne hj] at h1 h2; exact I.sl j x o h1 h2
 ne a b ws us c hab h1 h2 h3 h4:=by
  have na:i≠a:=by
   rintro rfl
   rw [List.getElem?_set] at h1
   simp only [if_true] at h1
   split at h1 <;> simp at h1
  have nb:i≠b:=by
   rintro rfl
   rw [List.getElem?_set] at h2
   simp only [if_true] at h2
   split at h2 <;> simp at h2
  rw [List.getElem?_set_ne na] at h1 h3
  rw [List.getElem?_set_ne nb] at h2 h4
  exact I.ne a b ws us c hab h1 h2 h3 h4
theorem PIv.setU {i:Nat} {v:V} {w:W} (I:PIv K H0 G ρ σ H) (r:Rep K (join H0 G) v w):PIv K H0 G (ρ.set i (.par w)) (σ.set i (some v)) H where
 g0:=I.g0
 gl:=I.gl
 gh:=I.gh
 hh:=I.hh
 len:=by rw [List.length_set,List.length_set]; exact I.len
 sl j x o h1 h2:=by
  by_cases hj:i=j
  ·subst hj
   rw [List.getElem?_set] at h1 h2
   simp only [if_true] at h1 h2
   split at h1 <;> split at h2 <;> simp only [Option.some.injEq,reduceCtorEq] at h1 h2
   subst h1; subst h2
   exact ⟨v,rfl,r⟩
  ·rw [List.getElem?_set_ne hj] at h1 h2; exact I.sl j x o h1 h2
 ne a b ws us c hab h1 h2 h3 h4:=by
  have na:i≠a:=by
   rintro rfl
   rw [List.getElem?_set] at h1
   simp only [if_true] at h1
   split at h1 <;> simp at h1
  have nb:i≠b:=by
   rintro rfl
   rw [List.getElem?_set] at h2
   simp only [if_true] at h2
   split at h2 <;> simp at h2
  rw [List.getElem?_set_ne na] at h1 h3
  rw [List.getElem?_set_ne nb] at h2 h4
  exact I.ne a b ws us c hab h1 h2 h3 h4
theorem PIv.setO {i:Nat} {a:Addr} {vs:List V} {ws:List W} (I:PIv K H0 G ρ σ H) (ha:H a=some (.lst vs)) (hg:G a=none) (h0:H0 a=none) (r:Reps K G vs ws)
  (nw:∀ (j:Nat) (us:List W),ρ[j]?=some (Sl.own us)→σ[j]?≠some (some (V.ref a))):PIv K H0 G (ρ.set i (.own ws)) (σ.set i (some (.ref a))) H where
 g0:=I.g0
 gl:=I.gl
 gh:=I.gh
 hh:=I.hh
 len:=by rw [List.length_set,List.length_set]; exact I.len
 sl j x o h1 h2:=by
  by_cases hj:i=j
  ·subst hj
   rw [List.getElem?_set] at h1 h2
   simp only [if_true] at h1 h2
   split at h1 <;> split at h2 <;> simp only [Option.some.injEq,reduceCtorEq] at h1 h2
   subst h1; subst h2
   exact ⟨a,vs,rfl,ha,hg,h0,r⟩
  ·rw [List.getElem?_set_ne hj] at h1 h2; exact I.sl j x o h1 h2
 ne p q ws' us c hab h1 h2 h3 h4:=by
  by_cases hp:i=p
  ·subst hp
   rw [List.getElem?_set_ne hab] at h2 h4
   rw [List.getElem?_set] at h3
   simp only [if_true] at h3
   split at h3 <;> simp only [Option.some.injEq,reduceCtorEq,V.ref.injEq] at h3
   subst h3
   exact nw q us h2 h4
  ·rw [List.getElem?_set_ne hp] at h1 h3
   by_cases hq:i=q
   ·subst hq
    rw [List.getElem?_set] at h4
    simp only [if_true] at h4
    split at h4 <;> simp only [Option.some.injEq,reduceCtorEq,V.ref.injEq] at h4
    subst h4
    exact nw p ws' h1 h3
   ·rw [List.getElem?_set_ne hq] at h2 h4
    exact I.ne p q ws' us c hab h1 h2 h3 h4
def slotF:W→Sl
 | .lst ws=>.own ws
 | w=>.val w
theorem c_setV {i:Nat} {m:Rho→R W} (h:tSt K EX d (fun ρ=>m ρ>>=fun w=>.ok (.nx (ρ.set i (.val w)))) D σ H):tAsg (tM K EX .V m) (gName i) D σ H:=by
 obtain ⟨H0,G,ρ,I,o⟩:=h
 exact ⟨H0,G,ρ,I,OutS.bind I o fun x G1 H1 w e1 m1 o1=>o1 G1 _ H1 (Same.refl _) ((I.ext e1).setV m1)⟩
theorem c_setF {i:Nat} {m:Rho→R W} (h:tSt K EX d (fun ρ=>m ρ>>=fun w=>.ok (.nx (ρ.set i (slotF w)))) D σ H):tAsg (tM K EX .F m) (gName i) D σ H:=by
 obtain ⟨H0,G,ρ,I,o⟩:=h
 refine ⟨H0,G,ρ,I,OutS.bind I o fun x G1 H1 w e1 m1 o1=>?_⟩
 have I1:=I.ext e1
 cases w with
 | lst ws=>
  obtain ⟨a,vs,rfl,h1,h2,h3,r⟩:=m1
  refine o1 G1 _ H1 (Same.refl _) (I1.setO h1 h2 (I.hh.free h3) r fun j us q z=>?_)
  obtain ⟨b,us',eb,hb,_⟩:=I.sl j _ _ q z
  cases eb
  rw [h3] at hb; cases hb
 | non=>exact o1 G1 _ H1 (Same.refl _) (I1.setV m1)
 | bl _=>exact o1 G1 _ H1 (Same.refl _) (I1.setV m1)
 | int _=>exact o1 G1 _ H1 (Same.refl _) (I1.setV m1)
 | str _=>exact o1 G1 _ H1 (Same.refl _) (I1.setV m1)
 | ty _=>exact o1 G1 _ H1 (Same.refl _) (I1.setV m1)
 | tup _=>exact o1 G1 _ H1 (Same.refl _) (I1.setV m1)
 | scr _=>exact o1 G1 _ H1 (Same.refl _) (I1.setV m1)
 | exc _ _=>exact o1 G1 _ H1 (Same.refl _) (I1.setV m1)
 | cls _=>exact o1 G1 _ H1 (Same.refl _) (I1.setV m1)
instance:DecidableEq Mode:=fun a b=>by cases a <;> cases b <;> first | exact isTrue rfl | exact isFalse (by intro h; cases h)
def Gt (K:PySem.W.Frag) (e:Mode) (g:TG) (mg:W→Rho→Option Rho):Prop:=∀ (H0 Hs G:Hp) (ρ:Rho) (σ:St) (H:Hp) (v:V) (w:W) (ρ':Rho) (Q:St→Hp→Prop),PIv K H0 G ρ σ H→Md K H0 Hs G H v w e→mg w ρ=some ρ' →
 (∀ σ',PIv K H0 G ρ' σ' H→Q σ' H)→g v σ H Q
def Gts (K:PySem.W.Frag) (e:Mode) (g:TGs) (mg:List W→Rho→Option Rho):Prop:=∀ (H0 G:Hp) (ρ:Rho) (σ:St) (H:Hp) (vs:List V) (ws:List W) (ρ':Rho) (Q:St→Hp→Prop),PIv K H0 G ρ σ H→Reps K (if e=.V then G else join H0 G) vs ws→mg ws ρ=some ρ' →
 (∀ σ',PIv K H0 G ρ' σ' H→Q σ' H)→g vs σ H Q
def gN (e:Mode) (i:Nat):W→Rho→Option Rho:=fun w ρ=>some (ρ.set i (if e=.V then .val w else .par w))
theorem gt_U {i:Nat}:Gt K .U (gName i) (gN .U i):=fun H0 Hs G ρ σ H v w ρ' Q I m e h=>by
 cases e; exact h _ (I.setU m)
def gsNil:List W→Rho→Option Rho
 | [],ρ=>some ρ
 | _,_=>none
def gsCons (f:W→Rho→Option Rho) (g:List W→Rho→Option Rho):List W→Rho→Option Rho
 | w::ws,ρ=>(f w ρ).bind (g ws)
 | [],_=>none
theorem gts_nil {e:Mode}:Gts K e gNil gsNil:=fun H0 G ρ σ H vs ws ρ' Q I r e h=>by
 cases r with
 | nil=>cases e; exact ⟨rfl,h _ I⟩
 | cons _ _=>cases e
theorem gts_cons {e:Mode} {t:TG} {u:TGs} {f:W→Rho→Option Rho} {g:List W→Rho→Option Rho} (he:e=.V∨e=.U) (h1:Gt K e t f) (h2:Gts K e u g):Gts K e (gCons t u) (gsCons f g):=fun H0 G ρ σ H vs ws ρ' Q I r q h=>by
 cases r with
 | nil=>cases q
 | cons a b=>
  unfold gsCons at q
  obtain ⟨ρ1,q1,q2⟩:=Option.bind_eq_some_iff.mp q
  refine ⟨_,_,rfl,h1 H0 H G ρ σ H _ _ ρ1 _ I ?_ q1 fun σ1 I1=>h2 H0 G ρ1 σ1 H _ _ ρ' Q I1 b q2 h⟩
  rcases he with rfl | rfl
  ·exact a
  ·exact a
def gT (n:Nat) (g:List W→Rho→Option Rho):W→Rho→Option Rho
 | .tup ws,ρ=>if ws.length=n then g ws ρ else none
 | _,_=>none
theorem gt_tup {e:Mode} {n:Nat} {u:TGs} {g:List W→Rho→Option Rho} (he:e=.V∨e=.U) (h:Gts K e u g):Gt K e (gTup K n u) (gT n g):=fun H0 Hs G ρ σ H v w ρ' Q I m q k=>by
 cases w <;> first | cases q | skip
 rename_i ws
 have q':(if ws.length=n then g ws ρ else none)=some ρ':=q
 by_cases hn:ws.length=n
 ·rw [if_pos hn] at q'
  rcases he with rfl | rfl
  ·cases m with
   | tup s r=>exact ⟨_,_,rfl,SqT.of (I.gh _ _ s),by rw [r.length]; exact hn,h H0 G ρ σ H _ ws ρ' Q I (by rw [if_pos rfl]; exact r) q' k⟩
  ·cases m with
   | tup s r=>exact ⟨_,_,rfl,SqT.of (I.join_H _ _ s),by rw [r.length]; exact hn,h H0 G ρ σ H _ ws ρ' Q I (by rw [if_neg (by intro z; cases z)]; exact r) q' k⟩
 ·rw [if_neg hn] at q'; cases q'
def toR {α:Type}:Option α→R α
 | some a=>.ok a
 | none=>.stuck
theorem PIv.own_upd {i:Nat} {a:Addr} {vs':List V} {ws ws':List W} (I:PIv K H0 G ρ σ H) (e:ρ[i]?=some (.own ws)) (es:σ[i]?=some (some (.ref a))) (r:Reps K G vs' ws'):PIv K H0 G (ρ.set i (.own ws')) σ (upd H a (.lst vs')):=by
 obtain ⟨a',vs,ev,ha,hg,h0,_⟩:=I.sl i _ _ e es
 cases ev
 refine ⟨I.g0,I.gl,fun b o q=>by rw [upd_ne (ne_of_none q hg)]; exact I.gh b o q,fun b o q=>by rw [upd_ne (ne_of_none q h0)]; exact I.hh b o q,by rw [List.length_set]; exact I.len,fun j x o h1 h2=>?_,fun p q ws1 us c hab h1 h2 h3 h4=>?_⟩
 ·by_cases hj:i=j
  ·subst hj
   rw [List.getElem?_set] at h1
   simp only [if_true] at h1
   split at h1 <;> simp only [Option.some.injEq,reduceCtorEq] at h1
   subst h1
   rw [es] at h2; cases h2
   exact ⟨a,vs',rfl,upd_same,hg,h0,r⟩
  ·rw [List.getElem?_set_ne hj] at h1
   have:=I.sl j x o h1 h2
   cases x with
   | own us=>
    obtain ⟨b,us',eb,hb,hgb,h0b,rb⟩:=this
    subst eb
    have hne:b≠a:=by
     rintro rfl
     exact I.ne i j ws us b hj e h1 es h2
    exact ⟨b,us',rfl,by rw [upd_ne hne]; exact hb,hgb,h0b,rb⟩
   | dic ks=>
    obtain ⟨b,us',eb,hb,hgb,h0b,rb⟩:=this
    have hne:b≠a:=by
     rintro rfl
     rw [ha] at hb; cases hb
    exact ⟨b,us',eb,by rw [upd_ne hne]; exact hb,hgb,h0b,rb⟩
   | dik ks=>
    obtain ⟨b,us',eb,hb,hgb,h0b,rb⟩:=this
    have hne:b≠a:=by
     rintro rfl
     rw [ha] at hb; cases hb
    exact ⟨b,us',eb,by rw [upd_ne hne]; exact hb,hgb,h0b,rb⟩
   | un=>exact this
   | val _=>exact this
   | par _=>exact this
   | iop _ _=>exact this
   | hz _=>exact this
 ·have key:∀ {k:Nat} {us:List W},(ρ.set i (.own ws'))[k]?=some (.own us)→∃ us',ρ[k]?=some (.own us'):=fun {k us} hk=>by
   by_cases hik:i=k
   ·subst hik; exact ⟨ws,e⟩
   ·rw [List.getElem?_set_ne hik] at hk; exact ⟨us,hk⟩
  obtain ⟨w1,k1⟩:=key h1
  obtain ⟨w2,k2⟩:=key h2
  exact I.ne p q w1 w2 c hab k1 k2 h3 h4
theorem PIv.own_at {i:Nat} {ws:List W} (I:PIv K H0 G ρ σ H) (e:ρ[i]?=some (.own ws)):∃ a vs,σ[i]?=some (some (.ref a))∧H a=some (.lst vs)∧G a=none∧H0 a=none∧Reps K G vs ws:=by
 have hi:i<σ.length:=by rw [← I.len]; exact (List.getElem?_eq_some_iff.mp e).1
 have es:σ[i]?=some σ[i]:=by simp
 obtain ⟨a,vs,ev,r⟩:=I.sl i _ _ e es
 exact ⟨a,vs,by rw [es,ev],r⟩
def mApp (i:Nat) (m:Rho→R W):Rho→R Fl:=fun ρ=>match ρ[i]? with
 | some (.own ws)=>m ρ>>=fun w=>if ws.length<1000 then .ok (.nx (ρ.set i (.own (ws ++ [w])))) else .stuck
 | _=>.stuck
theorem c_app {i:Nat} {m:Rho→R W} (h:tSt K EX d (mApp i m) D σ H):tDrop (tApp (tVar i) (tM K EX .V m)) D σ H:=by
 obtain ⟨H0,G,ρ,I,o⟩:=h
 unfold mApp at o
 split at o
 ·rename_i ws e
  obtain ⟨a,vs,es,ha,hg,h0,r⟩:=I.own_at e
  refine ⟨.ref a,es,a,rfl,⟨vs,ha⟩,H0,G,ρ,I,OutS.bind I o fun x G1 H1 w e1 m1 o1=>?_⟩
  by_cases hl:ws.length<1000
  ·rw [if_pos hl] at o1
   have h1:=e1.hh a _ ha
   dsimp only
   rw [h1]
   dsimp only
   have hlen:vs.length=ws.length:=r.length
   exact ⟨Nat.lt_of_lt_of_le (by omega:vs.length<1000) (by decide),o1 G1 σ _ (Same.refl _) ((I.ext e1).own_upd e es ((r.same e1.gg).snoc m1))⟩
  ·rw [if_neg hl] at o1; exact o1.elim
 ·exact o.elim
def mSet (i:Nat) (mk me:Rho→R W):Rho→R Fl:=fun ρ=>match ρ[i]? with
 | some (.own ws)=>me ρ>>=fun w=>mk ρ>>=fun k=>(match k with
  | .int k=>(match ixN ws.length k with
   | some j=>.ok (.nx (ρ.set i (.own (ws.set j w))))
   | none=>.stuck)
  | _=>.stuck)
 | _=>.stuck
theorem c_set {i:Nat} {mk me:Rho→R W} (h:tSt K EX d (mSet i mk me) D σ H):tAsg (tM K EX .V me) (gSub (tVar i) (tM K EX .B mk) rSetL) D σ H:=by
 obtain ⟨H0,G,ρ,I,o⟩:=h
 unfold mSet at o
 split at o
 ·rename_i ws e
  obtain ⟨a,vs,es,ha,hg,h0,r⟩:=I.own_at e
  refine ⟨H0,G,ρ,I,OutS.bind I o fun x G1 H1 w e1 m1 o1=>⟨.ref a,es,H0,G1,ρ,I.ext e1,OutS.bind (I.ext e1) o1 fun y G2 H2 k e2 m2 o2=>?_⟩⟩
  cases k <;> first | exact o2.elim | skip
  rename_i k
  dsimp only at o2
  cases q:ixN ws.length k with
  | none=>rw [q] at o2; exact o2.elim
  | some j=>
   rw [q] at o2
   refine ⟨a,vs,k,j,rfl,m2.intB,e2.hh _ _ (e1.hh _ _ ha),by rw [r.length]; exact q,?_⟩
   exact o2 G2 σ _ (Same.refl _) (((I.ext e1).ext e2).own_upd e es (Reps.set (Rep.same e2.gg m1) j ((r.same e1.gg).same e2.gg)))
 ·exact o.elim
def mAug (i:Nat) (f:Int→Int→Int) (m:Rho→R W):Rho→R Fl:=fun ρ=>mVar .B i ρ>>=fun x=>m ρ>>=fun y=>match x,y with
 | .int a,.int b=>.ok (.nx (ρ.set i (.val (.int (f a b)))))
 | _,_=>.stuck
def mIf (c:Rho→R Bool) (m n:Rho→R Fl):Rho→R Fl:=fun ρ=>c ρ>>=fun b=>if b then m ρ else n ρ
theorem c_ifS {c:Rho→R Bool} {m n:Rho→R Fl} (h:tSt K EX d (mIf c m n) D σ H):tIfS (tT K EX c) (tSt K EX d m) (tSt K EX d n) D σ H:=by
 obtain ⟨H0,G,ρ,I,o⟩:=h
 refine ⟨H0,G,ρ,I,OutS.bind I o fun x G1 H1 w e1 m1 o1=>?_⟩
 cases m1
 cases x with
 | true=>exact ⟨H0,G1,ρ,I.ext e1,o1⟩
 | false=>exact ⟨H0,G1,ρ,I.ext e1,o1⟩
def frz (i:Nat) (ρ:Rho):Rho:=match ρ[i]? with
 | some (.own ws)=>ρ.set i (.val (.lst ws))
 | _=>ρ
theorem PIv.frz {i:Nat} (I:PIv K H0 G ρ σ H):∃ G',Same G G'∧PIv K H0 G' (frz i ρ) σ H:=by
 unfold TP.frz
 split
 ·rename_i ws e
  obtain ⟨a,vs,es,ha,hg,h0,r⟩:=I.own_at e
  have s1:Same G (upd G a (.lst vs)):=fun b o q=>by rw [upd_ne (ne_of_none q hg)]; exact q
  refine ⟨upd G a (.lst vs),s1,?_⟩
  have I1:PIv K H0 G (ρ.set i .un) σ H:=by
   refine ⟨I.g0,I.gl,I.gh,I.hh,by rw [List.length_set]; exact I.len,fun j x o h1 h2=>?_,fun p q ws1 us c hab h1 h2 h3 h4=>?_⟩
   ·by_cases hj:i=j
    ·subst hj
     rw [List.getElem?_set] at h1
     simp only [if_true] at h1
     split at h1 <;> simp only [Option.some.injEq,reduceCtorEq] at h1
     subst h1; trivial
    ·rw [List.getElem?_set_ne hj] at h1; exact I.sl j x o h1 h2
   ·have na:i≠p:=by
     rintro rfl
     rw [List.getElem?_set] at h1
     simp only [if_true] at h1
     split at h1 <;> simp at h1
    have nb:i≠q:=by
     rintro rfl
     rw [List.getElem?_set] at h2
     simp only [if_true] at h2
     split at h2 <;> simp at h2
    rw [List.getElem?_set_ne na] at h1
    rw [List.getElem?_set_ne nb] at h2
    exact I.ne p q ws1 us c hab h1 h2 h3 h4
  have I2:PIv K H0 (upd G a (.lst vs)) (ρ.set i .un) σ H:=by
   refine ⟨fun b o q l=>s1 b o (I.g0 b o q l),fun b o q l=>by rw [upd_ne (ne_of_none q h0)]; exact I.gl b o q l,fun b o q=>?_,I.hh,I1.len,fun j x o h1 h2=>?_,I1.ne⟩
   ·by_cases hb:b=a
    ·subst hb; rw [upd_same] at q; cases q; exact ha
    ·rw [upd_ne hb] at q; exact I.gh b o q
   ·have:=I1.sl j x o h1 h2
    cases x with
    | un=>trivial
    | val w=>obtain ⟨v,e1,r1⟩:=this; exact ⟨v,e1,r1.same s1⟩
    | par w=>obtain ⟨v,e1,r1⟩:=this; exact ⟨v,e1,r1.same (join_same s1)⟩
    | own us=>
     obtain ⟨b,us',eb,hb,hgb,h0b,rb⟩:=this
     subst eb
     have hij:i≠j:=by
      rintro rfl
      rw [List.getElem?_set] at h1
      simp only [if_true] at h1
      split at h1 <;> simp at h1
     rw [List.getElem?_set_ne hij] at h1
     have hne:b≠a:=by
      rintro rfl
      exact I.ne i j ws us b hij e h1 es h2
     exact ⟨b,us',rfl,hb,by rw [upd_ne hne]; exact hgb,h0b,rb.same s1⟩
    | dic ks=>
     obtain ⟨b,us',eb,hb,hgb,h0b,rb⟩:=this
     have hne:b≠a:=by
      rintro rfl
      rw [ha] at hb; cases hb
     exact ⟨b,us',eb,hb,by rw [upd_ne hne]; exact hgb,h0b,rb⟩
    | dik ks=>
     obtain ⟨b,us',eb,hb,hgb,h0b,rb⟩:=this
     have hne:b≠a:=by
      rintro rfl
      rw [ha] at hb; cases hb
     exact ⟨b,us',eb,hb,by rw [upd_ne hne]; exact hgb,h0b,rb⟩
    | iop p us=>obtain ⟨e1,vs1,h1',r1⟩:=this; exact ⟨e1,vs1,h1',r1.same s1⟩
    | hz w=>obtain ⟨v,e,r⟩:=this; exact ⟨v,e,r.same (join_same (noLG_same s1))⟩
  have I3:=I2.setV (i:=i) (v:=.ref a) (w:=.lst ws) (.lst upd_same (r.same s1))
  have e3:σ.set i (some (V.ref a))=σ:=by
   apply List.ext_getElem?
   intro j
   by_cases hj:i=j
   ·subst hj; rw [es,List.getElem?_set]; simp only [if_true]; rw [if_pos (List.getElem?_eq_some_iff.mp es).1]
   ·rw [List.getElem?_set_ne hj]
  rw [e3,List.set_set] at I3
  exact I3
 ·exact ⟨G,Same.refl G,I⟩
theorem c_frz {i:Nat} {m:Rho→R Fl} (h:tSt K EX d (fun ρ=>m (frz i ρ)) D σ H):tSt K EX d m D σ H:=by
 obtain ⟨H0,G,ρ,I,o⟩:=h
 obtain ⟨G',s,I'⟩:=I.frz (i:=i)
 exact ⟨H0,G',_,I',OutS.move s o⟩
end
end TP
namespace TP
open PySem L2
section
variable {K:PySem.W.Frag} {EX:EXT} {H0 G H G1 H1 G2 H2:Hp} {ρ:Rho} {σ:St} {d:Mode} {D:Ends}
structure ItOk (K:PySem.W.Frag) (e:Mode) (H0 Z G:Hp) (J:It) (ws:List W):Prop where
 go:∀ i H,i<ws.length→Same Z H→J.go i H
 stop:∀ H,Same Z H→J.stop ws.length H
 yld:∀ i H x H' w,ws[i]?=some w→Same Z H→J.yld i H x H'→∀ G2 ρ σ,PIv K H0 G2 ρ σ H→Same G G2→∃ G3,Ext G2 H G3 H'∧Md K H0 H G3 H' x w e
def OutI (K:PySem.W.Frag) (EX:EXT) (lp:Bool) (e:Mode) (H0 G H:Hp) (r:R (List W)) (Rr:It→Hp→Prop):Prop:=match r with
 | .ok ws=>∀ J G' H',Ext G H G' H'→ItOk K e H0 (if lp then join H0 G' else H') G' J ws→Rr J H'
 | .ex x=>∀ H',Same H H'→EX x H'
 | .stuck=>False
def tIt (K:PySem.W.Frag) (EX:EXT) (lp:Bool) (e:Mode) (m:Rho→R (List W)):TI:=fun σ H Rr=>∃ H0 G ρ,PIv K H0 G ρ σ H∧OutI K EX lp e H0 G H (m ρ) Rr
def mFor (mg:W→Rho→Option Rho) (mb:Rho→R Fl):List W→Rho→R Fl
 | [],ρ=>.ok (.nx ρ)
 | w::ws,ρ=>toR (mg w ρ)>>=fun ρ1=>mb ρ1>>=fun f=>match f with
  | .nx ρ2=>mFor mg mb ws ρ2
  | .ct ρ2=>mFor mg mb ws ρ2
  | .bk ρ2=>.ok (.nx ρ2)
  | .rt w=>.ok (.rt w)
theorem c_for {e:Mode} {g:TG} {mg:W→Rho→Option Rho} {mi:Rho→R (List W)} {mb:Rho→R Fl} (hg:Gt K e g mg) (h:tSt K EX d (fun ρ=>mi ρ>>=fun ws=>mFor mg mb ws ρ) D σ H) :
  tFor (tIt K EX true e mi) g (tSt K EX d mb) D σ H:=by
 obtain ⟨H0,G,ρ,I,o⟩:=h
 refine ⟨H0,G,ρ,I,?_⟩
 replace o:OutS K EX d H0 G (mi ρ>>=fun ws=>mFor mg mb ws ρ) D:=o
 revert o
 cases mi ρ with
 | stuck=>exact id
 | ex x=>exact fun o H' s=>o H' (I.hh.trans s)
 | ok ws=>
  intro o J G1 H1 e1 T
  have o1:OutS K EX d H0 G1 (mFor mg mb ws ρ) D:=OutS.move e1.gg o
  refine ⟨fun i m σ H=>m=ws.length-i∧i≤ws.length∧∃ G2 ρ2,Same G1 G2∧PIv K H0 G2 ρ2 σ H∧OutS K EX d H0 G2 (mFor mg mb (ws.drop i) ρ2) D,⟨_,rfl,Nat.zero_le _,G1,ρ,Same.refl _,I.ext e1,o1⟩,?_⟩
  rintro i m σ2 Hh ⟨rfl,hi,G2,ρ2,s2,I2,o2⟩
  have hz:Same (join H0 G1) Hh:=(join_same s2).trans I2.join_H
  by_cases hlt:i<ws.length
  ·refine .inr ⟨T.go i Hh hlt hz,fun σ' H'=>∃ G4 ρ4,Same G1 G4∧PIv K H0 G4 ρ4 σ' H'∧OutS K EX d H0 G4 (mFor mg mb (ws.drop (i+1)) ρ4) D,fun σ' H' ⟨G4,ρ4,s4,I4,o4⟩=>⟨ws.length-(i+1),by omega,rfl,hlt,G4,ρ4,s4,I4,o4⟩,fun x H' y=>?_⟩
   obtain ⟨G3,e3,m3⟩:=T.yld i Hh x H' ws[i] (by simp) hz y G2 ρ2 σ2 I2 s2
   rw [List.drop_eq_getElem_cons hlt] at o2
   unfold mFor at o2
   cases q:mg ws[i] ρ2 with
   | none=>rw [q] at o2; exact o2.elim
   | some ρ'=>
    rw [q] at o2
    refine hg H0 Hh G3 ρ2 σ2 H' x _ ρ' _ (I2.ext e3) m3 q fun σ' I'=>⟨H0,G3,ρ',I',?_⟩
    have o3:OutS K EX d H0 G3 (mb ρ'>>=fun f=>match f with
     | .nx ρ2=>mFor mg mb (ws.drop (i+1)) ρ2
     | .ct ρ2=>mFor mg mb (ws.drop (i+1)) ρ2
     | .bk ρ2=>.ok (.nx ρ2)
     | .rt w=>.ok (.rt w)) D:=OutS.move e3.gg o2
    revert o3
    have s3:Same G1 G3:=s2.trans e3.gg
    cases mb ρ' with
    | stuck=>exact id
    | ex x=>exact id
    | ok f=>
     cases f with
     | nx ρ4=>exact fun o4 G4 σ4 H4 s4 I4=>⟨G4,ρ4,s3.trans s4,I4,OutS.move s4 o4⟩
     | ct ρ4=>exact fun o4 G4 σ4 H4 s4 I4=>⟨G4,ρ4,s3.trans s4,I4,OutS.move s4 o4⟩
     | bk ρ4=>exact id
     | rt w=>exact id
  ·have e:i=ws.length:=by omega
   subst e
   refine .inl ⟨T.stop Hh hz,?_⟩
   rw [List.drop_length] at o2
   exact o2 G2 σ2 Hh (Same.refl _) I2
def iterW (c:Rho→R Bool) (b:Rho→R Fl):Nat→Rho→Option (R Fl)
 | 0,_=>none
 | n+1,ρ=>match c ρ with
  | .ok false=>some (.ok (.nx ρ))
  | .ok true=>(match b ρ with
   | .ok (.nx ρ')=>iterW c b n ρ'
   | .ok (.ct ρ')=>iterW c b n ρ'
   | .ok (.bk ρ')=>some (.ok (.nx ρ'))
   | .ok (.rt w)=>some (.ok (.rt w))
   | .ex e=>some (.ex e)
   | .stuck=>some .stuck)
  | .ex e=>some (.ex e)
  | .stuck=>some .stuck
theorem iterW_more {c:Rho→R Bool} {b:Rho→R Fl}:∀ (n:Nat) (ρ:Rho) (r:R Fl),iterW c b n ρ=some r→∀ m,n≤m→iterW c b m ρ=some r
 | 0,_,_,h,_,_=>by cases h
 | n+1,ρ,r,h,m,hm=>by
  obtain ⟨k,rfl⟩:∃ k,m=k+1:=⟨m-1,by omega⟩
  unfold iterW at h ⊢
  revert h
  cases c ρ with
  | ex e=>exact id
  | stuck=>exact id
  | ok t=>
   cases t with
   | false=>exact id
   | true=>
    cases b ρ with
    | ex e=>exact id
    | stuck=>exact id
    | ok f=>
     cases f with
     | nx ρ'=>exact fun h=>iterW_more n ρ' r h k (by omega)
     | ct ρ'=>exact fun h=>iterW_more n ρ' r h k (by omega)
     | bk ρ'=>exact id
     | rt w=>exact id
open Classical in
noncomputable def mWhile (c:Rho→R Bool) (b:Rho→R Fl):Rho→R Fl:=fun ρ=>if h:∃ r n,iterW c b n ρ=some r then h.choose else .stuck
theorem mWhile_eq {c:Rho→R Bool} {b:Rho→R Fl} {n:Nat} {r:R Fl} (h:iterW c b n ρ=some r):mWhile c b ρ=r:=by
 unfold mWhile
 have hx:∃ r n,iterW c b n ρ=some r:=⟨r,n,h⟩
 rw [dif_pos hx]
 obtain ⟨m,hm⟩:=hx.choose_spec
 have a:=iterW_more n ρ r h (max n m) (Nat.le_max_left _ _)
 have b:=iterW_more m ρ _ hm (max n m) (Nat.le_max_right _ _)
 rw [a] at b
 exact (Option.some.inj b).symm
theorem c_while {c:Rho→R Bool} {b:Rho→R Fl} (h:tSt K EX d (mWhile c b) D σ H):tWhile (tT K EX c) (tSt K EX d b) D σ H:=by
 obtain ⟨H0,G,ρ,I,o⟩:=h
 by_cases hx:∃ r n,iterW c b n ρ=some r
 ·obtain ⟨r,n,hn⟩:=hx
  rw [mWhile_eq hn] at o
  refine ⟨fun m σ2 Hh=>∃ G2 ρ2,Same G G2∧PIv K H0 G2 ρ2 σ2 Hh∧iterW c b m ρ2=some r,⟨n,G,ρ,Same.refl _,I,hn⟩,?_⟩
  rintro m σ2 Hh ⟨G2,ρ2,s2,I2,h2⟩
  have o2:OutS K EX d H0 G2 r D:=OutS.move s2 o
  refine ⟨H0,G2,ρ2,I2,?_⟩
  cases m with
  | zero=>cases h2
  | succ m=>
   unfold iterW at h2
   revert h2
   cases c ρ2 with
   | stuck=>intro h2; cases h2; exact o2
   | ex x=>intro h2; cases h2; exact fun H' s=>o2 H' (I2.hh.trans s)
   | ok t=>
    cases t with
    | false=>
     intro h2; cases h2
     intro v G3 H3 e3 q
     cases q
     rw [if_neg Bool.false_ne_true]
     exact o2 G3 σ2 H3 e3.gg (I2.ext e3)
    | true=>
     intro h2 v G3 H3 e3 q
     cases q
     rw [if_pos rfl]
     refine ⟨fun σ' H'=>∃ G4 ρ4,Same G G4∧PIv K H0 G4 ρ4 σ' H'∧iterW c b m ρ4=some r,fun σ' H' ⟨G4,ρ4,s4,I4,h4⟩=>⟨m,Nat.lt_succ_self m,G4,ρ4,s4,I4,h4⟩,H0,G3,ρ2,I2.ext e3,?_⟩
     have o3:OutS K EX d H0 G3 r D:=OutS.move e3.gg o2
     have s3:Same G G3:=s2.trans e3.gg
     revert h2
     cases b ρ2 with
     | stuck=>intro h2; cases h2; exact o3
     | ex x=>intro h2; cases h2; exact o3
     | ok f=>
      cases f with
      | nx ρ4=>exact fun h2 G4 σ4 H4 s4 I4=>⟨G4,ρ4,s3.trans s4,I4,h2⟩
      | ct ρ4=>exact fun h2 G4 σ4 H4 s4 I4=>⟨G4,ρ4,s3.trans s4,I4,h2⟩
      | bk ρ4=>intro h2; cases h2; exact o3
      | rt w=>intro h2; cases h2; exact o3
 ·unfold mWhile at o
  rw [dif_neg hx] at o
  exact o.elim
theorem Md.whole {v:V} {w:W} {Hs:Hp} (I:PIv K H0 G ρ σ H) (h:Md K H0 Hs G H v w .B):Rep K H v w:=by
 rcases h with h | ⟨a,vs,ws,rfl,rfl,h1,r⟩
 ·exact h.same I.join_H
 ·exact .lst h1 (r.same I.gh)
theorem MdA.whole {Hs:Hp} (I:PIv K H0 G ρ σ H):∀ {ws:List W} {vs:List V},MdA K .B H0 Hs G H ws vs→Reps K H vs ws
 | _,_,.nil=>.nil
 | _,_,.cons h t=>.cons (h.whole I) (MdA.whole I t)
def XE (_:XK):EXT:=fun _ _=>False
def spM (K:PySem.W.Frag) (n:Nat) (d:Mode) (f:List W→R W):Sp:=fun vs H Q E=>vs.length=n∧∃ ws,Reps K H vs ws∧match f ws with
 | .ok w=>∀ v G' H',Same H H'→Same G' H'→(∀ a o,H a=some o→isL o=true→G' a=none)→Md K H H G' H' v w d→Q v H'
 | .ex e=>∀ H',Same H H'→XE E e H'
 | .stuck=>False
def runB (n N:Nat) (m:Rho→R Fl) (ws:List W):R W:=if ws.length=n then (m (ws.map Sl.par++List.replicate (N-n) Sl.un)>>=fun f=>match f with
 | .rt w=>.ok w
 | .nx _=>.ok .non
 | _=>.stuck) else .stuck
theorem runB_len {n N:Nat} {m:Rho→R Fl} (ws:List W) (h:runB n N m ws≠.stuck):ws.length=n:=by
 unfold runB at h
 by_cases e:ws.length=n
 ·exact e
 ·rw [if_neg e] at h; exact absurd rfl h
def both (G G':Hp):Hp:=fun b=>match G b with
 | some o=>some o
 | none=>G' b
theorem c_call {n:Nat} {f:List W→R W} {E:XK} {ma:Rho→R (List W)} {Q:VK} (hd:d=.F∨d=.V) (hf:∀ ws,f ws≠.stuck→ws.length=n) (hE:∀ e H,EX e H→XE E e H) (h:tM K EX d (fun ρ=>ma ρ>>=fun ws=>f ws) σ H Q) :
  tCall (spM K n d f) [] E (tA K EX .B ma) σ H Q:=by
 obtain ⟨H0,G,ρ,I,o⟩:=h
 refine ⟨H0,G,ρ,I,Out.bind o fun xs G1 H1 ws e1 m1 o1=>?_⟩
 have I1:=I.ext e1
 have r:=MdA.whole I1 m1
 rw [List.append_nil]
 refine ⟨?_,ws,r,?_⟩
 ·rw [r.length]
  refine hf ws fun z=>?_
  rw [z] at o1; exact o1
 ·revert o1
  cases f ws with
  | stuck=>exact id
  | ex e=>exact fun o1 H' s=>hE e H' (o1 H' s)
  | ok w=>
   intro o1 v G' H' sH gH cl md
   have sB:Same G1 (both G1 G'):=fun b o q=>by unfold both; rw [q]
   have sB':Same G' (both G1 G'):=fun b o q=>by
    unfold both
    cases q1:G1 b with
    | none=>exact q
    | some u=>
     have a1:=sH b u (I1.gh b u q1)
     rw [gH b o q] at a1
     exact a1.symm
   have sHB:Same (both G1 G') H':=fun b o q=>by
    unfold both at q
    cases q1:G1 b with
    | none=>rw [q1] at q; exact gH b o q
    | some u=>rw [q1] at q; cases q; exact sH b _ (I1.gh b _ q1)
   have ex:Ext G1 H1 (both G1 G') H':=⟨sB,sH,sHB,fun b o q l g=>by unfold both; rw [g]; exact cl b o q l⟩
   refine o1 v (both G1 G') H' ex ?_
   rcases hd with rfl | rfl
   ·cases w with
    | lst us=>
     obtain ⟨a,vs,rfl,h1,h2,h3,r3⟩:=md
     exact ⟨a,vs,rfl,h1,by unfold both; rw [I1.gh.free h3]; exact h2,e1.hh.free h3,r3.same sB'⟩
    | non=>exact Rep.same sB' md
    | bl _=>exact Rep.same sB' md
    | int _=>exact Rep.same sB' md
    | str _=>exact Rep.same sB' md
    | ty _=>exact Rep.same sB' md
    | tup _=>exact Rep.same sB' md
    | scr _=>exact Rep.same sB' md
    | exc _ _=>exact Rep.same sB' md
    | cls _=>exact Rep.same sB' md
   ·exact Rep.same sB' md
def noLH (H:Hp):Hp:=fun a=>match H a with
 | some o=>if isL o then none else some o
 | none=>none
theorem join_noLH:join H (noLH H)=H:=by
 funext a
 unfold join noLH
 cases q:H a with
 | none=>rfl
 | some o=>
  dsimp only
  cases isL o <;> rfl
theorem Reps.slots:∀ {vs:List V} {ws:List W} {i:Nat} {x:Sl} {o:Option V} {k k':Nat},Reps K H vs ws→(ws.map Sl.par++List.replicate k Sl.un)[i]?=some x→(vs.map some++List.replicate k' none)[i]?=some o→x=.un∨∃ v w,x=.par w∧o=some v∧Rep K H v w
 | _,_,i,x,o,k,k',.nil,h1,h2=>by
  simp only [List.map_nil,List.nil_append,List.getElem?_replicate] at h1
  split at h1 <;> simp only [Option.some.injEq,reduceCtorEq] at h1
  exact .inl h1.symm
 | _,_,0,x,o,k,k',.cons r _,h1,h2=>by
  simp at h1 h2
  exact .inr ⟨_,_,h1.symm,h2.symm,r⟩
 | _,_,i+1,x,o,k,k',.cons _ t,h1,h2=>by
  simp only [List.map_cons,List.cons_append,List.getElem?_cons_succ] at h1 h2
  exact Reps.slots t h1 h2
theorem PIv.begin {vs:List V} {ws:List W} {k k':Nat} (r:Reps K H vs ws) (hk:k=k'):PIv K H (noLH H) (ws.map Sl.par++List.replicate k Sl.un) (vs.map some++List.replicate k' none) H where
 g0 a o e l:=by unfold noLH; rw [e]; dsimp only; rw [l]; rfl
 gl a o e l:=by unfold noLH; rw [e]; dsimp only; rw [l]; rfl
 gh a o e:=by
  unfold noLH at e
  cases q:H a with
  | none=>rw [q] at e; cases e
  | some u=>
   rw [q] at e
   dsimp only at e
   cases hl:isL u
   ·rw [hl] at e; exact e
   ·rw [hl] at e; cases e
 hh:=Same.refl H
 len:=by subst hk; simp [r.length]
 sl i x o h1 h2:=by
  rcases Reps.slots r h1 h2 with rfl | ⟨v,w,rfl,rfl,q⟩
  ·trivial
  ·exact ⟨v,rfl,by rw [join_noLH]; exact q⟩
 ne i j us xs a hij h1 _ _ _:=by
  have:∀ (i:Nat) (us:List W),(ws.map Sl.par++List.replicate k Sl.un)[i]?≠some (Sl.own us):=fun i us q=>by
   rw [List.getElem?_append] at q
   split at q
   ·rw [List.getElem?_map] at q
    cases hh:ws[i]? <;> rw [hh] at q <;> cases q
   ·rw [List.getElem?_replicate] at q
    split at q <;> cases q
  exact absurd h1 (this i us)
theorem c_body {n:Nat} {Nl:List Str} {m:Rho→R Fl} {vs:List V} {Q:VK} {E:XK} (hd:d=.F∨d=.V) (h:spM K n d (runB n Nl.length m) vs H Q E):tSt K (fun _ _=>False) d m { nx:=fun _ H'=>Q .non H',rt:=Q } (L2.start Nl vs) H:=by
 obtain ⟨hl,ws,r,o⟩:=h
 have hw:ws.length=n:=by rw [← r.length]; exact hl
 unfold runB at o
 rw [if_pos hw] at o
 refine ⟨H,noLH H,_,PIv.begin (k:=Nl.length-n) r (by rw [hl]),?_⟩
 revert o
 cases m (ws.map Sl.par++List.replicate (Nl.length-n) Sl.un) with
 | stuck=>exact id
 | ex e=>exact fun o=>(o H (Same.refl H)).elim
 | ok f=>
  cases f with
  | nx ρ'=>exact fun o G' σ' H' s' I'=>o .non G' H' I'.hh I'.gh I'.gl (Md.sca rfl (fun _=>.non) d)
  | rt w=>exact fun o v G' H' _ s1 s2 c md=>o v G' H' s2 s1 c md
  | bk _=>exact fun o=>o.elim
  | ct _=>exact fun o=>o.elim
end
end TP
namespace TP
open PySem L2
section
variable {K:PySem.W.Frag} {EX:EXT} {H0 G H G1 H1 G2 H2:Hp} {ρ:Rho} {σ:St} {d:Mode} {D:Ends}
def elR (mg:W→Rho→Option Rho) (mc:Rho→R Bool) (me:Rho→R W) (ρ:Rho) (w:W):R (Option W):=match mg w ρ with
 | none=>.stuck
 | some ρ1=>(match mc ρ1 with
  | .ok true=>(match me ρ1 with
   | .ok y=>.ok (some y)
   | _=>.stuck)
  | .ok false=>.ok none
  | _=>.stuck)
def mapR (f:W→R (Option W)):List W→R (List W)
 | []=>.ok []
 | w::ws=>match f w,mapR f ws with
  | .ok (some y),.ok ys=>.ok (y::ys)
  | .ok none,.ok ys=>.ok ys
  | _,_=>.stuck
def mComp (N':Nat) (mg:W→Rho→Option Rho) (mc:Rho→R Bool) (me:Rho→R W) (ws:List W) (ρ:Rho):R W:=
 if ws.length≤1000 then (match mapR (elR mg mc me (ρ++List.replicate (N'-ρ.length) Sl.un)) ws with
  | .ok ys=>.ok (.lst ys)
  | _=>.stuck) else .stuck
theorem mapR_ok {f:W→R (Option W)}:∀ {ws ys:List W},mapR f ws=.ok ys→(∀ w∈ws,∃ o,f w=.ok o)∧ys=ws.filterMap fun w=>match f w with
  | .ok o=>o
  | _=>none
 | [],ys,h=>by cases h; exact ⟨by simp,rfl⟩
 | w::ws,ys,h=>by
  unfold mapR at h
  cases hf:f w with
  | stuck=>rw [hf] at h; cases h
  | ex e=>rw [hf] at h; cases h
  | ok o=>
   rw [hf] at h
   cases hm:mapR f ws with
   | stuck=>rw [hm] at h; cases o <;> cases h
   | ex e=>rw [hm] at h; cases o <;> cases h
   | ok zs=>
    rw [hm] at h
    obtain ⟨h1,h2⟩:=mapR_ok hm
    refine ⟨fun u hu=>?_,?_⟩
    ·rcases List.mem_cons.mp hu with rfl | hu
     ·exact ⟨o,hf⟩
     ·exact h1 u hu
    ·cases o with
     | none=>cases h; rw [List.filterMap_cons,hf]; exact h2
     | some y=>cases h; rw [List.filterMap_cons,hf,h2]
theorem PIv.inner {N':List Str} (I:PIv K H0 G ρ σ H):PIv K H0 G (ρ++List.replicate (N'.length-ρ.length) Sl.un) (inner N' σ) H:=by
 have hl:=I.len
 unfold L2.inner
 rw [hl]
 refine ⟨I.g0,I.gl,I.gh,I.hh,by simp [hl],fun i x o h1 h2=>?_,fun p q ws us c hab h1 h2 h3 h4=>?_⟩
 ·by_cases hi:i<ρ.length
  ·rw [List.getElem?_append_left hi] at h1
   rw [List.getElem?_append_left (by omega)] at h2
   exact I.sl i x o h1 h2
  ·rw [List.getElem?_append_right (by omega),List.getElem?_replicate] at h1
   split at h1 <;> simp only [Option.some.injEq,reduceCtorEq] at h1
   subst h1; trivial
 ·have key:∀ {k:Nat} {us:List W},(ρ++List.replicate (N'.length-σ.length) Sl.un)[k]?=some (Sl.own us)→k<ρ.length∧ρ[k]?=some (Sl.own us):=fun {k us} hk=>by
   by_cases hi:k<ρ.length
   ·rw [List.getElem?_append_left hi] at hk; exact ⟨hi,hk⟩
   ·rw [List.getElem?_append_right (by omega),List.getElem?_replicate] at hk
    split at hk <;> simp at hk
  obtain ⟨l1,k1⟩:=key h1
  obtain ⟨l2,k2⟩:=key h2
  rw [List.getElem?_append_left (by omega)] at h3 h4
  exact I.ne p q ws us c hab k1 k2 h3 h4
open Classical in
noncomputable def rest (G H:Hp) (Dd:Addr) (H':Hp):Hp:=fun b=>if b=Dd∨∃ o,H b=some o∧isL o=true∧G b=none then none else H' b
theorem rest_none {Dd b:Addr} {H':Hp} (h:b=Dd∨∃ o,H b=some o∧isL o=true∧G b=none):rest G H Dd H' b=none:=by unfold rest; rw [if_pos h]
theorem rest_some {Dd b:Addr} {H':Hp} (h:¬ (b=Dd∨∃ o,H b=some o∧isL o=true∧G b=none)):rest G H Dd H' b=H' b:=by unfold rest; rw [if_neg h]
theorem rest_of {Dd b:Addr} {H':Hp} {o:HO} (h:rest G H Dd H' b=some o):H' b=some o∧¬ (b=Dd∨∃ o,H b=some o∧isL o=true∧G b=none):=by
 by_cases c:b=Dd∨∃ o,H b=some o∧isL o=true∧G b=none
 ·rw [rest_none c] at h; cases h
 ·rw [rest_some c] at h; exact ⟨h,c⟩
theorem PIv.rest {Dd:Addr} {H':Hp} (I:PIv K H0 G ρ σ H) (hD:H Dd=none) (s:Same H H'):Same G (rest G H Dd H')∧PIv K H0 (rest G H Dd H') ρ σ H':=by
 have sG:Same G (TP.rest G H Dd H'):=fun b o q=>by
  rw [rest_some]
  ·exact s b o (I.gh b o q)
  ·rintro (rfl | ⟨u,h1,h2,h3⟩)
   ·rw [I.gh _ _ q] at hD; cases hD
   ·rw [q] at h3; cases h3
 refine ⟨sG,fun a o e l=>sG a o (I.g0 a o e l),fun a o e l=>rest_none (.inr ⟨o,I.hh a o e,l,I.gl a o e l⟩),fun b o q=>(rest_of q).1,I.hh.trans s,I.len,fun i x o h1 h2=>?_,I.ne⟩
 have:=I.sl i x o h1 h2
 cases x with
 | un=>trivial
 | val w=>obtain ⟨v,e,r⟩:=this; exact ⟨v,e,r.same sG⟩
 | par w=>obtain ⟨v,e,r⟩:=this; exact ⟨v,e,r.same (join_same sG)⟩
 | own ws=>
  obtain ⟨a,vs,e,h,g,h0,r⟩:=this
  exact ⟨a,vs,e,s a _ h,rest_none (.inr ⟨_,h,rfl,g⟩),h0,r.same sG⟩
 | dic ks=>
  obtain ⟨a,vs,e,h,g,h0,r⟩:=this
  exact ⟨a,vs,e,s a _ h,rest_none (.inr ⟨_,h,rfl,g⟩),h0,r⟩
 | dik ks=>
  obtain ⟨a,vs,e,h,g,h0,r⟩:=this
  exact ⟨a,vs,e,s a _ h,rest_none (.inr ⟨_,h,rfl,g⟩),h0,r⟩
 | iop p ws=>obtain ⟨e1,vs1,h1',r1⟩:=this; exact ⟨e1,vs1,h1',r1.same sG⟩
 | hz w=>obtain ⟨v,e,r⟩:=this; exact ⟨v,e,r.same (join_same (noLG_same sG))⟩
theorem rest_mono {Dd:Addr} {Ha Hb:Hp} (s:∀ b o,b≠Dd→Ha b=some o→Hb b=some o):Same (rest G H Dd Ha) (rest G H Dd Hb):=fun b o q=>by
 obtain ⟨h,c⟩:=rest_of q
 rw [rest_some c]
 exact s b o (fun z=>c (.inl z)) h
theorem rest_ext {Dd:Addr} {Ha Hb G':Hp} (hl:∃ ys,Ha Dd=some (.lst ys)) (s:Same H Ha) (e:Ext (rest G H Dd Ha) Ha G' Hb):Same G' (rest G H Dd Hb):=fun b o q=>by
 rw [rest_some]
 ·exact e.gh b o q
 ·rintro (rfl | ⟨u,h1,h2,h3⟩)
  ·obtain ⟨ys,hl⟩:=hl
   rw [e.keep _ _ hl rfl (rest_none (.inl rfl))] at q; cases q
  ·rw [e.keep _ _ (s _ _ h1) h2 (rest_none (.inr ⟨u,h1,h2,h3⟩))] at q; cases q
theorem c_comp {Q:VK} {e:Mode} {N':List Str} {g:TG} {mg:W→Rho→Option Rho} {mi:Rho→R (List W)} {mc:Rho→R Bool} {me:Rho→R W} (hg:Gt K e g mg) (h:tM K EX .F (fun ρ=>mi ρ>>=fun ws=>mComp N'.length mg mc me ws ρ) σ H Q) :
  tComp N' (tIt K EX false e mi) g (tT K EX mc) (tM K EX .V me) σ H Q:=by
 obtain ⟨H0,G,ρ,I,o⟩:=h
 refine ⟨H0,G,ρ,I,?_⟩
 replace o:Out EX G H (mdW K .F H0 H) (mi ρ>>=fun ws=>mComp N'.length mg mc me ws ρ) Q:=o
 revert o
 cases mi ρ with
 | stuck=>exact id
 | ex x=>exact id
 | ok ws=>
  intro o J G1 H1 e1 T Dd hD
  have I1:=I.ext e1
  replace o:Out EX G H (mdW K .F H0 H) (mComp N'.length mg mc me ws ρ) Q:=o
  unfold mComp at o
  by_cases hlen:ws.length≤1000
  ·rw [if_pos hlen] at o
   cases hm:mapR (elR mg mc me (ρ++List.replicate (N'.length-ρ.length) Sl.un)) ws with
   | stuck=>rw [hm] at o; exact o.elim
   | ex x=>rw [hm] at o; exact o.elim
   | ok ys=>
    rw [hm] at o
    obtain ⟨hall,hys⟩:=mapR_ok hm
    have T':ItOk K e H0 H1 G1 J ws:=by
     have:=T
     rw [if_neg Bool.false_ne_true] at this
     exact this
    generalize hρ:ρ++List.replicate (N'.length-ρ.length) Sl.un=ρi at hm hall hys
    refine ⟨fun i m H2=>m=ws.length-i∧i≤ws.length∧Same H1 H2∧∃ vs,H2 Dd=some (.lst vs)∧vs.length≤i∧Reps K (rest G1 H1 Dd H2) vs ((ws.take i).filterMap fun w=>match elR mg mc me ρi w with
     | .ok o=>o
     | _=>none),⟨_,rfl,Nat.zero_le _,fun b u q=>by rw [upd_ne (ne_of_none q hD)]; exact q,[],upd_same,Nat.le_refl _,.nil⟩,?_⟩
    rintro i m H2 ⟨rfl,hi,s2,vs,hDv,hvl,r2⟩
    by_cases hlt:i<ws.length
    ·refine .inr ⟨T'.go i H2 hlt s2,fun x H3 y=>?_⟩
     obtain ⟨sG,I2⟩:=I1.rest (Dd:=Dd) hD s2
     have I2i:=I2.inner (N':=N')
     obtain ⟨G3,e3,m3⟩:=T'.yld i H2 x H3 ws[i] (by simp) s2 y _ _ _ I2i sG
     obtain ⟨op,hop⟩:=hall ws[i] (List.getElem_mem hlt)
     have hop':=hop
     unfold elR at hop
     rw [← hρ] at hop
     have htake:ws.take (i+1)=ws.take i ++ [ws[i]]:=by rw [List.take_succ_eq_append_getElem hlt]
     cases q:mg ws[i] (ρ++List.replicate (N'.length-ρ.length) Sl.un) with
     | none=>rw [q] at hop; cases hop
     | some ρ1=>
      rw [q] at hop
      dsimp only at hop
      refine hg H0 H2 G3 _ _ H3 x _ ρ1 _ (I2i.ext e3) m3 q fun σ4 I4=>⟨H0,G3,ρ1,I4,?_⟩
      cases hc:mc ρ1 with
      | stuck=>rw [hc] at hop; cases hop
      | ex x=>rw [hc] at hop; cases hop
      | ok b=>
       intro b' G5 H5 e5 eb
       cases eb
       rw [hc] at hop
       cases b with
       | false=>
        rw [if_neg Bool.false_ne_true]
        have hop2:op=none:=by cases hop; rfl
        have s5:Same H2 H5:=e3.hh.trans e5.hh
        refine ⟨ws.length-(i+1),by omega,rfl,hlt,s2.trans s5,vs,s5 _ _ hDv,by omega,?_⟩
        rw [htake,List.filterMap_append]
        have:([ws[i]].filterMap fun w=>match elR mg mc me ρi w with
         | .ok o=>o
         | _=>none) = []:=by
         rw [List.filterMap_cons,hop',hop2]; rfl
        rw [this,List.append_nil]
        exact r2.same (rest_mono fun b o _ q=>s5 b o q)
       | true=>
        dsimp only at hop
        rw [if_pos rfl]
        refine ⟨H0,G5,ρ1,I4.ext e5,?_⟩
        cases hme:me ρ1 with
        | stuck=>rw [hme] at hop; cases hop
        | ex x=>rw [hme] at hop; cases hop
        | ok z=>
         rw [hme] at hop
         have hop2:op=some z:=by cases hop; rfl
         intro yv G6 H6 e6 m6
         have e36:Ext (TP.rest G1 H1 Dd H2) H2 G6 H6:=(e3.trans e5).trans e6
         have s6:Same H2 H6:=e36.hh
         refine ⟨vs,s6 _ _ hDv,Nat.lt_of_le_of_lt hvl (Nat.lt_of_lt_of_le (by omega:i<1000) (by decide)),ws.length-(i+1),by omega,rfl,hlt,fun b u q=>by rw [upd_ne (ne_of_none q hD)]; exact s6 b u (s2 b u q),vs ++ [yv],upd_same,by rw [List.length_append]; simp; omega,?_⟩
         rw [htake,List.filterMap_append]
         have:([ws[i]].filterMap fun w=>match elR mg mc me ρi w with
          | .ok o=>o
          | _=>none) = [z]:=by
          rw [List.filterMap_cons,hop',hop2]; rfl
         rw [this]
         have k1:Same (TP.rest G1 H1 Dd H2) (TP.rest G1 H1 Dd (upd H6 Dd (.lst (vs ++ [yv])))):=rest_mono fun b o hb q=>by rw [upd_ne hb]; exact s6 b o q
         have k2:Same G6 (TP.rest G1 H1 Dd (upd H6 Dd (.lst (vs ++ [yv])))):=(rest_ext ⟨vs,hDv⟩ s2 e36).trans (rest_mono fun b o hb q=>by rw [upd_ne hb]; exact q)
         exact (r2.same k1).snoc (Rep.same k2 m6)
    ·have ei:i=ws.length:=by omega
     subst ei
     refine .inl ⟨T'.stop H2 s2,?_⟩
     rw [List.take_length,← hys] at r2
     obtain ⟨sG,I2⟩:=I1.rest (Dd:=Dd) hD s2
     refine o _ (TP.rest G1 H1 Dd H2) H2 ⟨e1.gg.trans sG,e1.hh.trans s2,I2.gh,fun b u q l g=>rest_none (.inr ⟨u,e1.hh b u q,l,e1.keep b u q l g⟩)⟩ ⟨Dd,vs,rfl,hDv,rest_none (.inl rfl),e1.hh.free hD,r2⟩
  ·rw [if_neg hlen] at o; exact o.elim
def seqW:W→R (List W)
 | .lst ws=>.ok ws
 | .tup ws=>.ok ws
 | .scr ws=>.ok ws
 | _=>.stuck
theorem sq_same {t:Bool} {a:Addr} {xs:List V} (e:Same H H1) (h:Sq K H t a xs):Sq K H1 t a xs:=by
 unfold Sq at h ⊢
 split at h
 ·rename_i ht; rw [if_pos ht]; exact sqT_same e h
 ·rename_i ht; rw [if_neg ht]; exact Same.seq e h
theorem sqT {a:Addr} {xs:List V} (h:SqT K H a xs):Sq K H true a xs:=by unfold Sq; rw [if_pos rfl]; exact h
theorem sqL {a:Addr} {xs:List V} (h:SqL K H a xs):Sq K H false a xs:=by unfold Sq; rw [if_neg Bool.false_ne_true]; exact h
theorem Rep.sq {F:Hp} {x:V} {w:W} {ws:List W} (h:Rep K F x w) (hw:seqW w=.ok ws):∃ t a vs,x=.ref a∧Sq K F t a vs∧Reps K F vs ws:=by
 cases h with
 | tup s r=>cases hw; exact ⟨true,_,_,rfl,sqT (SqT.of s),r⟩
 | lst s r=>cases hw; exact ⟨false,_,_,rfl,sqL (SqL.of s),r⟩
 | scr s r=>cases hw; exact ⟨false,_,_,rfl,sqL s,r⟩
 | _=>cases hw
def srcM:Bool→Mode→Mode
 | true,e=>e
 | false,.V=>.C
 | false,_=>.B
def fz (e:Mode) (H0 G:Hp):Hp:=if e=.V then G else join H0 G
theorem Md.src {lp:Bool} {e:Mode} {Hs:Hp} {x:V} {w:W} {ws:List W} (he:e=.V∨e=.U) (I:PIv K H0 G ρ σ H) (m:Md K H0 Hs G H x w (srcM lp e)) (hw:seqW w=.ok ws) :
  ∃ t a vs,x=.ref a∧Sq K (if lp then join H0 G else H) t a vs∧Reps K (fz e H0 G) vs ws:=by
 unfold fz
 rcases he with rfl | rfl
 ·rw [if_pos rfl]
  cases lp with
  | true=>
   obtain ⟨t,a,vs,e1,e2,e3⟩:=Rep.sq m hw
   exact ⟨t,a,vs,e1,by rw [if_pos rfl]; exact sq_same I.G_join e2,e3⟩
  | false=>
   rw [if_neg Bool.false_ne_true]
   rcases m with m | ⟨a,vs,us,rfl,rfl,h1,r⟩
   ·obtain ⟨t,a,vs,e1,e2,e3⟩:=Rep.sq m hw
    exact ⟨t,a,vs,e1,sq_same I.gh e2,e3⟩
   ·cases hw; exact ⟨false,a,vs,rfl,sqL (SqL.of h1),r⟩
 ·rw [if_neg (show ¬ (Mode.U=Mode.V) by intro z; cases z)]
  cases lp with
  | true=>
   obtain ⟨t,a,vs,e1,e2,e3⟩:=Rep.sq m hw
   exact ⟨t,a,vs,e1,by rw [if_pos rfl]; exact e2,e3⟩
  | false=>
   rw [if_neg Bool.false_ne_true]
   rcases m with m | ⟨a,vs,us,rfl,rfl,h1,r⟩
   ·obtain ⟨t,a,vs,e1,e2,e3⟩:=Rep.sq m hw
    exact ⟨t,a,vs,e1,sq_same I.join_H e2,e3⟩
   ·cases hw; exact ⟨false,a,vs,rfl,sqL (SqL.of h1),r.same I.G_join⟩
theorem Md.of_fz {e:Mode} {Hs:Hp} {v:V} {w:W} (he:e=.V∨e=.U) (h:Rep K (fz e H0 G) v w):Md K H0 Hs G H v w e:=by
 unfold fz at h
 rcases he with rfl | rfl
 ·rw [if_pos rfl] at h; exact h
 ·rw [if_neg (show ¬ (Mode.U=Mode.V) by intro z; cases z)] at h; exact h
theorem fz_same {e:Mode} (s:Same G G1):Same (fz e H0 G) (fz e H0 G1):=by
 unfold fz
 split
 ·exact s
 ·exact join_same s
theorem itok_sq {e:Mode} {Z:Hp} {t:Bool} {a:Addr} {vs:List V} {ws:List W} (he:e=.V∨e=.U) (s:Sq K Z t a vs) (r:Reps K (fz e H0 G) vs ws):ItOk K e H0 Z G (ItQ K t a) ws:=by
 have hl:=r.length
 cases t with
 | true=>
  have hq:∀ H,Same Z H→SqT K H a vs:=fun H z=>by have:=sq_same z s; unfold Sq at this; rw [if_pos rfl] at this; exact this
  refine ⟨fun i H hi z=>⟨vs,vs[i]'(by omega),hq H z,by simp⟩,fun H z=>⟨vs,hq H z,by omega⟩,fun i H x H' w hw z ⟨e1,y⟩ G2 ρ σ I sg=>?_⟩
  subst e1
  have hx:=y vs (hq _ z)
  obtain ⟨v,hv,rv⟩:=Reps.get r hw
  rw [hx] at hv; cases hv
  exact ⟨G2,Ext.refl I.gh,Md.of_fz he (rv.same (fz_same sg))⟩
 | false=>
  have hq:∀ H,Same Z H→SqL K H a vs:=fun H z=>by have:=sq_same z s; unfold Sq at this; rw [if_neg Bool.false_ne_true] at this; exact this
  refine ⟨fun i H hi z=>⟨vs,vs[i]'(by omega),hq H z,by simp⟩,fun H z=>⟨vs,hq H z,by omega⟩,fun i H x H' w hw z ⟨e1,y⟩ G2 ρ σ I sg=>?_⟩
  subst e1
  have hx:=y vs (hq _ z)
  obtain ⟨v,hv,rv⟩:=Reps.get r hw
  rw [hx] at hv; cases hv
  exact ⟨G2,Ext.refl I.gh,Md.of_fz he (rv.same (fz_same sg))⟩
theorem lp_H {lp:Bool} (I:PIv K H0 G ρ σ H):Same (if lp then join H0 G else H) H:=by
 cases lp
 ·exact Same.refl H
 ·exact I.join_H
theorem c_iSq {lp:Bool} {e:Mode} {ml:Rho→R W} {Rr:It→Hp→Prop} (he:e=.V∨e=.U) (h:tIt K EX lp e (fun ρ=>ml ρ>>=seqW) σ H Rr):iSq K (tM K EX (srcM lp e) ml) σ H Rr:=by
 obtain ⟨H0,G,ρ,I,o⟩:=h
 refine ⟨H0,G,ρ,I,?_⟩
 replace o:OutI K EX lp e H0 G H (ml ρ>>=seqW) Rr:=o
 revert o
 cases ml ρ with
 | stuck=>exact id
 | ex x=>exact id
 | ok w=>
  intro o x G1 H1 e1 m1
  have I1:=I.ext e1
  have o':OutI K EX lp e H0 G H (seqW w) Rr:=o
  cases q:seqW w with
  | stuck=>rw [q] at o'; exact o'.elim
  | ex z=>cases w <;> cases q
  | ok ws=>
   rw [q] at o'
   obtain ⟨t,a,vs,ex,s,r⟩:=Md.src he I1 m1 q
   exact ⟨a,ex,t,vs,sq_same (lp_H I1) s,o' _ G1 H1 e1 (itok_sq he s r)⟩
def rngW (lo hi:Int):R (List W):=if -1000000≤lo∧lo≤1000000 ∧ -1000000≤hi∧hi≤1000000 then .ok ((List.range (hi-lo).toNat).map fun k=>W.int (lo+(k:Nat))) else .stuck
def rng1:List W→R (List W)
 | [.int j]=>rngW 0 j
 | _=>.stuck
def rng2:List W→R (List W)
 | [.int i,.int j]=>rngW i j
 | _=>.stuck
theorem itok_rng {e:Mode} {Z:Hp} {lo:Int} {n:Nat} (he:e=.V∨e=.U):ItOk K e H0 Z G (Itr lo n) ((List.range n).map fun k=>W.int (lo+(k:Nat))):=by
 refine ⟨fun i H hi _=>by show i<n; simpa using hi,fun H _=>by simp [Itr],fun i H x H' w hw _ ⟨e1,e2⟩ G2 ρ σ I _=>?_⟩
 subst e1; subst e2
 rw [List.getElem?_map] at hw
 cases q:(List.range n)[i]? with
 | none=>rw [q] at hw; cases hw
 | some k=>
  rw [q] at hw
  have hk:k=i:=by
   have:=List.getElem?_eq_some_iff.mp q
   obtain ⟨h1,h2⟩:=this
   simpa using h2.symm
  subst hk
  cases hw
  refine ⟨G2,Ext.refl I.gh,Md.sca rfl (fun _=>.int) e⟩
theorem tIt_bind {lp:Bool} {e b:Mode} {ma:Rho→R (List W)} {k:List W→R (List W)} {Rr:It→Hp→Prop} {Q:List V→Hp→Prop} (h:tIt K EX lp e (fun ρ=>ma ρ>>=k) σ H Rr)
  (hq:∀ H0 G ρ G1 H1 xs ws us,PIv K H0 G ρ σ H→Ext G H G1 H1→MdA K b H0 H G1 H1 ws xs→k ws=.ok us→(∀ J G' H',Ext G H G' H'→ItOk K e H0 (if lp then join H0 G' else H') G' J us→Rr J H')→Q xs H1)
  (hx:∀ ws e,k ws≠.ex e):tA K EX b ma σ H Q:=by
 obtain ⟨H0,G,ρ,I,o⟩:=h
 refine ⟨H0,G,ρ,I,?_⟩
 replace o:OutI K EX lp e H0 G H (ma ρ>>=k) Rr:=o
 revert o
 cases ma ρ with
 | stuck=>exact id
 | ex x=>exact id
 | ok ws=>
  intro o xs G1 H1 e1 m1
  have o':OutI K EX lp e H0 G H (k ws) Rr:=o
  cases q:k ws with
  | stuck=>rw [q] at o'; exact o'.elim
  | ex z=>exact absurd q (hx ws z)
  | ok us=>rw [q] at o'; exact hq H0 G ρ G1 H1 xs ws us I e1 m1 q o'
theorem rngW_ok {lo hi:Int} {us:List W} (h:rngW lo hi=.ok us):(-1000000≤lo∧lo≤1000000 ∧ -1000000≤hi∧hi≤1000000)∧us=(List.range (hi-lo).toNat).map fun k=>W.int (lo+(k:Nat)):=by
 unfold rngW at h
 split at h
 ·cases h; rename_i c; exact ⟨c,rfl⟩
 ·cases h
theorem c_rng1 {lp:Bool} {e:Mode} {ma:Rho→R (List W)} {Rr:It→Hp→Prop} (he:e=.V∨e=.U) (h:tIt K EX lp e (fun ρ=>ma ρ>>=rng1) σ H Rr):iRng1 (tA K EX .B ma) σ H Rr:=by
 refine tIt_bind h (fun H0 G ρ G1 H1 xs ws us I e1 m1 q o=>?_) (fun ws e z=>?_)
 ·unfold rng1 at q
  split at q
  ·rename_i j
   cases m1 with
   | cons a t=>
    cases t
    obtain ⟨c,rfl⟩:=rngW_ok q
    refine ⟨j,by rw [Md.intB a],by omega,by omega,?_⟩
    have:=o (Itr 0 j.toNat) G1 H1 e1
    rw [Int.sub_zero] at this
    exact this (itok_rng he)
  ·cases q
 ·unfold rng1 at z
  split at z
  ·unfold rngW at z; split at z <;> cases z
  ·cases z
def zipW:List (List W)→List (List W)
 | [xs,ys]=>xs.zipWith (fun x y=>[x,y]) ys
 | [xs,ys,zs]=>(xs.zip ys).zipWith (fun p z=>[p.1,p.2,z]) zs
 | _=>[]
def seqWs:List W→R (List (List W))
 | []=>.ok []
 | w::ws=>match seqW w,seqWs ws with
  | .ok x,.ok xs=>.ok (x::xs)
  | _,_=>.stuck
def zipR (ws:List W):R (List W):=if ws.length=2∨ws.length=3 then (match seqWs ws with
 | .ok xs=>.ok ((zipW xs).map W.tup)
 | _=>.stuck) else .stuck
theorem rep_new {e:Mode} {p:Addr} {vs:List V} {ws:List W} {Hs:Hp} (he:e=.V∨e=.U) (I:PIv K H0 G ρ σ H) (hp:H p=none) (r:Reps K (fz e H0 G) vs ws):Ext G H (upd G p (.tup vs)) (upd H p (.tup vs))∧Md K H0 Hs (upd G p (.tup vs)) (upd H p (.tup vs)) (.ref p) (.tup ws) e:=by
 refine ⟨new_extG I.gh hp,?_⟩
 have gp:G p=none:=I.gh.free hp
 rcases he with rfl | rfl
 ·unfold fz at r
  rw [if_pos rfl] at r
  exact .tup upd_same (r.same fun b u q=>by rw [upd_ne (ne_of_none q gp)]; exact q)
 ·unfold fz at r
  rw [if_neg (show ¬ (Mode.U=Mode.V) by intro z; cases z)] at r
  show Rep K (join H0 (upd G p (.tup vs))) _ _
  rw [join_upd (I.hh.free hp)]
  exact .tup upd_same (r.same fun b u q=>by rw [upd_ne (ne_of_none (I.join_H b u q) hp)]; exact q)
theorem itok_zip2 {e:Mode} {Z:Hp} {t u:Bool} {a b:Addr} {xs ys:List V} {us vs:List W} (he:e=.V∨e=.U) (s1:Sq K Z t a xs) (s2:Sq K Z u b ys) (r1:Reps K (fz e H0 G) xs us) (r2:Reps K (fz e H0 G) ys vs) :
  ItOk K e H0 Z G (ItZ K [(t,a),(u,b)]) ((us.zipWith (fun x y=>[x,y]) vs).map W.tup):=by
 have Rn:=runs_zip2 s1 s2
 have l1:=r1.length
 have l2:=r2.length
 have hl:((us.zipWith (fun x y=>[x,y]) vs).map W.tup).length=min xs.length ys.length:=by simp [l1,l2]
 refine ⟨fun i H hi z=>Rn.go i H (by omega) z,fun H z=>by rw [hl]; exact Rn.stop H z,fun i H x H' w hw z y G2 ρ σ I sg=>?_⟩
 have hi:i<min xs.length ys.length:=by
  rw [← hl]; exact (List.getElem?_eq_some_iff.mp hw).1
 obtain ⟨p,y1,z1,rfl,hp,rfl,hy,hz⟩:=Rn.yld i H x H' hi z y
 obtain ⟨w1,e1,q1⟩:=Reps.get' r1 hy
 obtain ⟨w2,e2,q2⟩:=Reps.get' r2 hz
 have hw':w=.tup [w1,w2]:=by
  rw [List.getElem?_map,List.getElem?_zipWith,e1,e2] at hw
  cases hw; rfl
 subst hw'
 obtain ⟨x1,x2⟩:=rep_new (Hs:=H) he I hp (.cons (q1.same (fz_same sg)) (.cons (q2.same (fz_same sg)) .nil))
 exact ⟨_,x1,x2⟩
theorem itok_zip3 {e:Mode} {Z:Hp} {t u v:Bool} {a b c:Addr} {xs ys zs:List V} {us vs ts:List W} (he:e=.V∨e=.U) (s1:Sq K Z t a xs) (s2:Sq K Z u b ys) (s3:Sq K Z v c zs) (r1:Reps K (fz e H0 G) xs us) (r2:Reps K (fz e H0 G) ys vs) (r3:Reps K (fz e H0 G) zs ts) :
  ItOk K e H0 Z G (ItZ K [(t,a),(u,b),(v,c)]) (((us.zip vs).zipWith (fun p z=>[p.1,p.2,z]) ts).map W.tup):=by
 have Rn:=runs_zip3 s1 s2 s3
 have l1:=r1.length
 have l2:=r2.length
 have l3:=r3.length
 have hl:(((us.zip vs).zipWith (fun p z=>[p.1,p.2,z]) ts).map W.tup).length=min xs.length (min ys.length zs.length):=by simp [l1,l2,l3,Nat.min_assoc]
 refine ⟨fun i H hi z=>Rn.go i H (by omega) z,fun H z=>by rw [hl]; exact Rn.stop H z,fun i H x H' w hw z y G2 ρ σ I sg=>?_⟩
 have hi:i<min xs.length (min ys.length zs.length):=by
  rw [← hl]; exact (List.getElem?_eq_some_iff.mp hw).1
 obtain ⟨p,y1,z1,t1,rfl,hp,rfl,hy,hz,ht⟩:=Rn.yld i H x H' hi z y
 obtain ⟨w1,e1,q1⟩:=Reps.get' r1 hy
 obtain ⟨w2,e2,q2⟩:=Reps.get' r2 hz
 obtain ⟨w3,e3,q3⟩:=Reps.get' r3 ht
 have hw':w=.tup [w1,w2,w3]:=by
  rw [List.getElem?_map,List.getElem?_zipWith,List.zip,List.getElem?_zipWith,e1,e2,e3] at hw
  cases hw; rfl
 subst hw'
 obtain ⟨x1,x2⟩:=rep_new (Hs:=H) he I hp (.cons (q1.same (fz_same sg)) (.cons (q2.same (fz_same sg)) (.cons (q3.same (fz_same sg)) .nil)))
 exact ⟨_,x1,x2⟩
theorem seqWs_cons {w:W} {ws:List W} {xs:List (List W)} (h:seqWs (w::ws)=.ok xs):∃ y ys,seqW w=.ok y∧seqWs ws=.ok ys∧xs=y::ys:=by
 unfold seqWs at h
 cases h1:seqW w with
 | stuck=>rw [h1] at h; cases h
 | ex _=>rw [h1] at h; cases h
 | ok y=>
  rw [h1] at h
  cases h2:seqWs ws with
  | stuck=>rw [h2] at h; cases h
  | ex _=>rw [h2] at h; cases h
  | ok ys=>rw [h2] at h; cases h; exact ⟨y,ys,rfl,rfl,rfl⟩
theorem c_zip {lp:Bool} {e:Mode} {ma:Rho→R (List W)} {Rr:It→Hp→Prop} (he:e=.V∨e=.U) (h:tIt K EX lp e (fun ρ=>ma ρ>>=zipR) σ H Rr):iZip K (tA K EX (srcM lp e) ma) σ H Rr:=by
 refine tIt_bind h (fun H0 G ρ G1 H1 xs ws us I e1 m1 q o=>?_) (fun ws e z=>?_)
 ·have I1:=I.ext e1
  unfold zipR at q
  split at q
  ·rename_i hn
   cases hs:seqWs ws with
   | stuck=>rw [hs] at q; cases q
   | ex _=>rw [hs] at q; cases q
   | ok ls=>
    rw [hs] at q
    cases q
    cases m1 with
    | nil=>simp at hn
    | cons a1 m1=>
     cases m1 with
     | nil=>simp at hn
     | cons a2 m1=>
      obtain ⟨y1,ys,h1,hs1,rfl⟩:=seqWs_cons hs
      obtain ⟨y2,ys,h2,hs2,rfl⟩:=seqWs_cons hs1
      obtain ⟨t1,p1,v1,rfl,q1,r1⟩:=Md.src he I1 a1 h1
      obtain ⟨t2,p2,v2,rfl,q2,r2⟩:=Md.src he I1 a2 h2
      have k1:=sq_same (lp_H I1) q1
      have k2:=sq_same (lp_H I1) q2
      cases m1 with
      | nil=>
       cases hs2
       refine ⟨[(t1,p1),(t2,p2)],rfl,.inl rfl,fun u hu=>?_,o _ G1 H1 e1 (itok_zip2 he q1 q2 r1 r2)⟩
       simp only [List.mem_cons,List.not_mem_nil,or_false] at hu
       rcases hu with rfl | rfl
       ·exact ⟨_,k1⟩
       ·exact ⟨_,k2⟩
      | cons a3 m1=>
       cases m1 with
       | cons _ _=>simp at hn
       | nil=>
        obtain ⟨y3,ys,h3,hs3,rfl⟩:=seqWs_cons hs2
        cases hs3
        obtain ⟨t3,p3,v3,rfl,q3,r3⟩:=Md.src he I1 a3 h3
        refine ⟨[(t1,p1),(t2,p2),(t3,p3)],rfl,.inr rfl,fun u hu=>?_,o _ G1 H1 e1 (itok_zip3 he q1 q2 q3 r1 r2 r3)⟩
        simp only [List.mem_cons,List.not_mem_nil,or_false] at hu
        rcases hu with rfl | rfl | rfl
        ·exact ⟨_,k1⟩
        ·exact ⟨_,k2⟩
        ·exact ⟨_,sq_same (lp_H I1) q3⟩
  ·cases q
 ·unfold zipR at z
  split at z
  ·split at z <;> cases z
  ·cases z
end
end TP
namespace TP
open PySem L2
section
variable {K:PySem.W.Frag} {EX:EXT} {H0 G H G1 H1 G2 H2:Hp} {ρ:Rho} {σ:St} {d:Mode} {D:Ends} {Q:VK}
theorem Reps.atI {F:Hp} {vs:List V} {ws:List W} {i:Int} {w:W} (r:Reps K F vs ws) (h:L2.atI ws i=some w):∃ v,L2.atI vs i=some v∧Rep K F v w:=by
 unfold L2.atI at h ⊢
 rw [r.length]
 cases q:ixN ws.length i with
 | none=>rw [q] at h; cases h
 | some j=>rw [q] at h; exact Reps.get r h
def fIx:W→W→R W
 | .lst ws,.int i=>toR (L2.atI ws i)
 | .tup ws,.int i=>toR (L2.atI ws i)
 | .scr ws,.int i=>toR (L2.atI ws i)
 | _,_=>.stuck
theorem o2_ixU:Op2 K .B .U (rIx K) fIx:=by
 intro EX H0 Hs G H ρ σ Ha Hb x y u v Q I s mx my o
 cases u <;> cases v <;> first | exact o.elim | skip
 ·rename_i ws i
  obtain ⟨a,vs,rfl,hs,r⟩:=mx.tupB I
  replace o:Out EX G H (mdW K .U H0 Hs) (toR (L2.atI ws i)) Q:=o
  cases q:L2.atI ws i with
  | none=>rw [q] at o; exact o.elim
  | some w=>
   rw [q] at o
   obtain ⟨v,hv,rv⟩:=r.atI q
   exact .inr (.inl ⟨a,vs,i,v,rfl,my.intB,SqT.of hs,hv,o v G H (Ext.refl I.gh) rv⟩)
 ·rename_i ws i
  obtain ⟨a,vs,rfl,hs,r⟩:=mx.lstB I
  replace o:Out EX G H (mdW K .U H0 Hs) (toR (L2.atI ws i)) Q:=o
  cases q:L2.atI ws i with
  | none=>rw [q] at o; exact o.elim
  | some w=>
   rw [q] at o
   obtain ⟨v,hv,rv⟩:=r.atI q
   exact .inl ⟨a,vs,i,v,rfl,my.intB,SqL.of hs,hv,o v G H (Ext.refl I.gh) rv⟩
 ·rename_i ws i
  obtain ⟨a,vs,rfl,hs,r⟩:=mx.scrB I
  replace o:Out EX G H (mdW K .U H0 Hs) (toR (L2.atI ws i)) Q:=o
  cases q:L2.atI ws i with
  | none=>rw [q] at o; exact o.elim
  | some w=>
   rw [q] at o
   obtain ⟨v,hv,rv⟩:=r.atI q
   exact .inl ⟨a,vs,i,v,rfl,my.intB,hs,hv,o v G H (Ext.refl I.gh) rv⟩
theorem o2_ixV:Op2 K .C .V (rIx K) fIx:=by
 intro EX H0 Hs G H ρ σ Ha Hb x y u v Q I s mx my o
 cases u <;> cases v <;> first | exact o.elim | skip
 ·rename_i ws i
  obtain ⟨a,vs,rfl,hs,r⟩:=mx.tupC I
  replace o:Out EX G H (mdW K .V H0 Hs) (toR (L2.atI ws i)) Q:=o
  cases q:L2.atI ws i with
  | none=>rw [q] at o; exact o.elim
  | some w=>
   rw [q] at o
   obtain ⟨v,hv,rv⟩:=r.atI q
   exact .inr (.inl ⟨a,vs,i,v,rfl,Md.intB (Md.CB I my),SqT.of hs,hv,o v G H (Ext.refl I.gh) rv⟩)
 ·rename_i ws i
  obtain ⟨a,vs,rfl,hs,r⟩:=mx.lstC I
  replace o:Out EX G H (mdW K .V H0 Hs) (toR (L2.atI ws i)) Q:=o
  cases q:L2.atI ws i with
  | none=>rw [q] at o; exact o.elim
  | some w=>
   rw [q] at o
   obtain ⟨v,hv,rv⟩:=r.atI q
   exact .inl ⟨a,vs,i,v,rfl,Md.intB (Md.CB I my),SqL.of hs,hv,o v G H (Ext.refl I.gh) rv⟩
 ·rename_i ws i
  have mx':Rep K G x (.scr ws):=by
   rcases mx with m | ⟨_,_,_,_,e2,_⟩
   ·exact m
   ·cases e2
  cases mx' with
  | scr hs r=>
   replace o:Out EX G H (mdW K .V H0 Hs) (toR (L2.atI ws i)) Q:=o
   cases q:L2.atI ws i with
   | none=>rw [q] at o; exact o.elim
   | some w=>
    rw [q] at o
    obtain ⟨v,hv,rv⟩:=r.atI q
    exact .inl ⟨_,_,i,v,rfl,Md.intB (Md.CB I my),Same.seq I.gh hs,hv,o v G H (Ext.refl I.gh) rv⟩
def tOp_ (K:PySem.W.Frag) (EX:EXT) (m:Rho→R (Option Int)):TO:=fun σ H Q=>∃ H0 G ρ,PIv K H0 G ρ σ H∧Out EX G H (fun (b c:Option Int) _ _=>c=b) (m ρ) Q
def partW:W→R (Option Int)
 | .int i=>.ok (some i)
 | _=>.stuck
theorem c_noPart {Q:Option Int→Hp→Prop} (h:tOp_ K EX (fun _=>.ok none) σ H Q):tNoPart σ H Q:=by
 obtain ⟨H0,G,ρ,I,o⟩:=h
 exact o none G H (Ext.refl I.gh) rfl
theorem c_part {m:Rho→R W} {Q:Option Int→Hp→Prop} (h:tOp_ K EX (fun ρ=>m ρ>>=partW) σ H Q):tPart (tM K EX .B m) σ H Q:=by
 obtain ⟨H0,G,ρ,I,o⟩:=h
 refine ⟨H0,G,ρ,I,Out.bind o fun x G1 H1 u e1 m1 o1=>?_⟩
 cases u <;> first | exact o1.elim | skip
 rename_i i
 exact ⟨i,m1.intB,o1 _ G1 H1 (Ext.refl e1.gh) rfl⟩
def cutW (xs:List W) (lo hi:Option Int):List W:=(xs.drop (HT.sIx xs.length 0 lo)).take (HT.sIx xs.length xs.length hi-HT.sIx xs.length 0 lo)
theorem Reps.cut {F:Hp} {vs:List V} {ws:List W} (r:Reps K F vs ws) (lo hi:Option Int):Reps K F (cutV vs lo hi) (cutW ws lo hi):=by
 unfold cutV cutW
 rw [r.length]
 exact (r.drop _).take _
def lstOf:W→Option (List W)
 | .lst ws=>some ws
 | .scr ws=>some ws
 | _=>none
def chks (c:Bool) (ws:List W):R W:=if c||noLs ws then .ok (.lst ws) else .stuck
def cb (c:Bool):Mode:=if c then .C else .B
theorem Md.lstOf {c:Bool} {Ha:Hp} {x:V} {w:W} {ws:List W} (I:PIv K H0 G ρ σ H) (m:Md K H0 Ha G H x w (cb c)) (h:lstOf w=some ws):∃ a vs,x=.ref a∧SqL K H a vs∧Reps K (if c then G else join H0 G) vs ws:=by
 cases c with
 | true=>
  rw [if_pos rfl]
  cases w <;> first | cases h | skip
  ·obtain ⟨a,vs,e,hs,r⟩:=Md.lstC (H:=Ha) I m
   exact ⟨a,vs,e,SqL.of hs,r⟩
  ·rcases m with m | ⟨_,_,_,_,e2,_⟩
   ·cases m with
    | scr hs r=>exact ⟨_,_,rfl,Same.seq I.gh hs,r⟩
   ·cases e2
 | false=>
  rw [if_neg Bool.false_ne_true]
  cases w <;> first | cases h | skip
  ·obtain ⟨a,vs,e,hs,r⟩:=Md.lstB (H:=Ha) I m
   exact ⟨a,vs,e,SqL.of hs,r⟩
  ·exact Md.scrB (H:=Ha) I m
theorem Out.chks {c:Bool} {Hs:Hp} {vs:List V} {ws:List W} (I:PIv K H0 G ρ σ H) (s:Same Hs H) (r:Reps K (if c then G else join H0 G) vs ws) (o:Out EX G H (mdW K .F H0 Hs) (chks c ws) Q):∀ p,H p=none→Q (.ref p) (upd H p (.lst vs)):=by
 unfold TP.chks at o
 by_cases n:(c||noLs ws)=true
 ·rw [if_pos n] at o
  have r':Reps K G vs ws:=by
   cases c with
   | true=>rw [if_pos rfl] at r; exact r
   | false=>rw [if_neg Bool.false_ne_true] at r; exact Reps.clean I r (by simpa using n)
  exact fun p hp=>Out.newL I s r' hp o
 ·rw [if_neg n] at o; exact o.elim
theorem c_sl {c:Bool} {m:Rho→R W} {ml mh:Rho→R (Option Int)} (h:tM K EX .F (fun ρ=>m ρ>>=fun x=>ml ρ>>=fun l=>mh ρ>>=fun u=>toR (lstOf x)>>=fun ws=>chks c (cutW ws l u)) σ H Q) :
  tSl (rSlL K) (tM K EX (cb c) m) (tOp_ K EX ml) (tOp_ K EX mh) σ H Q:=by
 obtain ⟨H0,G,ρ,I,o⟩:=h
 refine ⟨H0,G,ρ,I,Out.bind o fun x G1 H1 w e1 m1 o1=>⟨H0,G1,ρ,I.ext e1,Out.bind o1 fun l' G2 H2 l e2 m2 o2=>⟨H0,G2,ρ,(I.ext e1).ext e2,Out.bind o2 fun u' G3 H3 u e3 m3 o3=>?_⟩⟩⟩
 subst m2; subst m3
 have I3:=((I.ext e1).ext e2).ext e3
 cases q:lstOf w with
 | none=>rw [q] at o3; exact o3.elim
 | some ws=>
  rw [q] at o3
  obtain ⟨a,vs,ex,hs,r⟩:=Md.lstOf I3 ((m1.move e2).move e3) q
  refine ⟨a,vs,ex,hs,Out.chks I3 ((e1.hh.trans e2.hh).trans e3.hh) (c:=c) ?_ o3⟩
  cases c with
  | true=>rw [if_pos rfl] at r ⊢; exact r.cut _ _
  | false=>rw [if_neg Bool.false_ne_true] at r ⊢; exact r.cut _ _
def Cal (K:PySem.W.Frag) (b d:Mode) (r:List V→Hp→VK→Prop) (f:List W→R W):Prop:=∀ (EX:EXT) (H0 Hs G H:Hp) (ρ:Rho) (σ:St) (Ha:Hp) (vs:List V) (ws:List W) (Q:VK),PIv K H0 G ρ σ H→Same Hs H→MdA K b H0 Ha G H ws vs →
 Out EX G H (mdW K d H0 Hs) (f ws) Q→r vs H Q
theorem c_cb {b:Mode} {r:List V→Hp→VK→Prop} {f:List W→R W} {ma:Rho→R (List W)} (hr:Cal K b d r f) (h:tM K EX d (fun ρ=>ma ρ>>=fun ws=>f ws) σ H Q):tCB r (tA K EX b ma) σ H Q:=by
 obtain ⟨H0,G,ρ,I,o⟩:=h
 exact ⟨H0,G,ρ,I,Out.bind o fun xs G1 H1 ws e1 m1 o1=>hr EX H0 H G1 H1 ρ σ H xs ws Q (I.ext e1) e1.hh m1 o1⟩
def fLen:List W→R W
 | [w]=>seqW w>>=fun ws=>.ok (.int ws.length)
 | _=>.stuck
theorem b_len:Cal K .B d (fun xs H Q=>∃ p ys,xs = [.ref p]∧(SqL K H p ys∨SqT K H p ys)∧Q (.int ys.length) H) fLen:=by
 intro EX H0 Hs G H ρ σ Ha vs ws Q I s m o
 cases m with
 | nil=>exact o.elim
 | cons a t=>
  cases t with
  | cons _ _=>exact o.elim
  | nil=>
   rename_i w v
   cases w <;> first | exact o.elim | skip
   ·obtain ⟨p,ys,rfl,hs,r⟩:=a.tupB I
    exact ⟨p,ys,rfl,.inr (SqT.of hs),by rw [r.length]; exact o _ G H (Ext.refl I.gh) (Md.sca rfl (fun _=>.int) d)⟩
   ·obtain ⟨p,ys,rfl,hs,r⟩:=a.lstB I
    exact ⟨p,ys,rfl,.inl (SqL.of hs),by rw [r.length]; exact o _ G H (Ext.refl I.gh) (Md.sca rfl (fun _=>.int) d)⟩
   ·obtain ⟨p,ys,rfl,hs,r⟩:=a.scrB I
    exact ⟨p,ys,rfl,.inl hs,by rw [r.length]; exact o _ G H (Ext.refl I.gh) (Md.sca rfl (fun _=>.int) d)⟩
def fList (c:Bool):List W→R W
 | [w]=>seqW w>>=chks c
 | _=>.stuck
theorem b_list {c:Bool}:Cal K (cb c) .F (fun xs H Q=>∃ p ys,xs = [.ref p]∧(SqL K H p ys∨SqT K H p ys)∧∀ l,H l=none→Q (.ref l) (upd H l (.lst ys))) (fList c):=by
 intro EX H0 Hs G H ρ σ Ha vs ws Q I s m o
 cases m with
 | nil=>exact o.elim
 | cons a t=>
  cases t with
  | cons _ _=>exact o.elim
  | nil=>
   rename_i w v
   cases w <;> first | exact o.elim | skip
   ·rename_i us
    cases c with
    | true=>
     obtain ⟨p,ys,rfl,hs,r⟩:=Md.tupC (H:=Ha) I a
     exact ⟨p,ys,rfl,.inr (SqT.of hs),Out.chks (c:=true) I s r o⟩
    | false=>
     obtain ⟨p,ys,rfl,hs,r⟩:=Md.tupB (H:=Ha) I a
     exact ⟨p,ys,rfl,.inr (SqT.of hs),Out.chks (c:=false) I s r o⟩
   ·obtain ⟨p,ys,rfl,hs,r⟩:=Md.lstOf I a rfl
    exact ⟨p,ys,rfl,.inl hs,Out.chks I s r o⟩
   ·obtain ⟨p,ys,rfl,hs,r⟩:=Md.lstOf I a rfl
    exact ⟨p,ys,rfl,.inl hs,Out.chks I s r o⟩
def chkT (c:Bool) (ws:List W):R W:=if c||noLs ws then .ok (.tup ws) else .stuck
def fTup (c:Bool):List W→R W
 | [w]=>seqW w>>=chkT c
 | _=>.stuck
theorem b_tup {c:Bool}:Cal K (cb c) .F (fun xs H Q=>∃ p ys,xs = [.ref p]∧((SqL K H p ys∧∀ l,H l=none→Q (.ref l) (upd H l (.tup ys)))∨(SqT K H p ys∧Q (.ref p) H))) (fTup c):=by
 intro EX H0 Hs G H ρ σ Ha vs ws Q I s m o
 have key:∀ {vs:List V} {us:List W},Reps K (if c then G else join H0 G) vs us→Out EX G H (mdW K .F H0 Hs) (chkT c us) Q→Reps K G vs us∧Out EX G H (mdW K .F H0 Hs) (.ok (.tup us)) Q:=fun {vs us} r o=>by
  unfold chkT at o
  by_cases n:(c||noLs us)=true
  ·rw [if_pos n] at o
   refine ⟨?_,o⟩
   cases c with
   | true=>rw [if_pos rfl] at r; exact r
   | false=>rw [if_neg Bool.false_ne_true] at r; exact Reps.clean I r (by simpa using n)
  ·rw [if_neg n] at o; exact o.elim
 cases m with
 | nil=>exact o.elim
 | cons a t=>
  cases t with
  | cons _ _=>exact o.elim
  | nil=>
   rename_i w v
   cases w <;> first | exact o.elim | skip
   ·rename_i us
    have hx:∃ p ys,v=.ref p∧(if c then G else join H0 G) p=some (.tup ys)∧Reps K (if c then G else join H0 G) ys us:=by
     cases c with
     | true=>
      rw [if_pos rfl]
      rcases a with a | ⟨_,_,_,_,e2,_⟩
      ·cases a with
       | tup h r=>exact ⟨_,_,rfl,h,r⟩
      ·cases e2
     | false=>
      rw [if_neg Bool.false_ne_true]
      rcases a with a | ⟨_,_,_,_,e2,_⟩
      ·cases a with
       | tup h r=>exact ⟨_,_,rfl,h,r⟩
      ·cases e2
    obtain ⟨p,ys,rfl,hp,r⟩:=hx
    obtain ⟨r',o'⟩:=key r o
    have hH:H p=some (.tup ys):=by
     cases c with
     | true=>rw [if_pos rfl] at hp; exact I.gh _ _ hp
     | false=>rw [if_neg Bool.false_ne_true] at hp; exact I.join_H _ _ hp
    have hG:G p=some (.tup ys):=by
     cases c with
     | true=>rw [if_pos rfl] at hp; exact hp
     | false=>
      rw [if_neg Bool.false_ne_true] at hp
      unfold join at hp
      cases q:H0 p with
      | none=>rw [q] at hp; exact hp
      | some u=>
       rw [q] at hp
       dsimp only at hp
       by_cases hl:isL u=true
       ·rw [if_pos hl] at hp; cases hp; cases hl
       ·rw [if_neg hl] at hp; exact hp
    exact ⟨p,ys,rfl,.inr ⟨SqT.of hH,o' _ G H (Ext.refl I.gh) (.tup hG r')⟩⟩
   ·obtain ⟨p,ys,rfl,hs,r⟩:=Md.lstOf I a rfl
    obtain ⟨r',o'⟩:=key r o
    exact ⟨p,ys,rfl,.inl ⟨hs,fun l hl=>Out.newTF I r' hl o'⟩⟩
   ·obtain ⟨p,ys,rfl,hs,r⟩:=Md.lstOf I a rfl
    obtain ⟨r',o'⟩:=key r o
    exact ⟨p,ys,rfl,.inl ⟨hs,fun l hl=>Out.newTF I r' hl o'⟩⟩
def f2 (g:Int→Int→Int):List W→R W
 | [.int i,.int j]=>.ok (.int (g i j))
 | _=>.stuck
theorem b_2 {g:Int→Int→Int}:Cal K .B d (fun xs H Q=>∃ i j,xs = [.int i,.int j]∧Q (.int (g i j)) H) (f2 g):=by
 intro EX H0 Hs G H ρ σ Ha vs ws Q I s m o
 unfold f2 at o
 split at o
 ·cases m with
  | cons a t=>
   cases t with
   | cons b t=>
    cases t
    exact ⟨_,_,by rw [a.intB,b.intB],o _ G H (Ext.refl I.gh) (Md.sca rfl (fun _=>.int) d)⟩
 ·exact o.elim
def tyW:W→Option String
 | .non=>some "NoneType"
 | .bl _=>some "bool"
 | .int _=>some "int"
 | .str _=>some "str"
 | .tup _=>some "tuple"
 | .lst _=>some "list"
 | _=>none
def fIsi:List W→R W
 | [x,.ty T]=>toR ((tyW x).bind fun A=>isiB A T)>>=fun b=>.ok (.bl b)
 | _=>.stuck
def fCat (c:Bool):W→W→R W
 | .lst us,.lst vs=>if us.length+vs.length≤1000 then chks c (us++vs) else .stuck
 | _,_=>.stuck
theorem o2_cat {c:Bool}:Op2 K (cb c) .F rCat (fCat c):=by
 intro EX H0 Hs G H ρ σ Ha Hb x y u v Q I s mx my o
 cases u <;> cases v <;> first | exact o.elim | skip
 rename_i us vs
 replace o:Out EX G H (mdW K .F H0 Hs) (if us.length+vs.length≤1000 then chks c (us++vs) else .stuck) Q:=o
 by_cases hn:us.length+vs.length≤1000
 ·rw [if_pos hn] at o
  have h1:∃ a ws,x=.ref a∧H a=some (.lst ws)∧Reps K (if c then G else join H0 G) ws us:=by
   cases c with
   | true=>exact Md.lstC (H:=Ha) I mx
   | false=>exact Md.lstB (H:=Ha) I mx
  have h2:∃ a ws,y=.ref a∧H a=some (.lst ws)∧Reps K (if c then G else join H0 G) ws vs:=by
   cases c with
   | true=>exact Md.lstC (H:=Hb) I my
   | false=>exact Md.lstB (H:=Hb) I my
  obtain ⟨a,xs,rfl,ha,ra⟩:=h1
  obtain ⟨b,ys,rfl,hb,rb⟩:=h2
  exact ⟨a,b,xs,ys,rfl,rfl,ha,hb,by rw [ra.length,rb.length]; exact le_line hn,Out.chks I s (ra.append rb) o⟩
 ·rw [if_neg hn] at o; exact o.elim
theorem Reps.rep {F:Hp} {vs:List V} {ws:List W} (r:Reps K F vs ws):∀ k:Nat,Reps K F (List.replicate k vs).flatten (List.replicate k ws).flatten
 | 0=>.nil
 | k+1=>by rw [List.replicate_succ,List.replicate_succ,List.flatten_cons,List.flatten_cons]; exact r.append (Reps.rep r k)
def fRep (c:Bool):W→W→R W
 | .lst us,.int k=>if us.length*k.toNat≤1000 ∧ -1000≤k∧k≤1000 then chks c (List.replicate k.toNat us).flatten else .stuck
 | _,_=>.stuck
theorem o2_rep {c:Bool}:Op2 K (cb c) .F rRep (fRep c):=by
 intro EX H0 Hs G H ρ σ Ha Hb x y u v Q I s mx my o
 cases u <;> cases v <;> first | exact o.elim | skip
 rename_i us k
 replace o:Out EX G H (mdW K .F H0 Hs) (if us.length*k.toNat≤1000 ∧ -1000≤k∧k≤1000 then chks c (List.replicate k.toNat us).flatten else .stuck) Q:=o
 by_cases hn:us.length*k.toNat≤1000 ∧ -1000≤k∧k≤1000
 ·rw [if_pos hn] at o
  have h1:∃ a ws,x=.ref a∧H a=some (.lst ws)∧Reps K (if c then G else join H0 G) ws us:=by
   cases c with
   | true=>exact Md.lstC (H:=Ha) I mx
   | false=>exact Md.lstB (H:=Ha) I mx
  have h2:y=.int k:=by
   cases c with
   | true=>exact Md.intB (Md.CB (H:=Hb) I my)
   | false=>exact Md.intB (H:=Hb) my
  obtain ⟨a,xs,rfl,ha,ra⟩:=h1
  subst h2
  exact ⟨a,k,xs,rfl,rfl,ha,by omega,by omega,by rw [ra.length]; exact le_line hn.1,Out.chks I s (ra.rep _) o⟩
 ·rw [if_neg hn] at o; exact o.elim
end
end TP
set_option Elab.async false
set_option linter.all false
set_option maxRecDepth 100000
namespace TP
open PySem L2
def mC (w:W):Rho→R W:=fun _=>.ok w
def b1 (f:W→R W) (ma:Rho→R W):Rho→R W:=fun ρ=>ma ρ>>=fun x=>f x
def b2 (f:W→W→R W) (ma mb:Rho→R W):Rho→R W:=fun ρ=>ma ρ>>=fun x=>mb ρ>>=fun y=>f x y
def bA (f:List W→R W) (ma:Rho→R (List W)):Rho→R W:=fun ρ=>ma ρ>>=fun ws=>f ws
def bI (f:List W→R (List W)) (ma:Rho→R (List W)):Rho→R (List W):=fun ρ=>ma ρ>>=f
def bS (ma:Rho→R W):Rho→R (List W):=fun ρ=>ma ρ>>=seqW
def aN:Rho→R (List W):=fun _=>.ok []
def aC (ma:Rho→R W) (mr:Rho→R (List W)):Rho→R (List W):=fun ρ=>ma ρ>>=fun x=>mr ρ>>=fun xs=>.ok (x::xs)
def bChk (ma:Rho→R W):Rho→R W:=fun ρ=>ma ρ>>=chk
def bTest (ma:Rho→R W):Rho→R Bool:=fun ρ=>ma ρ>>=toB
def tAnd' (a b:Rho→R Bool):Rho→R Bool:=fun ρ=>rAnd (a ρ) (b ρ)
def tOr' (a b:Rho→R Bool):Rho→R Bool:=fun ρ=>rOr (a ρ) (b ρ)
def tNot' (a:Rho→R Bool):Rho→R Bool:=fun ρ=>rNot (a ρ)
def vAnd (a b:Rho→R W):Rho→R W:=fun ρ=>rAndV (a ρ) (b ρ)
def vOr (a b:Rho→R W):Rho→R W:=fun ρ=>rOrV (a ρ) (b ρ)
def vNot (a:Rho→R W):Rho→R W:=fun ρ=>rNotV (a ρ)
def vIf (c:Rho→R Bool) (a b:Rho→R W):Rho→R W:=fun ρ=>c ρ>>=fun t=>if t then a ρ else b ρ
def vChain (f f':W→W→R W) (ma mb mc:Rho→R W):Rho→R W:=fun ρ=>ma ρ>>=fun x=>mb ρ>>=fun y=>f x y>>=fun z=>toB z>>=fun c=>if c then mc ρ>>=fun u=>f' y u else .ok (.bl false)
def vTup (ma:Rho→R (List W)):Rho→R W:=fun ρ=>ma ρ>>=fun ws=>lim ws.length (.tup ws)
def vLst (ma:Rho→R (List W)):Rho→R W:=fun ρ=>ma ρ>>=fun ws=>lim ws.length (.lst ws)
def pN:Rho→R (Option Int):=fun _=>.ok none
def pS (m:Rho→R W):Rho→R (Option Int):=fun ρ=>m ρ>>=partW
def vSl (c:Bool) (m:Rho→R W) (ml mh:Rho→R (Option Int)):Rho→R W:=fun ρ=>m ρ>>=fun x=>ml ρ>>=fun l=>mh ρ>>=fun u=>toR (lstOf x)>>=fun ws=>chks c (cutW ws l u)
def vComp (n:Nat) (mi:Rho→R (List W)) (mg:W→Rho→Option Rho) (mc:Rho→R Bool) (me:Rho→R W):Rho→R W:=fun ρ=>mi ρ>>=fun ws=>mComp n mg mc me ws ρ
def yes:Rho→R Bool:=fun _=>.ok true
def sNx:Rho→R Fl:=fun ρ=>.ok (.nx ρ)
def sDrop (m:Rho→R W):Rho→R Fl:=fun ρ=>m ρ>>=fun _=>.ok (.nx ρ)
def sRet (m:Rho→R W):Rho→R Fl:=fun ρ=>m ρ>>=fun w=>.ok (.rt w)
def sRetN:Rho→R Fl:=fun _=>.ok (.rt .non)
def sV (i:Nat) (m:Rho→R W):Rho→R Fl:=fun ρ=>m ρ>>=fun w=>.ok (.nx (ρ.set i (.val w)))
def sU (i:Nat) (m:Rho→R W):Rho→R Fl:=fun ρ=>m ρ>>=fun w=>.ok (.nx (ρ.set i (.par w)))
def sF (i:Nat) (m:Rho→R W):Rho→R Fl:=fun ρ=>m ρ>>=fun w=>.ok (.nx (ρ.set i (slotF w)))
def sG (mg:W→Rho→Option Rho) (m:Rho→R W):Rho→R Fl:=fun ρ=>m ρ>>=fun w=>toR (mg w ρ)>>=fun ρ'=>.ok (.nx ρ')
def sFor (mi:Rho→R (List W)) (mg:W→Rho→Option Rho) (mb:Rho→R Fl):Rho→R Fl:=fun ρ=>mi ρ>>=fun ws=>mFor mg mb ws ρ
def sFrz (i:Nat) (m:Rho→R Fl):Rho→R Fl:=fun ρ=>m (frz i ρ)
def sNever:Rho→R Fl:=fun _=>.stuck
def sBk:Rho→R Fl:=fun ρ=>.ok (.bk ρ)
def sCt:Rho→R Fl:=fun ρ=>.ok (.ct ρ)
section
variable {X:Cx} {e:Expr} {es:List Expr} {st:Stmt} {sts:List Stmt}
theorem _root_.L2.PE.mono {t t':TE} (h:PE X e t) (hm:∀ σ H Q,t' σ H Q→t σ H Q):PE X e t':=fun pins s σ H Q I q=>h pins s σ H Q I (hm σ H Q q)
theorem _root_.L2.PT.mono {t t':TT} (h:PT X e t) (hm:∀ σ H Q,t' σ H Q→t σ H Q):PT X e t':=fun pins s σ H Q I q=>h pins s σ H Q I (hm σ H Q q)
theorem _root_.L2.PW.mono {t t':TT} (h:PW X e t) (hm:∀ σ H Q,t' σ H Q→t σ H Q):PW X e t':=fun wh pins s σ H Q I q=>h wh pins s σ H Q I (hm σ H Q q)
theorem _root_.L2.PA.mono {t t':TA} (h:PA X es t) (hm:∀ σ H Q,t' σ H Q→t σ H Q):PA X es t':=fun pos pins s σ H Q I q=>h pos pins s σ H Q I (hm σ H Q q)
theorem _root_.L2.PS.mono {t t':TS} (h:PS X st t) (hm:∀ D σ H,t' D σ H→t D σ H):PS X st t':=fun pins s σ H D I q=>h pins s σ H D I (hm D σ H q)
theorem _root_.L2.PSs.mono {t t':TS} (h:PSs X sts t) (hm:∀ D σ H,t' D σ H→t D σ H):PSs X sts t':=fun pins s σ H D I q=>h pins s σ H D I (hm D σ H q)
theorem _root_.L2.PI.mono {tg:Expr} {t t':TI} (h:PI X tg e t) (hm:∀ σ H Q,t' σ H Q→t σ H Q):PI X tg e t':=fun pins s σ H Q I q=>h pins s σ H Q I (hm σ H Q q)
theorem _root_.L2.PO.mono {oe:Option Expr} {t t':TO} (h:PO X oe t) (hm:∀ σ H Q,t' σ H Q→t σ H Q):PO X oe t':=by
 intro pins s σ H Q I q
 exact h pins s σ H Q I (hm σ H Q q)
end
section
variable {X:Cx} {K:PySem.W.Frag} {EX:EXT} {d b:Mode} {a c e:Expr} {es rest:List Expr} {pos:Pos} {ma mb mc:Rho→R W} {ta tb:Rho→R Bool} {mr:Rho→R (List W)}
theorem q_FV (h:PE X e (tM K EX .F ma)):PE X e (tM K EX .V ma):=h.mono fun _ _ _ q=>mode_FV q
theorem q_VU (h:PE X e (tM K EX .V ma)):PE X e (tM K EX .U ma):=h.mono fun _ _ _ q=>mode_VU q
theorem q_VC (h:PE X e (tM K EX .V ma)):PE X e (tM K EX .C ma):=h.mono fun _ _ _ q=>mode_VC q
theorem q_FC (h:PE X e (tM K EX .F ma)):PE X e (tM K EX .C ma):=h.mono fun _ _ _ q=>mode_FC q
theorem q_UB (h:PE X e (tM K EX .U ma)):PE X e (tM K EX .B ma):=h.mono fun _ _ _ q=>mode_UB q
theorem q_CB (h:PE X e (tM K EX .C ma)):PE X e (tM K EX .B ma):=h.mono fun _ _ _ q=>mode_CB q
theorem q_chkV (h:PE X e (tM K EX .U ma)):PE X e (tM K EX .V (bChk ma)):=h.mono fun _ _ _ q=>mode_chk (.inr rfl) q
theorem q_chkF (h:PE X e (tM K EX .U ma)):PE X e (tM K EX .F (bChk ma)):=h.mono fun _ _ _ q=>mode_chk (.inl rfl) q
theorem qv (d:Mode) (i:Nat) {x:Str} (hN:X.N[i]?=some x:=by rfl) (hv:Vis X.env.scope x:=by first | exact Or.inl rfl | exact Or.inr (Or.inl rfl) | exact Or.inr (Or.inr rfl)) (hd:(x == ("__debug__" : Str))=false:=by decide)
  (hcd:(x == ("__classdict__" : Str))=false:=by decide):PE X (.Name x pos) (tM K EX d (mVar d i)):=(pe_var hN hv hd hcd).mono fun _ _ _ q=>c_var q
theorem q_int {i j}:PE X (.Constant (.int i) j pos) (tM K EX d (mC (.int i))):=pe_int.mono fun _ _ _ q=>c_const rfl (fun _=>.int) q
theorem q_bl {t j}:PE X (.Constant (.bool t) j pos) (tM K EX d (mC (.bl t))):=pe_bl.mono fun _ _ _ q=>c_const rfl (fun _=>.bl) q
theorem q_non {j}:PE X (.Constant .none j pos) (tM K EX d (mC .non)):=pe_non.mono fun _ _ _ q=>c_const rfl (fun _=>.non) q
theorem q_str {x j}:PE X (.Constant (.str x) j pos) (tM K EX d (mC (.str x))):=pe_str.mono fun _ _ _ q=>c_const rfl (fun _=>.str) q
theorem q_op {op:Operator} {r:R2} {f:W→W→R W} (ho:OpR X (binaryOp op) r) (hr:Op2 K b d r f) (ha:PE X a (tM K EX b ma)) (hb:PE X c (tM K EX b mb)):PE X (.BinOp a op c pos) (tM K EX d (b2 f ma mb)):=
 (pe_op ho ha hb).mono fun _ _ _ q=>c_op hr q
theorem q_cmp {op:CmpOp} {r:R2} {f:W→W→R W} (ho:OpR X (compareOp op) r) (hr:Op2 K b d r f) (ha:PE X a (tM K EX b ma)) (hb:PE X c (tM K EX b mb)) (hm:behindInMarks op c=false:=by first | exact nomark _ | rfl):PE X (.Compare a [op] [c] pos) (tM K EX d (b2 f ma mb)):=
 (pe_cmpR ho ha hb hm).mono fun _ _ _ q=>c_op hr q
theorem q_tcmp {op:CmpOp} {r:R2} {f:W→W→R W} (ho:OpR X (compareOp op) r) (hr:Op2 K b .B r f) (ha:PE X a (tM K EX b ma)) (hb:PE X c (tM K EX b mb)) (hm:behindInMarks op c=false:=by first | exact nomark _ | rfl):PT X (.Compare a [op] [c] pos) (tT K EX (bTest (b2 f ma mb))):=
 (pt_cmpR ho ha hb hm).mono fun σ H Q q=>by
  obtain ⟨H0,G,ρ,I,o⟩:=q
  have:=c_test (ma:=b2 f ma mb) ⟨H0,G,ρ,I,o⟩
  exact c_op hr this
theorem q_un {op:UnaryOp} {r:V→Hp→VK→Prop} {f:W→R W} (ho:UnR X (unaryOp op) r) (hr:Op1 K b d r f) (ha:PE X a (tM K EX b ma)):PE X (.UnaryOp op a pos) (tM K EX d (b1 f ma)):=
 (pe_un ho ha).mono fun _ _ _ q=>c_un hr q
theorem q_val (ha:PE X a (tM K EX .B ma)) (he:∀ whole,isTrue a X.env whole=(do let v ← whole; standAt a.pos; holding [v] (truthy v)):=by intro _; rfl):PT X a (tT K EX (bTest ma)):=
 (pt_val ha he).mono fun _ _ _ q=>c_tB q
theorem q_tand1 (ha:PT X a (tT K EX ta)):PW X (.BoolOp .And [a] pos) (tT K EX ta):=pw_and1 ha
theorem q_tor1 (ha:PT X a (tT K EX ta)):PW X (.BoolOp .Or [a] pos) (tT K EX ta):=pw_or1 ha
theorem q_tand {b:Expr} (ha:PT X a (tT K EX ta)) (hb:PW X (.BoolOp .And (b::rest) pos) (tT K EX tb)):PW X (.BoolOp .And (a::b::rest) pos) (tT K EX (tAnd' ta tb)):=(pw_and ha hb).mono fun _ _ _ q=>c_and q
theorem q_tor {b:Expr} (ha:PT X a (tT K EX ta)) (hb:PW X (.BoolOp .Or (b::rest) pos) (tT K EX tb)):PW X (.BoolOp .Or (a::b::rest) pos) (tT K EX (tOr' ta tb)):=(pw_or ha hb).mono fun _ _ _ q=>c_or q
theorem q_tnot (ha:PT X a (tT K EX ta)):PT X (.UnaryOp .Not a pos) (tT K EX (tNot' ta)):=(pt_not ha).mono fun _ _ _ q=>c_not q
theorem q_anil:PA X [] (tA K EX d aN):=pa_nil.mono fun _ _ _ q=>c_nil q
theorem q_acons (ha:PE X e (tM K EX d ma)) (hr:PA X es (tA K EX d mr)) (hs:starEach (e::es) X.env=(false,eval e X.env)::starEach es X.env:=by rfl):PA X (e::es) (tA K EX d (aC ma mr)):=(pa_cons ha hr hs).mono fun _ _ _ q=>c_cons q
theorem q_tup {x1} (h:PA X es (tA K EX .V mr)):PE X (.Tuple es x1 pos) (tM K EX .F (vTup mr)):=(pe_tup h).mono fun _ _ _ q=>c_tup q
theorem q_tupU {x1} (h:PA X es (tA K EX .U mr)):PE X (.Tuple es x1 pos) (tM K EX .U (vTup mr)):=(pe_tup h).mono fun _ _ _ q=>c_tupU q
theorem q_lst (h:PA X es (tA K EX .V mr)):PE X (.List es pos) (tM K EX .F (vLst mr)):=(pe_lst h).mono fun _ _ _ q=>c_lst q
theorem q_ixU (ha:PE X a (tM K EX .B ma)) (hb:PE X c (tM K EX .B mb)) (hs:PlainIx c:=by exact fun _ _=>rfl) (hK:X.K=K:=by rfl):PE X (.Subscript a c pos) (tM K EX .U (b2 fIx ma mb)):=by
 subst hK; exact (pe_ix ix_seq ha hb hs).mono fun _ _ _ q=>c_op o2_ixU q
theorem q_ixV (ha:PE X a (tM K EX .C ma)) (hb:PE X c (tM K EX .C mb)) (hs:PlainIx c:=by exact fun _ _=>rfl) (hK:X.K=K:=by rfl):PE X (.Subscript a c pos) (tM K EX .V (b2 fIx ma mb)):=by
 subst hK; exact (pe_ix ix_seq ha hb hs).mono fun _ _ _ q=>c_op o2_ixV q
theorem q_pN:PO X none (tOp_ K EX pN):=po_none.mono fun _ _ _ q=>c_noPart q
theorem q_pS (h:PE X e (tM K EX .B ma)):PO X (some e) (tOp_ K EX (pS ma)):=(po_some h).mono fun _ _ _ q=>c_part q
theorem q_sl (k:Bool) {lo hi:Option Expr} {p2:Pos} {ml mh:Rho→R (Option Int)} (he:PE X e (tM K EX (cb k) ma)) (hl:PO X lo (tOp_ K EX ml)) (hu:PO X hi (tOp_ K EX mh)) (hK:X.K=K:=by rfl):PE X (.Subscript e (.Slice lo hi none p2) pos) (tM K EX .F (vSl k ma ml mh)):=by
 subst hK; exact (pe_slice sl_list he hl hu).mono fun _ _ _ q=>c_sl q
theorem q_cb {x:Str} {id:String} {r:List V→Hp→VK→Prop} {f:List W→R W} {p:Pos} (hc:CallR X (.builtin id) r) (hr:Cal K b d r f) (hg:Gl X x) (hm:X.mg x=none) (hv:bootBuiltins x=some (.builtin id)) (ha:PA X (e::es) (tA K EX b mr))
  (hn:x ≠ "__name__" := by decide) (hdb:(x == ("__debug__" : Str))=false:=by decide) (he:starEach (e::es) X.env=(false,eval e X.env)::starEach es X.env:=by rfl) (hpl:(backTo pos (starEach es X.env)).any (·.1)=false:=by rfl) :
  PE X (.Call (.Name x p) (e::es) [] pos) (tM K EX d (bA f mr)):=(pe_callB hc hg hm hv ha hn hdb he hpl).mono fun _ _ _ q=>c_cb hr q
theorem q_ct {x:Str} {T:String} {r:List V→Hp→VK→Prop} {f:List W→R W} {p:Pos} (hc:CallR X (.type T) r) (hr:Cal K b d r f) (hg:Gl X x) (hm:X.mg x=none) (hv:bootBuiltins x=some (.type T)) (ha:PA X (e::es) (tA K EX b mr))
  (hn:x ≠ "__name__" := by decide) (hdb:(x == ("__debug__" : Str))=false:=by decide) (he:starEach (e::es) X.env=(false,eval e X.env)::starEach es X.env:=by rfl) (hpl:(backTo pos (starEach es X.env)).any (·.1)=false:=by rfl) :
  PE X (.Call (.Name x p) (e::es) [] pos) (tM K EX d (bA f mr)):=(pe_callTy hc hg hm hv ha hn hdb he hpl).mono fun _ _ _ q=>c_cb hr q
theorem K_len (hK:X.K=K:=by rfl):CallR X (.builtin "len") (fun xs H Q=>∃ p ys,xs = [.ref p]∧(SqL K H p ys∨SqT K H p ys)∧Q (.int ys.length) H):=by subst hK; exact call_len_seq
theorem K_list (hK:X.K=K:=by rfl):CallR X (.type "list") (fun xs H Q=>∃ p ys,xs = [.ref p]∧(SqL K H p ys∨SqT K H p ys)∧∀ l,H l=none→Q (.ref l) (upd H l (.lst ys))):=by subst hK; exact call_list_of
theorem K_tup (hK:X.K=K:=by rfl):CallR X (.type "tuple") (fun xs H Q=>∃ p ys,xs = [.ref p]∧((SqL K H p ys∧∀ l,H l=none→Q (.ref l) (upd H l (.tup ys)))∨(SqT K H p ys∧Q (.ref p) H))):=by subst hK; exact call_tuple_of
theorem q_call {k:Nat} {f:Addr} {fd:FuncData} {ps:List Str} {x:Str} {p:Pos} {n N:Nat} {m:Rho→R Fl} (F:FnOk X.prog X.w X.K X.mg X.base CX0 k f fd ps (spM K n d (runB n N m))) (hd:d=.F∨d=.V) (hr:Room k X.A) (hg:Gl X x) (hm:X.mg x=some (.ref f)) (hk:PySem.W.keepIn X.K (.ref f)=true) (hb:Binds X.K fd ps [])
  (ha:PA X (e::es) (tA K (fun _ _=>False) .B mr)) (hdb:(x == ("__debug__" : Str))=false:=by decide) (he:starEach (e::es) X.env=(false,eval e X.env)::starEach es X.env:=by rfl) (hpl:(backTo pos (starEach es X.env)).any (·.1)=false:=by rfl) :
  PE X (.Call (.Name x p) (e::es) [] pos) (tM K (fun _ _=>False) d (bA (runB n N m) mr)):=
 (pe_call F hr hg hm hk hb .nil pass0 ha hdb he hpl).mono fun _ _ _ q=>c_call hd (fun ws h=>runB_len ws h) (fun _ _ z=>z) q
variable {tg:Expr} {lp:Bool}
theorem q_iSq (h:PE X e (tM K EX (srcM lp .U) ma)) (hK:X.K=K:=by rfl):PI X tg e (tIt K EX lp .U (bS ma)):=by subst hK; exact (pi_sq h).mono fun _ _ _ q=>c_iSq (.inr rfl) q
theorem q_rng1 {p:Pos} (hg:Gl X "range") (hm:X.mg "range" = none) (ha:PA X [a] (tA K EX .B mr)) (hs:starEach [a] X.env = [(false,eval a X.env)]:=by rfl):PI X tg (.Call (.Name "range" p) [a] [] pos) (tIt K EX lp .U (bI rng1 mr)):=
 (pi_range1 hg hm ha hs).mono fun _ _ _ q=>c_rng1 (.inr rfl) q
theorem q_zip {elts:List Expr} {p tp:Pos} {k:Nat} (hg:Gl X "zip") (hm:X.mg "zip" = none) (ha:PA X (a::es) (tA K EX (srcM lp .U) mr)) (hK:X.K=K:=by rfl) (hs:starEach (a::es) X.env=(false,eval a X.env)::starEach es X.env:=by rfl) (hpl:(backTo pos (starEach es X.env)).any (·.1)=false:=by rfl) :
  PI X (.Tuple elts k tp) (.Call (.Name "zip" p) (a::es) [] pos) (tIt K EX lp .U (bI zipR mr)):=by subst hK; exact (pi_zip hg hm ha hs hpl).mono fun _ _ _ q=>c_zip (.inr rfl) q
end
section
variable {X:Cx} {K:PySem.W.Frag} {EX:EXT} {d b:Mode} {e:Expr} {st:Stmt} {sts:List Stmt} {pos:Pos} {ma mb:Rho→R W} {ta:Rho→R Bool} {m n:Rho→R Fl}
theorem q_comp {cs:Scope} {N':List Str} {tg iter elt:Expr} {ifs:List Expr} {dd:Mode} {g:TG} {mg:W→Rho→Option Rho} {mi:Rho→R (List W)} (S:CompScope X.env.scope cs X.N N') (hc:X.calm=true) (hi:PI X tg iter (tIt K EX false dd mi))
  (hg:∀ cl ex s H,PG (cxComp X cs cl N' ex s H) tg g) (hgt:Gt K dd g mg) (hk:GKeep X.N.length g) (ht:∀ cl ex s H,PIf (cxComp X cs cl N' ex s H) ifs (tT K EX ta)) (he:∀ cl ex s H,PE (cxComp X cs cl N' ex s H) elt (tM K EX .V ma))
  (hs:∀ x,foldedSetIterable iter X.env x=pure x:=by intro _; rfl):PE X (.ListComp elt [⟨tg,iter,ifs,0⟩] cs pos) (tM K EX .F (vComp N'.length mi mg ta ma)):=
 (pe_comp S hc hi hg hk ht he hs).mono fun _ _ _ q=>c_comp hgt q
theorem q_setc {i:Nat} {y:Str} {py:Pos} {cs:Scope} {N':List Str} {tg iter elt:Expr} {ifs:List Expr} {dd:Mode} {g:TG} {mg:W→Rho→Option Rho} {mi:Rho→R (List W)} {cpos:Pos} (S:CompScope X.env.scope cs X.N N') (hc:X.calm=true) (hi:PI X tg iter (tIt K EX false dd mi))
  (hg:∀ cl ex s H,PG (cxComp X cs cl N' ex s H) tg g) (hgt:Gt K dd g mg) (hk:GKeep X.N.length g) (ht:∀ cl ex s H,PIf (cxComp X cs cl N' ex s H) ifs (tT K EX ta)) (he:∀ cl ex s H,PE (cxComp X cs cl N' ex s H) elt (tM K EX .V ma))
  (hN:X.N.Nodup) (hy:X.N[i]?=some y) (hl:Loc X.env.scope y)
  (hsw:swapsWith (.ListComp elt [⟨tg,iter,ifs,0⟩] cs cpos) (some (.Name y py)) pos.line X.env=pure true:=by rfl) (hf:X.fn y=true∨X.env.scope.names.lookup y=some .local:=by first | exact .inl rfl | exact .inr rfl | assumption)
  (hs:∀ x,foldedSetIterable iter X.env x=pure x:=by intro _; rfl):PS X (.Assign [.Name y py] (.ListComp elt [⟨tg,iter,ifs,0⟩] cs cpos) pos) (tSt K EX d (sF i (vComp N'.length mi mg ta ma))):=
 (ps_setc S hc hi hg hk ht he hN hy hl hsw hf hs).mono fun D σ H q=>by
  have:=c_setF (m:=vComp N'.length mi mg ta ma) q
  exact c_comp hgt this
theorem q_pifN:PIf X [] (tT K EX yes):=fun pins s σ H Q I q=>pif_nil pins s σ H Q I (by obtain ⟨H0,G,ρ,I0,o⟩:=q; exact o true G H (Ext.refl I0.gh) rfl)
theorem q_pif1 {c:Expr} (h:PT X c (tT K EX ta)):PIf X [c] (tT K EX ta):=pif_one h
theorem q_nil:PSs X [] (tSt K EX d sNx):=pss_nil.mono fun _ _ _ q=>c_next q
theorem q_cons (h1:PS X st (tSt K EX d m)) (h2:PSs X sts (tSt K EX d n)):PSs X (st::sts) (tSt K EX d (mSeq m n)):=(pss_cons h1 h2).mono fun _ _ _ q=>c_seq q
theorem q_last (h1:PS X st (tSt K EX d m)):PSs X [st] (tSt K EX d m):=pss_one h1
theorem q_frz {i:Nat} (h:PS X st (tSt K EX d m)):PS X st (tSt K EX d (sFrz i m)):=h.mono fun _ _ _ q=>c_frz q
theorem q_never:PS X st (tSt K EX d sNever):=ps_never.mono fun _ _ _ q=>c_never q
theorem q_ret (he:PE X e (tM K EX d ma)):PS X (.Return (some e) pos) (tSt K EX d (sRet ma)):=(ps_ret he).mono fun _ _ _ q=>c_ret q
theorem q_retv (i:Nat) {x:Str} {p:Pos} (hd:d=.F∨d=.V) (hN:X.N[i]?=some x:=by rfl) (hv:Vis X.env.scope x:=by first | exact Or.inl rfl | exact Or.inr (Or.inl rfl) | exact Or.inr (Or.inr rfl)) (hdd:(x == ("__debug__" : Str))=false:=by decide)
  (hcd:(x == ("__classdict__" : Str))=false:=by decide):PS X (.Return (some (.Name x p)) pos) (tSt K EX d (mRetVar d i)):=(ps_ret (pe_var hN hv hdd hcd)).mono fun _ _ _ q=>c_retVar hd q
theorem q_setV {i:Nat} {x:Str} {pos':Pos} (hN:X.N.Nodup) (hi:X.N[i]?=some x) (hx:Loc X.env.scope x) (he:PE X e (tM K EX .V ma)) (hs:swapsWith e (some (.Name x pos')) pos.line X.env=pure false:=by rfl) (hf:X.fn x=true∨X.env.scope.names.lookup x=some .local:=by first | exact .inl rfl | exact .inr rfl | assumption) :
  PS X (.Assign [.Name x pos'] e pos) (tSt K EX d (sV i ma)):=(ps_set hN hi hx he hs hf).mono fun _ _ _ q=>c_setV q
theorem q_setF {i:Nat} {x:Str} {pos':Pos} (hN:X.N.Nodup) (hi:X.N[i]?=some x) (hx:Loc X.env.scope x) (he:PE X e (tM K EX .F ma)) (hs:swapsWith e (some (.Name x pos')) pos.line X.env=pure false:=by rfl) (hf:X.fn x=true∨X.env.scope.names.lookup x=some .local:=by first | exact .inl rfl | exact .inr rfl | assumption) :
  PS X (.Assign [.Name x pos'] e pos) (tSt K EX d (sF i ma)):=(ps_set hN hi hx he hs hf).mono fun _ _ _ q=>c_setF q
theorem q_app {i:Nat} {x:Str} {p apos cpos:Pos} (hN:X.N[i]?=some x) (hv:Vis X.env.scope x) (ha:PE X e (tM K EX .V ma)) (hd:(x == ("__debug__" : Str))=false:=by decide) (hcd:(x == ("__classdict__" : Str))=false:=by decide)
  (hbase:attributeBase (.Name x p) "append" X.env (eval (.Name x p) X.env)=eval (.Name x p) X.env:=by rfl)
  (hfew:((backTo cpos (starEach [e] X.env)).all (fun x=>!x.1)&&(backToKw cpos (keywordEach [] X.env)).all (fun x=>x.1.isSome)
   && decide (([e]:List Expr).length+([]:List Keyword).length+(if ([]:List Keyword).isEmpty then 0 else 1)<30))=true:=by rfl)
  (hline:(apos.endLine == cpos.line)=true:=by rfl) (hs:starEach [e] X.env=(false,eval e X.env)::starEach [] X.env:=by rfl) (hsw:swapsWith (.Call (.Attribute (.Name x p) "append" apos) [e] [] cpos) none pos.line X.env=pure false:=by rfl) :
  PS X (.Expr (.Call (.Attribute (.Name x p) "append" apos) [e] [] cpos) pos) (tSt K EX d (mApp i ma)):=(ps_expr (pe_append (pe_var hN hv hd hcd) ha hbase hfew hline hs) hsw).mono fun _ _ _ q=>c_app q
theorem q_if_ {c:Expr} {x y:List Stmt} (hc:PT X c (tT K EX ta)) (ha:PSs X x (tSt K EX d m)) (hb:PSs X y (tSt K EX d n)):PS X (.If c x y pos) (tSt K EX d (mIf ta m n)):=(ps_if hc ha hb).mono fun _ _ _ q=>c_ifS q
theorem q_while {c:Expr} {body:List Stmt} (hp:PassesOwn (model X.prog X.w) X.A X.env X.xe) (hc:PT X c (tT K EX ta)) (hb:PSs X body (tSt K EX d m)):PS X (.While c body [] pos) (tSt K EX d (mWhile ta m)):=(ps_while hp hc hb).mono fun _ _ _ q=>c_while q
theorem q_for {tg iter:Expr} {body:List Stmt} {dd:Mode} {g:TG} {mg:W→Rho→Option Rho} {mi:Rho→R (List W)} (hp:PassesOwn (model X.prog X.w) X.A X.env X.xe) (hc:X.calm=true) (hi:PI X tg iter (tIt K EX true dd mi)) (hg:PG X tg g) (hgt:Gt K dd g mg) (hb:PSs X body (tSt K EX d m))
  (hs:∀ x,foldedSetIterable iter X.env x=pure x:=by intro _; rfl):PS X (.For tg iter body [] pos) (tSt K EX d (sFor mi mg m)):=(ps_for hp hc hi hg hb hs).mono fun _ _ _ q=>c_for hgt q
theorem q_set {i:Nat} {x:Str} {k:Expr} {p p2:Pos} (hN:X.N[i]?=some x) (hv:Vis X.env.scope x) (hk:PE X k (tM K EX .B mb)) (he:PE X e (tM K EX .V ma)) (hd:(x == ("__debug__" : Str))=false:=by decide) (hcd:(x == ("__classdict__" : Str))=false:=by decide)
  (hg:PG X (.Subscript (.Name x p) k p2) (gSub (tVar i) (tM K EX .B mb) rSetL))
  (hs:swapsWithSole [.Subscript (.Name x p) k p2] e pos.line X.env=pure false:=by rfl) (hw:swappedStores [.Subscript (.Name x p) k p2] e X.env=pure none:=by rfl):PS X (.Assign [.Subscript (.Name x p) k p2] e pos) (tSt K EX d (mSet i mb ma)):=
 (ps_asg he hg hs hw).mono fun _ _ _ q=>c_set q
end
end TP
namespace TP
open PySem L2
abbrev gLt (i j:Int):W:=.bl (decide (i<j))
abbrev gLe (i j:Int):W:=.bl (decide (i≤j))
abbrev gGt (i j:Int):W:=.bl (decide (j<i))
abbrev gGe (i j:Int):W:=.bl (decide (j≤i))
abbrev gAdd (i j:Int):W:=.int (i+j)
abbrev gSub (i j:Int):W:=.int (i-j)
abbrev gMul (i j:Int):W:=.int (i*j)
abbrev gMod (i j:Int):W:=.int (i%j)
abbrev gDiv (i j:Int):W:=.int (i/j)
abbrev gPow (i j:Int):W:=.int (i^j.toNat)
abbrev gNeg (i:Int):W:=.int (-i)
abbrev gMax (i j:Int):Int:=if j>i then j else i
abbrev gMin (i j:Int):Int:=if j<i then j else i
abbrev gAdd_ (i j:Int):Int:=i+j
abbrev gSub_ (i j:Int):Int:=i-j
abbrev cMod (_ j:Int):Prop:=0<j
instance (i j:Int):Decidable (CMul i j):=by unfold CMul; infer_instance
instance (i j:Int):Decidable (CDiv i j):=by unfold CDiv; infer_instance
instance (i j:Int):Decidable (CPow i j):=by unfold CPow; infer_instance
instance (i j:Int):Decidable (CPowB i j):=by unfold CPowB; infer_instance
def vOf:W→Option V
 | .non=>some .non
 | .bl b=>some (.bl b)
 | .int i=>some (.int i)
 | .str x=>some (.str x)
 | _=>none
def eqSc (u v:W):Option Bool:=match vOf u,vOf v with
 | some x,some y=>if scal x y then some (decide (x=y)) else none
 | _,_=>none
def fEqS (neg:Bool) (u v:W):R W:=match eqSc u v with
 | some b=>.ok (.bl (if neg then !b else b))
 | none=>.stuck
section
variable {K:PySem.W.Frag} {H0 G H:Hp} {ρ:Rho} {σ:St} {d:Mode}
theorem vOf_B {Ha:Hp} {v:V} {w:W} {x:V} (h:Md K H0 Ha G H v w .B) (e:vOf w=some x):v=x:=by
 cases w <;> first | cases e | skip
 ·exact h.nonB
 ·exact h.blB
 ·exact h.intB
 ·exact h.strB
theorem o2_eqS:Op2 K .B d rEq (fEqS false):=by
 intro EX H0 Hs G H ρ σ Ha Hb x y u v Q I s mx my o
 unfold fEqS eqSc at o
 cases hu:vOf u with
 | none=>rw [hu] at o; exact o.elim
 | some p=>
  cases hv:vOf v with
  | none=>rw [hu,hv] at o; exact o.elim
  | some q=>
   rw [hu,hv] at o
   cases vOf_B mx hu
   cases vOf_B my hv
   dsimp only at o
   by_cases c:scal x y=true
   ·rw [if_pos c] at o
    exact ⟨c,o _ G H (Ext.refl I.gh) (Md.sca rfl (fun _=>.bl) d)⟩
   ·rw [if_neg c] at o; exact o.elim
end
theorem law_of {P:Program} {w:World} {K:PySem.W.Frag} {mg:Str→Option Value} {base:Heap} {k:Nat} {f:Addr} {fd:FuncData} {ps:List Str} {d:Mode} {F:List W→R W} (G:FnOk P w K mg base CX0 k f fd ps (spM K 1 d F))
  (h:∀ ns:List Int,ns.length≤63→F [.scr (ns.map W.int)]=.ok (.bl true)):FnOk P w K mg base CX0 k f fd ps (fun vs H Q _=>∃ (a:Addr) (ns:List Int),vs = [.ref a]∧SqL K H a (ns.map V.int)∧ns.length≤63∧∀ H',Q (.bl true) H'):=
 G.imp fun vs H Q E ⟨a,ns,e,hs,hl,q⟩=>by
  subst e
  refine ⟨rfl,[.scr (ns.map W.int)],.cons (.scr hs ?_) .nil,?_⟩
  ·clear hs hl
   induction ns with
   | nil=>exact .nil
   | cons n ns ih=>exact .cons .int ih
  ·rw [h ns hl]
   intro v G' H' _ _ _ m
   have e:v=.bl true:=by
    cases d <;> first | (cases m; rfl) | (rcases m with m | ⟨_,_,_,_,z,_⟩ <;> first | (cases m; rfl) | cases z)
   subst e
   exact q H'
end TP
set_option Elab.async false
set_option linter.all false
set_option maxRecDepth 100000
namespace TP
open PySem L2
mutual
def pd:W→PyData
 | .non=>.none
 | .bl b=>.bool b
 | .int i=>.int i
 | .str x=>.str x
 | .ty _=>.none
 | .exc _ _=>.none
 | .cls _=>.none
 | .tup ws=>.tuple (pds ws)
 | .lst ws=>.list (pds ws)
 | .scr ws=>.list (pds ws)
def pds:List W→List PyData
 | []=>[]
 | w::ws=>pd w::pds ws
end
mutual
def shp:Nat→W→Bool
 | _,.non=>true
 | _,.bl _=>true
 | _,.int _=>true
 | _,.str x=>PyData.strOk x
 | n+1,.tup ws=>shps n ws
 | n+1,.lst ws=>shps n ws
 | n+1,.scr ws=>shps n ws
 | _,_=>false
def shps:Nat→List W→Bool
 | _,[]=>true
 | n,w::ws=>shp n w&&shps n ws
end
mutual
theorem shp_ok:∀ (w:W) (n:Nat),shp n w=true→(pd w).canLay0=true∧(pd w).depth≤n
 | .non,n,_=>⟨rfl,Nat.zero_le _⟩
 | .bl _,n,_=>⟨rfl,Nat.zero_le _⟩
 | .int _,n,_=>⟨rfl,Nat.zero_le _⟩
 | .str x,n,h=>⟨by cases n <;> simpa [pd,PyData.canLay0,shp] using h,Nat.zero_le _⟩
 | .ty _,n,h=>by cases n <;> simp [shp] at h
 | .exc _ _,n,h=>by cases n <;> simp [shp] at h
 | .cls _,n,h=>by cases n <;> simp [shp] at h
 | .tup ws,0,h=>by simp [shp] at h
 | .lst ws,0,h=>by simp [shp] at h
 | .scr ws,0,h=>by simp [shp] at h
 | .tup ws,n+1,h=>by
  have:=shps_ok ws n (by simpa [shp] using h)
  exact ⟨by simpa [pd,PyData.canLay0] using this.1,by simpa [pd,PyData.depth] using this.2⟩
 | .lst ws,n+1,h=>by
  have:=shps_ok ws n (by simpa [shp] using h)
  exact ⟨by simpa [pd,PyData.canLay0] using this.1,by simpa [pd,PyData.depth] using this.2⟩
 | .scr ws,n+1,h=>by
  have:=shps_ok ws n (by simpa [shp] using h)
  exact ⟨by simpa [pd,PyData.canLay0] using this.1,by simpa [pd,PyData.depth] using this.2⟩
theorem shps_ok:∀ (ws:List W) (n:Nat),shps n ws=true→PyData.canLayAll0 (pds ws)=true∧PyData.depthAll (pds ws)≤n
 | [],n,_=>⟨rfl,Nat.zero_le _⟩
 | w::ws,n,h=>by
  have h':shp n w=true∧shps n ws=true:=by simpa [shps] using h
  have a:=shp_ok w n h'.1
  have b:=shps_ok ws n h'.2
  exact ⟨by simp [pds,PyData.canLayAll0,a.1,b.1],by simp only [pds,PyData.depthAll]; exact Nat.max_le.mpr ⟨a.2,b.2⟩⟩
end
section
variable {X:Cx} {pins:List (Addr×Obj)} {σ:St} {H:Hp} {s:Shared}
mutual
theorem Rep.reads (I:Inv X pins σ H s):∀ {x:V} {w:W} {u:Value} (n:Nat),Rep X.K H x w→shp n w=true→RelV x u→∃ as,Reads s.heap u (pd w) as
 | _,_,_,_,.non,_,r=>by cases r; exact ⟨_,.none⟩
 | _,_,_,_,.bl,_,r=>by cases r; exact ⟨_,.bool _⟩
 | _,_,_,_,.int,_,r=>by obtain ⟨t,rfl⟩:=r; exact ⟨_,.int _ _⟩
 | _,_,_,_,.str,_,r=>by obtain ⟨t,rfl⟩:=r; exact ⟨_,.str _ _⟩
 | _,_,_,n,.ty,h,_=>by cases n <;> simp [shp] at h
 | _,_,_,n,.exc _ _ _ _ _,h,_=>by cases n <;> simp [shp] at h
 | _,_,_,n,.cls _,h,_=>by cases n <;> simp [shp] at h
 | _,_,_,0,.tup _ _,h,_=>by simp [shp] at h
 | _,_,_,0,.lst _ _,h,_=>by simp [shp] at h
 | _,_,_,0,.scr _ _,h,_=>by simp [shp] at h
 | _,_,_,n+1,.tup ha hr,h,r=>by
  cases r
  obtain ⟨its,rv,⟨o,e,c,k,dd⟩,_⟩:=I.tuple (SqT.of ha)
  obtain ⟨as,q⟩:=Reps.reads I n hr (by simpa [shp] using h) rv
  exact ⟨_,.tuple e c dd (by simpa using q)⟩
 | _,_,_,n+1,.lst ha hr,h,r=>by
  cases r
  obtain ⟨its,rv,pl,_⟩:=I.list (SqL.of ha)
  obtain ⟨o,e,c,k,dd⟩:=pl.isList
  obtain ⟨as,q⟩:=Reps.reads I n hr (by simpa [shp] using h) rv
  exact ⟨_,.list e c dd (by simpa using q)⟩
 | _,_,_,n+1,.scr ha hr,h,r=>by
  cases r
  obtain ⟨its,rv,pl,_⟩:=I.list ha
  obtain ⟨o,e,c,k,dd⟩:=pl.isList
  obtain ⟨as,q⟩:=Reps.reads I n hr (by simpa [shp] using h) rv
  exact ⟨_,.list e c dd (by simpa using q)⟩
theorem Reps.reads (I:Inv X pins σ H s):∀ {xs:List V} {ws:List W} {us:List Value} (n:Nat),Reps X.K H xs ws→shps n ws=true→Vals xs us→∃ as,ReadsAll s.heap us (pds ws) as
 | _,_,_,_,.nil,_,.nil=>⟨_,.nil⟩
 | _,_,_,n,.cons (w:=w) (ws:=ws) h1 h2,h,.cons r1 r2=>by
  have h':shp n w=true∧shps n ws=true:=by simpa [shps] using h
  obtain ⟨as,q1⟩:=Rep.reads I n h1 h'.1 r1
  obtain ⟨bs,q2⟩:=Reps.reads I n h2 h'.2 r2
  exact ⟨_,.cons q1 q2⟩
end
def eqW (u v:W):Bool:=PyData.eqv (pd u) (pd v)
def rEqD (K:PySem.W.Frag) (neg:Bool):R2:=fun x y H Q=>∃ u v,Rep K H x u∧Rep K H y v∧shp 8 u=true∧shp 8 v=true∧Q (.bl (if neg then !eqW u v else eqW u v)) H
theorem shaped_of {w:W} (h:shp 8 w=true):SeqAt.shaped (pd w)=true:=by
 obtain ⟨a,b⟩:=shp_ok w 8 h
 unfold SeqAt.shaped
 rw [a,Bool.true_and]
 exact decide_eq_true (Nat.le_trans b (by decide))
theorem op_eqD (hu:X.A.units+64<cLine):OpR X (compareOp .Eq) (rEqD X.K false):=by
 intro pins s σ H x y v u Q I rx ry h
 obtain ⟨a,b,ra,rb,sa,sb,q⟩:=h
 obtain ⟨as,qa⟩:=Rep.reads I 8 ra sa rx
 obtain ⟨bs,qb⟩:=Rep.reads I 8 rb sb ry
 exact PyProof.Rows.eq_dataH qa qb (shaped_of sa) (shaped_of sb) hu ⟨.bl (eqW a b),H,I,rfl,q⟩
theorem op_neD (hu:X.A.units+64<cLine):OpR X (compareOp .NotEq) (rEqD X.K true):=by
 intro pins s σ H x y v u Q I rx ry h
 obtain ⟨a,b,ra,rb,sa,sb,q⟩:=h
 obtain ⟨as,qa⟩:=Rep.reads I 8 ra sa rx
 obtain ⟨bs,qb⟩:=Rep.reads I 8 rb sb ry
 exact PyProof.Rows.ne_dataH qa qb (shaped_of sa) (shaped_of sb) hu ⟨.bl (!eqW a b),H,I,rfl,q⟩
def fEq (neg:Bool) (u v:W):R W:=if shp 8 u&&shp 8 v then .ok (.bl (if neg then !eqW u v else eqW u v)) else .stuck
theorem o2_eqD {K:PySem.W.Frag} {d:Mode} {neg:Bool}:Op2 K .B d (rEqD K neg) (fEq neg):=by
 intro EX H0 Hs G H ρ σ Ha Hb x y u v Q I s mx my o
 unfold fEq at o
 by_cases c:(shp 8 u&&shp 8 v)=true
 ·rw [if_pos c] at o
  have c':shp 8 u=true∧shp 8 v=true:=by simpa using c
  exact ⟨u,v,mx.whole I,my.whole I,c'.1,c'.2,o _ G H (Ext.refl I.gh) (Md.sca rfl (fun _=>.bl) d)⟩
 ·rw [if_neg c] at o; exact o.elim
def isBW:W→Bool→Bool
 | .bl a,b=>a == b
 | _,_=>false
def fIsB (neg:Bool):W→W→R W
 | u,.bl b=>.ok (.bl (if neg then !isBW u b else isBW u b))
 | _,_=>.stuck
end
theorem hu64 {A:Around} {k:Nat} (hr:Room k A):A.units+64<cLine:=hr.units
end TP
set_option Elab.async false
set_option linter.all false
set_option maxRecDepth 100000
namespace TP
open PySem L2
section
variable {X:Cx} {pins:List (Addr×Obj)} {σ:St} {H:Hp} {s:Shared}
theorem vals_one {x:V} {us:List Value} (r:Vals [x] us):∃ u,us = [u]∧RelV x u:=by
 cases r with
 | cons a t=>cases t; exact ⟨_,rfl,a⟩
theorem keep_push {h':Heap} {o:Obj} (hk:∀ b u,b ∉ [s.heap.objs.size]→(s.heap.push o).get? b=some u→h'.get? b=some u):∀ b u,s.heap.get? b=some u→h'.get? b=some u:=fun b u e=>
 hk b u (by simp; exact Nat.ne_of_lt (Heap.lt_size e)) (Heap.get?_push_of_some _ e)
theorem val_at {α:Type} {f:α→V} {g:α→Value→Prop} (hg:∀ a u,RelV (f a) u→g a u) {as:List α} {its:List Value} (r:Vals (as.map f) its) {i:Nat} {v:Value} (h:its.toArray[i]?=some v):∃ a,as[i]?=some a∧g a v:=by
 have h':its[i]?=some v:=by simpa using h
 induction as generalizing its i with
 | nil=>cases r; simp at h'
 | cons a as ih=>
  cases r with
  | cons q t=>
   cases i with
   | zero=>simp at h'; subst h'; exact ⟨a,rfl,hg _ _ q⟩
   | succ i=>simpa using ih t (i:=i) (by simpa using h') (by simpa using h')
theorem walk_list {p:Addr} {xs:List V} (I:Inv X pins σ H s) (hc:X.calm=true) (hp:H p=some (.lst xs)):∃ its:List Value,Vals xs its∧s.heap.IsList p its.toArray∧xs.length=its.toArray.size∧p≠s.heap.objs.size ∧
  Walks X.prog X.w X.A.in1 s.heap.objs.size [s.heap.objs.size,p] [s.heap.objs.size] its.toArray.size (fun i v=>its.toArray[i]?=some v) (fun i h=>h.IsListIter s.heap.objs.size p i∧h.IsList p its.toArray):=by
 obtain ⟨its,rv,pl,hz⟩:=I.list (SqL.of hp)
 obtain ⟨o,e,_⟩:=pl.isList
 have hne:p≠s.heap.objs.size:=Nat.ne_of_lt (Heap.lt_size e)
 exact ⟨its,rv,pl.isList,by rw [List.size_toArray]; exact rv.length,hne,Walks.list (show X.A.in1.handled=none from I.ok.hd hc) _ p hne _⟩
theorem all_range {bs:List Bool}:(List.range bs.length).all (fun i=>bs.getD i false)=bs.all id:=by
 rw [Bool.eq_iff_iff,List.all_eq_true,List.all_eq_true]
 constructor
 ·intro h x hx
  obtain ⟨i,hi,e⟩:=List.mem_iff_getElem.mp hx
  have:=h i (by simpa using hi)
  rw [List.getD_eq_getElem?_getD] at this
  simpa [hi,e] using this
 ·intro h i hi
  have hi:i<bs.length:=by simpa using hi
  rw [List.getD_eq_getElem?_getD]
  simpa [hi] using h bs[i] (List.getElem_mem hi)
theorem truth_bl {A:Around} {bs:List Bool} {its:List Value} (rv:Vals (bs.map V.bl) its):TruthOf X.prog X.w A (fun i v=>its.toArray[i]?=some v) (fun i=>bs.getD i false):=fun i v s' Q' E hv hq=>by
 obtain ⟨b,hb,e⟩:=val_at (f:=V.bl) (g:=fun b u=>u=.bool b) (fun b u r=>r) rv hv
 subst e
 have:bs.getD i false=b:=by rw [List.getD_eq_getElem?_getD,hb]; rfl
 have hq':Q' (bs.getD i false) s':=hq
 rw [this] at hq'
 exact wpAny_truthy_bool hq'
theorem call_allL (hc:X.calm=true):CallR X (.builtin "all") (fun xs H Q=>∃ (p:Addr) (bs:List Bool),xs = [.ref p]∧H p=some (.lst (bs.map V.bl))∧Q (.bl (bs.all id)) H):=by
 intro pins s σ H xs us Q I r h
 obtain ⟨p,bs,rfl,hp,q⟩:=h
 obtain ⟨u,rfl,rx⟩:=vals_one r
 cases rx
 obtain ⟨its,rv,hl,hlen,hne,Wk⟩:=walk_list I hc hp
 rw [List.length_map] at hlen
 refine call_all_walk (wpAny_pyIter_list hl ⟨_,_,_,_,_,_,_,rfl,Wk,⟨⟨_,Heap.get?_push_size _ rfl,rfl,rfl⟩,hl.push _⟩,truth_bl rv,fun h' tk hk=>?_⟩)
 rw [← hlen,all_range]
 exact ⟨.bl (bs.all id),H,I.kept (t':=tk) (keep_push hk),rfl,q⟩
def blsW:List W→Option (List Bool)
 | []=>some []
 | .bl b::ws=>(blsW ws).map (b::·)
 | _=>none
theorem bls_map (bs:List Bool):blsW (bs.map W.bl)=some bs:=by
 induction bs with
 | nil=>rfl
 | cons b bs ih=>rw [List.map_cons,blsW,ih]; rfl
theorem Reps.bls {K:PySem.W.Frag} {F:Hp}:∀ {vs:List V} {ws:List W} {bs:List Bool},Reps K F vs ws→blsW ws=some bs→vs=bs.map V.bl
 | _,_,bs,.nil,h=>by cases h; rfl
 | _,_,bs,.cons (w:=w) (ws:=ws) r t,h=>by
  cases w <;> first | cases h | skip
  cases r
  rename_i b
  have h':(blsW ws).map (b::·)=some bs:=h
  cases q:blsW ws with
  | none=>rw [q] at h'; cases h'
  | some cs=>rw [q] at h'; cases h'; rw [Reps.bls t q]; rfl
def fBools (g:List Bool→Bool):List W→R W
 | [.lst ws]=>toR (blsW ws)>>=fun bs=>.ok (.bl (g bs))
 | _=>.stuck
theorem b_bools {K:PySem.W.Frag} {d:Mode} {g:List Bool→Bool}:Cal K .B d (fun xs H Q=>∃ (p:Addr) (bs:List Bool),xs = [.ref p]∧H p=some (.lst (bs.map V.bl))∧Q (.bl (g bs)) H) (fBools g):=by
 intro EX H0 Hs G H ρ σ Ha vs ws Q I s m o
 unfold fBools at o
 split at o
 ·rename_i ws
  cases m with
  | cons a t=>
   cases t
   obtain ⟨p,ys,rfl,hs,r⟩:=a.lstB I
   cases q:blsW ws with
   | none=>rw [q] at o; exact o.elim
   | some bs=>
    rw [q] at o
    rw [Reps.bls r q] at hs
    exact ⟨p,bs,rfl,hs,o _ G H (Ext.refl I.gh) (Md.sca rfl (fun _=>.bl) d)⟩
 ·exact o.elim
def gAll (bs:List Bool):Bool:=bs.all id
end
theorem bt_all:bootBuiltins "all" = some (.builtin "all"):=by decide +kernel
section
variable {X:Cx} {K:PySem.W.Frag} {d:Mode}
def intsW:List W→Option (List Int)
 | []=>some []
 | .int b::ws=>(intsW ws).map (b::·)
 | _=>none
theorem ints_map (bs:List Int):intsW (bs.map W.int)=some bs:=by
 induction bs with
 | nil=>rfl
 | cons b bs ih=>rw [List.map_cons,intsW,ih]; rfl
theorem Reps.ints {F:Hp}:∀ {vs:List V} {ws:List W} {bs:List Int},Reps K F vs ws→intsW ws=some bs→vs=bs.map V.int
 | _,_,bs,.nil,h=>by cases h; rfl
 | _,_,bs,.cons (w:=w) (ws:=ws) r t,h=>by
  cases w <;> first | cases h | skip
  cases r
  rename_i b
  have h':(intsW ws).map (b::·)=some bs:=h
  cases q:intsW ws with
  | none=>rw [q] at h'; cases h'
  | some cs=>rw [q] at h'; cases h'; rw [Reps.ints t q]; rfl
def fInts (g:List Int→Int):List W→R W
 | [.lst ws]=>toR (intsW ws)>>=fun bs=>.ok (.int (g bs))
 | _=>.stuck
def fAbs:List W→R W
 | [.int i]=>.ok (.int (if i<0 then -i else i))
 | _=>.stuck
def fInt:List W→R W
 | [.int i]=>.ok (.int i)
 | [.bl k]=>.ok (.int (if k then 1 else 0))
 | _=>.stuck
def fStr:List W→R W
 | [.int i]=>if i.natAbs.log2<1920 then .ok (.str (toString i)) else .stuck
 | _=>.stuck
end
end TP
namespace TP
open PySem L2
def mExt (i:Nat) (c:Bool) (m:Rho→R W):Rho→R Fl:=fun ρ=>match ρ[i]? with
 | some (.own ws)=>m ρ>>=fun w=>(match w with
  | .lst us=>if ws.length+us.length≤1000 then (if c||noLs us then .ok (.nx (ρ.set i (.own (ws++us)))) else .stuck) else .stuck
  | _=>.stuck)
 | _=>.stuck
def mRev (i:Nat):Rho→R Fl:=fun ρ=>match ρ[i]? with
 | some (.own ws)=>.ok (.nx (ρ.set i (.own ws.reverse)))
 | _=>.stuck
section
variable {K:PySem.W.Frag} {EX:EXT} {H0 G H:Hp} {ρ:Rho} {σ:St} {d:Mode} {D:Ends}
theorem c_ext {i:Nat} {c:Bool} {m:Rho→R W} (h:tSt K EX d (mExt i c m) D σ H):tDrop (tBM K "list" rExtend (tVar i) (tCons (tM K EX (cb c) m) tNil)) D σ H:=by
 obtain ⟨H0,G,ρ,I,o⟩:=h
 unfold mExt at o
 split at o
 ·rename_i ws e
  obtain ⟨a,vs,es,ha,hg,h0,r⟩:=I.own_at e
  refine ⟨.ref a,es,.inl ⟨rfl,vs,SqL.of ha⟩,H0,G,ρ,I,OutS.bind I o fun x G1 H1 w e1 m1 o1=>?_⟩
  cases w <;> first | exact o1.elim | skip
  rename_i us
  dsimp only at o1
  by_cases hn:ws.length+us.length≤1000
  ·rw [if_pos hn] at o1
   by_cases hc:(c||noLs us)=true
   ·rw [if_pos hc] at o1
    have I1:=I.ext e1
    have hx:∃ b zs,x=.ref b∧H1 b=some (.lst zs)∧Reps K G1 zs us:=by
     cases c with
     | true=>exact Md.lstC (H:=H) I1 m1
     | false=>
      obtain ⟨b,zs,ex,hb,rb⟩:=Md.lstB (H:=H) I1 m1
      exact ⟨b,zs,ex,hb,Reps.clean I1 rb (by simpa using hc)⟩
    obtain ⟨b,zs,rfl,hb,rb⟩:=hx
    have h1:=e1.hh a _ ha
    refine ⟨a,b,vs,zs,rfl,rfl,h1,hb,by rw [r.length,rb.length]; exact le_line hn,?_⟩
    exact o1 G1 σ _ (Same.refl _) (I1.own_upd e es ((r.same e1.gg).append rb))
   ·rw [if_neg hc] at o1; exact o1.elim
  ·rw [if_neg hn] at o1; exact o1.elim
 ·exact o.elim
end
section
variable {X:Cx} {K:PySem.W.Frag} {EX:EXT} {d:Mode} {e:Expr} {pos:Pos} {ma:Rho→R W}
theorem q_ext {i:Nat} {c:Bool} {x:Str} {p apos cpos:Pos} (hN:X.N[i]?=some x) (hv:Vis X.env.scope x) (ha:PE X e (tM K EX (cb c) ma)) (hK:X.K=K:=by rfl) (hd:(x == ("__debug__" : Str))=false:=by decide) (hcd:(x == ("__classdict__" : Str))=false:=by decide)
  (hbase:attributeBase (.Name x p) "extend" X.env (eval (.Name x p) X.env)=eval (.Name x p) X.env:=by rfl)
  (hfew:((backTo cpos (starEach [e] X.env)).all (fun x=>!x.1)&&(backToKw cpos (keywordEach [] X.env)).all (fun x=>x.1.isSome)
   && decide (([e]:List Expr).length+([]:List Keyword).length+(if ([]:List Keyword).isEmpty then 0 else 1)<30))=true:=by rfl)
  (hline:(apos.endLine == cpos.line)=true:=by rfl) (hs:starEach [e] X.env=(false,eval e X.env)::starEach [] X.env:=by rfl) (hplain:(backTo cpos (starEach [] X.env)).any (·.1)=false:=by rfl)
  (hsw:swapsWith (.Call (.Attribute (.Name x p) "extend" apos) [e] [] cpos) none pos.line X.env=pure false:=by rfl) :
  PS X (.Expr (.Call (.Attribute (.Name x p) "extend" apos) [e] [] cpos) pos) (tSt K EX d (mExt i c ma)):=by
 subst hK; exact (ps_expr (pe_bm PySem.F.plainAttrs_list PySem.F.slot_list_extend PySem.F.type_list_extend mt_extend (pe_var hN hv hd hcd) (pa_cons ha pa_nil hs) hbase hfew hline hs hplain) hsw).mono fun _ _ _ q=>c_ext q
end
section
variable {X:Cx} {K:PySem.W.Frag} {EX:EXT} {a e tg:Expr} {es:List Expr} {pos:Pos} {ma:Rho→R W} {mr:Rho→R (List W)}
theorem q_iSqB (h:PE X e (tM K EX .B ma)) (hK:X.K=K:=by rfl):PI X tg e (tIt K EX false .U (bS ma)):=q_iSq (lp:=false) h hK
theorem q_iSqU (h:PE X e (tM K EX .U ma)) (hK:X.K=K:=by rfl):PI X tg e (tIt K EX true .U (bS ma)):=q_iSq (lp:=true) h hK
theorem q_zipB {elts:List Expr} {p tp:Pos} {k:Nat} (hg:Gl X "zip") (hm:X.mg "zip" = none) (ha:PA X (a::es) (tA K EX .B mr)) (hK:X.K=K:=by rfl) (hs:starEach (a::es) X.env=(false,eval a X.env)::starEach es X.env:=by rfl) (hpl:(backTo pos (starEach es X.env)).any (·.1)=false:=by rfl) :
  PI X (.Tuple elts k tp) (.Call (.Name "zip" p) (a::es) [] pos) (tIt K EX false .U (bI zipR mr)):=q_zip (lp:=false) hg hm ha hK hs hpl
theorem q_zipU {elts:List Expr} {p tp:Pos} {k:Nat} (hg:Gl X "zip") (hm:X.mg "zip" = none) (ha:PA X (a::es) (tA K EX .U mr)) (hK:X.K=K:=by rfl) (hs:starEach (a::es) X.env=(false,eval a X.env)::starEach es X.env:=by rfl) (hpl:(backTo pos (starEach es X.env)).any (·.1)=false:=by rfl) :
  PI X (.Tuple elts k tp) (.Call (.Name "zip" p) (a::es) [] pos) (tIt K EX true .U (bI zipR mr)):=q_zip (lp:=true) hg hm ha hK hs hpl
end
end TP
namespace TP
open PySem L2
section
variable {K:PySem.W.Frag} {EX:EXT} {H0 G H G1 H1:Hp} {ρ:Rho} {σ:St} {d:Mode} {D:Ends}
def isOwn:Sl→Bool
 | .own _=>true
 | .dic _=>true
 | .dik _=>true
 | _=>false
def noOwn (ρ:Rho):Bool:=ρ.all fun s=>!isOwn s
def sCU (i:Nat) (f:List W→R W) (ma:Rho→R (List W)):Rho→R Fl:=fun ρ=>if noOwn ρ then (ma ρ>>=fun ws=>f ws>>=fun w=>.ok (.nx (ρ.set i (.par w)))) else .stuck
end
section
variable {X:Cx} {K:PySem.W.Frag} {d:Mode} {e:Expr} {es:List Expr} {pos:Pos} {mr:Rho→R (List W)}
end
end TP
set_option Elab.async false
set_option linter.all false
set_option maxRecDepth 100000
namespace TP
open PySem L2
def ItRv (K:PySem.W.Frag) (a:Addr) (n:Nat):It:=
 ⟨fun i H=>i<n∧∃ xs x,SqL K H a xs∧xs.length=n∧xs[n-1-i]?=some x,fun i H x H'=>H'=H∧∀ xs,SqL K H a xs→xs[n-1-i]?=some x,fun i H=>i=n∧∃ xs,SqL K H a xs∧xs.length=n⟩
theorem turn_rev {P:Program} {w:World} {K:PySem.W.Frag} {tg:Expr} (a it:Addr) (n:Nat):Turn P w K tg (ItRv K a n) [it] it (fun i h=>i≤n∧h.IsRevIter it a ((n:Int)-1-(i:Int))) where
 mem:=by simp
 obj:=fun i h st b hb=>by
  have e:b=it:=by simpa using hb
  subst e
  obtain ⟨_,o,e,c,d⟩:=st
  exact ⟨o,e,fun v z=>by rw [d] at z; cases z⟩
 keep:=fun i h h' st k=>⟨st.1,st.2.at fun o e=>k it (by simp) o e⟩
 item:=by
  intro X hP hw hK hc i pins s σ H E I hf st hg
  subst hP hw hK
  obtain ⟨hi,xs,x,hq,hn,hx⟩:=hg
  obtain ⟨its,rv,p,hz⟩:=I.list hq
  obtain ⟨u,hu,ru⟩:=rv.get hx
  obtain ⟨f0,f1,f2,f3,f4,f5⟩:=hf it (by simp)
  have e1:(n:Int)-1-(i:Int)=((n-1-i:Nat):Int):=by omega
  have st2:=st.2
  rw [e1] at st2
  refine wpAny_pyNext_rev_item st2 p.isList (x:=u) (by simpa using hu) fun h' st' sb=>?_
  have I1:Inv X pins σ H { s with heap:=h' }:=I.turned (t':=s.toks) (fun b o hb e=>(sb.2 b hb).trans e) f0 f1 f3 f4 f5
  have e2:((n-1-i:Nat):Int)-1=(n:Int)-1-((i+1:Nat):Int):=by omega
  rw [e2] at st'
  obtain ⟨o,e,c,d⟩:=id st'
  exact ⟨u,rfl,go_of (s:={ s with heap:=h' }) e c d (by decide) ⟨x,H,I1,ru,⟨rfl,fun ys hy=>by rw [I.list_inj hy hq]; exact hx⟩,⟨hi,st'⟩,fun b hb=>(hf b hb).1⟩⟩
 done:=by
  intro X hP hw hK hc i pins s σ H E I hf st hg
  subst hP hw hK
  obtain ⟨rfl,xs,hq,hn⟩:=hg
  obtain ⟨f0,f1,f2,f3,f4,f5⟩:=hf it (by simp)
  have e1:(i:Int)-1-(i:Int) = -1:=by omega
  have st2:=st.2
  rw [e1] at st2
  exact wpAny_pyNext_rev_end (I.ok.hd hc) st2 fun h' eb=>⟨rfl,I.turned (t':=s.toks) (fun b o hb e=>eb b o hb e) f0 f1 f3 f4 f5⟩
 self:=fun _ _ _ _ _ st h=>wpAny_pyIter_revIter st.2 h
def iRev (K:PySem.W.Frag) (ta:TA):TI:=fun σ H R=>ta σ H fun vs H1=>∃ a,vs = [.ref a]∧∃ xs,SqL K H1 a xs∧R (ItRv K a xs.length) H1
theorem bt_reversed:bootBuiltins "reversed" = some (.type "reversed"):=by decide +kernel
section
variable {X:Cx} {tg:Expr}
theorem pi_rev {a:Expr} {ta:TA} {p pos:Pos} (hg:Gl X "reversed") (hm:X.mg "reversed" = none) (ha:PA X [a] ta) (hs:starEach [a] X.env = [(false,eval a X.env)]:=by rfl):PI X tg (.Call (.Name "reversed" p) [a] [] pos) (iRev X.K ta):=by
 intro pins s σ H R I h
 refine wpAny_Call_Name_kw (ld_blt I hg hm bt_reversed ?_ (by decide) (by decide))
 refine PyProof.Rows.callWith_type1 (thn (ha pos pins s σ H _ I h) fun us s1 ⟨vs,H1,I1,r1,q1⟩=>?_) hs (by rfl)
 obtain ⟨b,e,xs,hq,q⟩:=q1
 subst e
 obtain ⟨u,rfl,ru⟩:=vals_one r1
 cases ru
 obtain ⟨its,rv,pl,hz⟩:=I1.list hq
 have hl:=rv.length
 refine call_reversed_list pl.isList ?_
 have hit:(s1.heap.push (revObj b ((its.toArray.size:Int)-1))).IsRevIter s1.heap.objs.size b ((xs.length:Int)-1-((0:Nat):Int)):=by
  refine ⟨_,Heap.get?_push_size _ rfl,rfl,?_⟩
  have:((xs.length:Int)-1-((0:Nat):Int))=((its.toArray.size:Int)-1):=by simp; omega
  rw [this]; rfl
 refine wpAny_pyIter_revIter hit ?_
 refine ⟨s1.heap.objs.size,[s1.heap.objs.size],_,ItRv X.K b xs.length,H1,rfl,I1.kept (t':=s1.toks) fun b o e=>Heap.get?_push_of_some _ e,turn_rev b _ _,⟨Nat.zero_le _,hit⟩,fun c hc=>?_,q⟩
 have e:c=s1.heap.objs.size:=by simpa using hc
 subst e
 exact I1.fpOk (Nat.le_refl _) (I1.hok.fresh (Nat.le_refl _))
end
def revW:List W→R (List W)
 | [.lst ws]=>.ok ws.reverse
 | _=>.stuck
section
variable {K:PySem.W.Frag} {EX:EXT} {H0 G H:Hp} {ρ:Rho} {σ:St}
theorem itok_rev {e:Mode} {Z:Hp} {a:Addr} {vs:List V} {ws:List W} (he:e=.V∨e=.U) (s:SqL K Z a vs) (r:Reps K (fz e H0 G) vs ws):ItOk K e H0 Z G (ItRv K a vs.length) ws.reverse:=by
 have hl:=r.length
 have hq:∀ H,Same Z H→SqL K H a vs:=fun H z=>Same.seq z s
 refine ⟨fun i H hi z=>?_,fun H z=>⟨by rw [List.length_reverse,hl],vs,hq H z,rfl⟩,fun i H x H' w hw z ⟨e1,y⟩ G2 ρ σ I sg=>?_⟩
 ·rw [List.length_reverse] at hi
  exact ⟨by omega,vs,vs[vs.length-1-i]'(by omega),hq H z,rfl,by simp⟩
 ·subst e1
  have hi:i<ws.length:=by have:=(List.getElem?_eq_some_iff.mp hw).1; simpa using this
  have hx:=y vs (hq _ z)
  rw [List.getElem?_reverse hi] at hw
  obtain ⟨v,hv,rv⟩:=Reps.get r hw
  rw [hl,hv] at hx
  cases hx
  exact ⟨G2,Ext.refl I.gh,Md.of_fz he (rv.same (fz_same sg))⟩
theorem Md.srcL {lp:Bool} {Hs:Hp} {x:V} {ws:List W} (I:PIv K H0 G ρ σ H) (m:Md K H0 Hs G H x (.lst ws) (srcM lp .U)):∃ a vs,x=.ref a∧SqL K (if lp then join H0 G else H) a vs∧Reps K (fz .U H0 G) vs ws:=by
 have ez:fz .U H0 G=join H0 G:=by unfold fz; rw [if_neg (show ¬ (Mode.U=Mode.V) by intro z; cases z)]
 rw [ez]
 cases lp with
 | true=>
  rw [if_pos rfl]
  cases m with
  | lst s r=>exact ⟨_,_,rfl,SqL.of s,r⟩
 | false=>
  rw [if_neg Bool.false_ne_true]
  rcases m with m | ⟨a,vs,us,rfl,e2,h1,r⟩
  ·cases m with
   | lst s r=>exact ⟨_,_,rfl,SqL.of (I.join_H _ _ s),r⟩
  ·cases e2; exact ⟨a,vs,rfl,SqL.of h1,r.same I.G_join⟩
theorem c_rvs {lp:Bool} {ma:Rho→R (List W)} {Rr:It→Hp→Prop} (h:tIt K EX lp .U (fun ρ=>ma ρ>>=revW) σ H Rr):iRev K (tA K EX (srcM lp .U) ma) σ H Rr:=by
 refine tIt_bind h (fun H0 G ρ G1 H1 xs ws us I e1 m1 q o=>?_) (fun ws e z=>?_)
 ·have I1:=I.ext e1
  unfold revW at q
  split at q
  ·rename_i ws'
   cases q
   cases m1 with
   | cons a1 t=>
    cases t
    obtain ⟨p,vs,rfl,hL,r⟩:=Md.srcL I1 a1
    exact ⟨p,rfl,vs,Same.seq (lp_H I1) hL,o _ G1 H1 e1 (itok_rev (.inr rfl) hL r)⟩
  ·cases q
 ·unfold revW at z
  split at z <;> cases z
end
section
variable {X:Cx} {K:PySem.W.Frag} {EX:EXT} {a tg:Expr} {pos:Pos} {mr:Rho→R (List W)}
theorem q_rvU {p:Pos} (hg:Gl X "reversed") (hm:X.mg "reversed" = none) (ha:PA X [a] (tA K EX .U mr)) (hK:X.K=K:=by rfl) (hs:starEach [a] X.env = [(false,eval a X.env)]:=by rfl):PI X tg (.Call (.Name "reversed" p) [a] [] pos) (tIt K EX true .U (bI revW mr)):=by
 subst hK; exact (pi_rev hg hm ha hs).mono fun _ _ _ q=>c_rvs (lp:=true) q
end
end TP
namespace TP
open PySem L2
section
variable {X:Cx} {pins:List (Addr×Obj)} {σ:St} {H:Hp} {s:Shared}
end
def seqI:W→Option (List Int)
 | .lst ws=>intsW ws
 | .tup ws=>intsW ws
 | _=>none
def fBest (g:List Int→Int):List W→R W
 | [w]=>toR (seqI w)>>=fun ns=>if 0<ns.length then .ok (.int (g ns)) else .stuck
 | _=>.stuck
end TP
set_option Elab.async false
set_option linter.all false
set_option maxRecDepth 100000
namespace HT
open PySem PySem.Spec PyProof.Rows
end HT
namespace TP
open PySem L2 PySem.Spec PyProof.Rows
variable {X:Cx} {K:PySem.W.Frag}
end TP
set_option Elab.async false
set_option linter.all false
set_option maxRecDepth 100000
namespace TP
open PySem PySem.W PyProof.Rows
section
variable (r:Nat→Int)
def runK {α:Type}:KasT α→α
 | .ret a=>a
 | .ask i j k=>runK (k (decide (r i<r j)))
theorem runK_bind {α β:Type} (f:α→KasT β):∀ t:KasT α,runK r (t.bind f)=runK r (f (runK r t))
 | .ret _=>rfl
 | .ask i j k=>by
  show runK r ((k _).bind f)=_
  exact runK_bind f _
def ky (p:Array Nat) (k:Nat):Int:=r (p.getD k 0)
theorem ky_of {p q:Array Nat} {k l:Nat} (h:p[k]?=q[l]?):ky r p k=ky r q l:=by
 unfold ky
 have:p.getD k 0=q.getD l 0:=by rw [Array.getD_eq_getD_getElem?,Array.getD_eq_getD_getElem?,h]
 rw [this]
theorem ky_rev {p:Array Nat} {i j:Nat} (hj:j≤p.size) (k:Nat):ky r (kas_rev p i j) k=if i≤k∧k<j then ky r p (i+j-1-k) else ky r p k:=by
 have e:=getElem?_mirror_all (i:=i) hj k
 unfold kas_rev
 split
 ·rename_i h; rw [if_pos h] at e; exact ky_of r e
 ·rename_i h; rw [if_neg h] at e; exact ky_of r e
theorem ky_bub {p:Array Nat} {k d:Nat} (hs:k<p.size) (hd:d≤k) (i:Nat):ky r (bubble p k d) i=if i=k-d then ky r p k else if k-d<i∧i≤k then ky r p (i-1) else ky r p i:=by
 have e:=getElem?_bubble hs d hd i
 split
 ·rename_i h; rw [if_pos h] at e; exact ky_of r e
 ·rename_i h
  rw [if_neg h] at e
  split
  ·rename_i h2; rw [if_pos h2] at e; exact ky_of r e
  ·rename_i h2; rw [if_neg h2] at e; exact ky_of r e
def up (p:Array Nat) (n:Nat):Prop:=∀ k,1≤k→k<n→ky r p (k-1)≤ky r p k
def dn (p:Array Nat) (n:Nat):Prop:=∀ k,1≤k→k<n→ky r p k≤ky r p (k-1)
theorem asc_ok (p:Array Nat):∀ (f n:Nat),1≤n→up r p n→n≤runK r (kas_asc p f n)∧runK r (kas_asc p f n)≤n+f∧up r p (runK r (kas_asc p f n))∧(runK r (kas_asc p f n)<n+f→ky r p (runK r (kas_asc p f n))<ky r p (runK r (kas_asc p f n)-1))
 | 0,n,h1,hu=>⟨Nat.le_refl _,Nat.le_refl _,hu,fun h=>absurd h (by show ¬ n<n+0; omega)⟩
 | f+1,n,h1,hu=>by
  show n≤runK r (if decide (ky r p n<ky r p (n-1))=true then .ret n else kas_asc p f (n+1))∧runK r (if decide (ky r p n<ky r p (n-1))=true then .ret n else kas_asc p f (n+1))≤n+(f+1)∧up r p (runK r (if decide (ky r p n<ky r p (n-1))=true then .ret n else kas_asc p f (n+1)))∧(runK r (if decide (ky r p n<ky r p (n-1))=true then .ret n else kas_asc p f (n+1))<n+(f+1)→ky r p (runK r (if decide (ky r p n<ky r p (n-1))=true then .ret n else kas_asc p f (n+1)))<ky r p (runK r (if decide (ky r p n<ky r p (n-1))=true then .ret n else kas_asc p f (n+1))-1))
  by_cases h:ky r p n<ky r p (n-1)
  ·rw [if_pos (decide_eq_true h)]
   exact ⟨Nat.le_refl _,Nat.le_add_right _ _,hu,fun _=>h⟩
  ·rw [if_neg (by simpa using h)]
   have ih:=asc_ok p f (n+1) (by omega) fun k hk1 hk2=>by
    by_cases e:k=n
    ·subst e; omega
    ·exact hu k hk1 (by omega)
   refine ⟨by omega,by omega,ih.2.2.1,fun hlt=>ih.2.2.2 (by omega)⟩
theorem desc_ok:∀ (f:Nat) (p:Array Nat) (n q:Nat),n+f≤p.size→q+1≤n→dn r p n→(∀ k,n-(q+1)≤k→k<n→ky r p k=ky r p (n-1)) →
  (runK r (kas_desc f p n q)).1.Perm p∧n≤(runK r (kas_desc f p n q)).2.1∧(runK r (kas_desc f p n q)).2.1≤n+f∧(runK r (kas_desc f p n q)).2.2+1≤(runK r (kas_desc f p n q)).2.1∧dn r (runK r (kas_desc f p n q)).1 (runK r (kas_desc f p n q)).2.1 ∧
   (∀ k,(runK r (kas_desc f p n q)).2.1-((runK r (kas_desc f p n q)).2.2+1)≤k→k<(runK r (kas_desc f p n q)).2.1→ky r (runK r (kas_desc f p n q)).1 k=ky r (runK r (kas_desc f p n q)).1 ((runK r (kas_desc f p n q)).2.1-1))
 | 0,p,n,q,_,hq,hd,he=>⟨.refl _,Nat.le_refl _,Nat.le_refl _,hq,hd,he⟩
 | f+1,p,n,q,hz,hq,hd,he=>by
  generalize hR:runK r (kas_desc (f+1) p n q)=R
  have hR':runK r (if decide (ky r p n<ky r p (n-1))=true then (if q>0 then kas_desc f (kas_rev p (n-(q+1)) n) (n+1) 0 else kas_desc f p (n+1) 0) else .ask (p.getD (n-1) 0) (p.getD n 0) fun d=>if d=true then .ret (p,n,q) else kas_desc f p (n+1) (q+1))=R:=hR
  clear hR
  by_cases h:ky r p n<ky r p (n-1)
  ·rw [if_pos (decide_eq_true h)] at hR'
   by_cases hq0:q>0
   ·rw [if_pos hq0] at hR'
    have key:∀ k,ky r (kas_rev p (n-(q+1)) n) k=ky r p k:=fun k=>by
     rw [ky_rev r (by omega)]
     split
     ·rename_i hk; rw [he (n-(q+1)+n-1-k) (by omega) (by omega),he k hk.1 hk.2]
     ·rfl
    have hs:(kas_rev p (n-(q+1)) n).size=p.size:=kas_rev_size _ _
    have ih:=desc_ok f (kas_rev p (n-(q+1)) n) (n+1) 0 (by omega) (by omega) (fun k h1 h2=>by
     rw [key,key]
     by_cases e:k=n
     ·subst e; omega
     ·exact hd k h1 (by omega)) fun k h1 h2=>by
      have:k=n+1-1:=by omega
      rw [this]
    rw [hR'] at ih
    exact ⟨ih.1.trans (mirror_perm _ _ _ _),by omega,by omega,ih.2.2.2.1,ih.2.2.2.2⟩
   ·rw [if_neg hq0] at hR'
    have ih:=desc_ok f p (n+1) 0 (by omega) (by omega) (fun k h1 h2=>by
     by_cases e:k=n
     ·subst e; omega
     ·exact hd k h1 (by omega)) fun k h1 h2=>by
      have:k=n+1-1:=by omega
      rw [this]
    rw [hR'] at ih
    exact ⟨ih.1,by omega,by omega,ih.2.2.2.1,ih.2.2.2.2⟩
  ·rw [if_neg (by simpa using h)] at hR'
   have hR2:runK r (if decide (ky r p (n-1)<ky r p n)=true then .ret (p,n,q) else kas_desc f p (n+1) (q+1))=R:=hR'
   clear hR'
   by_cases h2:ky r p (n-1)<ky r p n
   ·rw [if_pos (decide_eq_true h2)] at hR2
    subst hR2
    exact ⟨.refl _,Nat.le_refl _,by show n≤n+(f+1); omega,hq,hd,he⟩
   ·rw [if_neg (by simpa using h2)] at hR2
    have ee:ky r p n=ky r p (n-1):=by omega
    have ih:=desc_ok f p (n+1) (q+1) (by omega) (by omega) (fun k h1 h2=>by
     by_cases e:k=n
     ·subst e; omega
     ·exact hd k h1 (by omega)) fun k h1 h2=>by
      show _=ky r p n
      by_cases e:k=n
      ·rw [e]
      ·rw [he k (by omega) (by omega),ee]
    rw [hR2] at ih
    exact ⟨ih.1,by omega,by omega,ih.2.2.2.1,ih.2.2.2.2⟩
def cntP (nrem:Nat) (p:Array Nat) (R:Nat×Array Nat):Prop:=R.2.Perm p∧R.1≤nrem∧up r R.2 R.1
theorem tail3_ok {p:Array Nat} {n nrem:Nat} (h1:1≤n) (hn:n≤nrem) (hz:nrem≤p.size) (hd:dn r p n):cntP r nrem p (runK r (kas_tail3 n nrem p)):=by
 unfold kas_tail3
 rw [runK_bind]
 have hu:up r (kas_rev p 0 n) n:=fun k a b=>by
  rw [ky_rev r (by omega),ky_rev r (by omega),if_pos (by omega),if_pos (by omega)]
  have:=hd (0+n-1-(k-1)) (by omega) (by omega)
  have e:0+n-1-(k-1)-1=0+n-1-k:=by omega
  rw [e] at this
  exact this
 have a:=asc_ok r (kas_rev p 0 n) (nrem-n) n h1 hu
 exact ⟨mirror_perm _ _ _ _,by show runK r (kas_asc _ _ _)≤nrem; omega,a.2.2.1⟩
theorem descPart_ok {p:Array Nat} {n nrem:Nat} (h1:1≤n) (hn:n+1≤nrem) (hz:nrem≤p.size) (hd:dn r p (n+1)):cntP r nrem p (runK r (kas_descPart n nrem p)):=by
 unfold kas_descPart
 rw [runK_bind]
 have d:=desc_ok r (nrem-(n+1)) p (n+1) 0 (by omega) (by omega) hd fun k a b=>by
  have:k=n+1-1:=by omega
  rw [this]
 generalize runK r (kas_desc (nrem-(n+1)) p (n+1) 0)=R at d
 have hs:R.1.size=p.size:=d.1.size_eq
 by_cases hq:R.2.2>0
 ·rw [if_pos hq]
  have key:∀ k,ky r (kas_rev R.1 (R.2.1-(R.2.2+1)) R.2.1) k=ky r R.1 k:=fun k=>by
   rw [ky_rev r (by omega)]
   split
   ·rename_i hk; rw [d.2.2.2.2.2 (R.2.1-(R.2.2+1)+R.2.1-1-k) (by omega) (by omega),d.2.2.2.2.2 k hk.1 hk.2]
   ·rfl
  have hs2:(kas_rev R.1 (R.2.1-(R.2.2+1)) R.2.1).size=R.1.size:=kas_rev_size _ _
  have t:=tail3_ok r (p:=kas_rev R.1 (R.2.1-(R.2.2+1)) R.2.1) (n:=R.2.1) (nrem:=nrem) (by omega) (by omega) (by omega) fun k a b=>by rw [key,key]; exact d.2.2.2.2.1 k a b
  exact ⟨(t.1.trans (mirror_perm _ _ _ _)).trans d.1,t.2⟩
 ·rw [if_neg hq]
  have t:=tail3_ok r (p:=R.1) (n:=R.2.1) (nrem:=nrem) (by omega) (by omega) (by omega) d.2.2.2.2.1
  exact ⟨t.1.trans d.1,t.2⟩
theorem up_all {p : Array Nat} {n : Nat} (h : up r p n) : ∀ j i, i ≤ j → j < n → ky r p i ≤ ky r p j
  | 0, i, a, b => by have : i = 0 := by omega
                     subst this; exact Int.le_refl _
  | j + 1, i, a, b => by
    by_cases e : i = j + 1
    · subst e; exact Int.le_refl _
    · have := up_all h j i (by omega) (by omega)
      have := h (j + 1) (by omega) b
      rw [Nat.add_sub_cancel] at this
      omega
theorem count_ok_ {p:Array Nat} {nrem:Nat} (h2:2≤nrem) (hz:nrem≤p.size):cntP r nrem p (runK r (kas_count nrem p)):=by
 unfold kas_count
 rw [runK_bind]
 have a:=asc_ok r p (nrem-1) 1 (by omega) fun k x y=>by omega
 generalize runK r (kas_asc p (nrem-1) 1)=n at a
 by_cases e:n=nrem
 ·rw [if_pos (by simpa using e)]
  exact ⟨.refl _,by show n≤nrem; omega,a.2.2.1⟩
 ·rw [if_neg (by simpa using e)]
  have hlt:=a.2.2.2 (by omega)
  by_cases h1:n>1
  ·rw [if_pos h1]
   show cntP r nrem p (runK r (if decide (ky r p 0<ky r p (n-1))=true then .ret (n,p) else kas_descPart n nrem (kas_rev p 0 n)))
   by_cases h:ky r p 0<ky r p (n-1)
   ·rw [if_pos (decide_eq_true h)]
    exact ⟨.refl _,by show n≤nrem; omega,a.2.2.1⟩
   ·rw [if_neg (by simpa using h)]
    have hall:∀ k,k<n→ky r p k=ky r p 0:=fun k hk=>by
     have x:=up_all r a.2.2.1 k 0 (by omega) hk
     have y:=up_all r a.2.2.1 (n-1) k (by omega) (by omega)
     omega
    have key:∀ k,ky r (kas_rev p 0 n) k=ky r p k:=fun k=>by
     rw [ky_rev r (by omega)]
     split
     ·rename_i hk; rw [hall _ (by omega),hall k hk.2]
     ·rfl
    have hs:(kas_rev p 0 n).size=p.size:=kas_rev_size _ _
    have t:=descPart_ok r (p:=kas_rev p 0 n) (n:=n) (nrem:=nrem) (by omega) (by omega) (by omega) fun k x y=>by
     rw [key,key]
     by_cases e:k=n
     ·subst e; omega
     ·rw [hall k (by omega),hall (k-1) (by omega)]; exact Int.le_refl _
    exact ⟨t.1.trans (mirror_perm _ _ _ _),t.2⟩
  ·rw [if_neg h1]
   have hn1:n=1:=by omega
   subst hn1
   exact descPart_ok r (by omega) (by omega) hz fun k x y=>by
    have:k=1:=by omega
    subst this; omega
theorem place_ok {p:Array Nat} {k:Nat} (hu:up r p k):∀ (f l h:Nat),h-l≤f→l≤h→h≤k→(∀ i,i<l→ky r p i≤ky r p k)→(∀ i,h≤i→i<k→ky r p k<ky r p i) →
  runK r (kas_place p k f l h)≤k∧(∀ i,i<runK r (kas_place p k f l h)→ky r p i≤ky r p k)∧(∀ i,runK r (kas_place p k f l h)≤i→i<k→ky r p k<ky r p i)
 | 0,l,h,hf,hl,hk,a,b=>⟨by show l≤k; omega,a,fun i x y=>b i (by have:l≤i:=x; omega) y⟩
 | f+1,l,h,hf,hl,hk,a,b=>by
  generalize hR:runK r (kas_place p k (f+1) l h)=R
  have hR':runK r (if l≥h then .ret l else .ask (p.getD k 0) (p.getD ((l+h)/2) 0) fun c=>if c=true then kas_place p k f l ((l+h)/2) else kas_place p k f ((l+h)/2+1) h)=R:=hR
  clear hR
  by_cases hlh:l≥h
  ·rw [if_pos hlh] at hR'
   subst hR'
   exact ⟨by show l≤k; omega,a,fun i x y=>b i (by have:l≤i:=x; omega) y⟩
  ·rw [if_neg hlh] at hR'
   have hR2:runK r (if decide (ky r p k<ky r p ((l+h)/2))=true then kas_place p k f l ((l+h)/2) else kas_place p k f ((l+h)/2+1) h)=R:=hR'
   clear hR'
   by_cases c:ky r p k<ky r p ((l+h)/2)
   ·rw [if_pos (decide_eq_true c)] at hR2
    have ih:=place_ok hu f l ((l+h)/2) (by omega) (by omega) (by omega) a fun i x y=>by
     have:=up_all r hu i ((l+h)/2) x y
     omega
    rw [hR2] at ih; exact ih
   ·rw [if_neg (by simpa using c)] at hR2
    have ih:=place_ok hu f ((l+h)/2+1) h (by omega) (by omega) hk (fun i x=>by
     have:=up_all r hu ((l+h)/2) i (by omega) (by omega)
     omega) b
    rw [hR2] at ih; exact ih
theorem bin_ok:∀ (f:Nat) (p:Array Nat) (k:Nat),1≤k→k+f≤p.size→up r p k→(runK r (kas_bin f p k)).Perm p∧up r (runK r (kas_bin f p k)) (k+f)
 | 0,p,k,_,_,hu=>⟨.refl _,hu⟩
 | f+1,p,k,h1,hz,hu=>by
  have pl:=place_ok r hu k 0 k (by omega) (by omega) (Nat.le_refl _) (fun i x=>absurd x (Nat.not_lt_zero _)) (fun i x y=>by omega)
  show (runK r ((kas_place p k k 0 k).bind fun l=>kas_bin f (bubble p k (k-l)) (k+1))).Perm p∧up r (runK r ((kas_place p k k 0 k).bind fun l=>kas_bin f (bubble p k (k-l)) (k+1))) (k+(f+1))
  rw [runK_bind]
  generalize runK r (kas_place p k k 0 k)=l at pl
  have hs:(bubble p k (k-l)).size=p.size:=bubble_size _ _ _
  have ih:=bin_ok f (bubble p k (k-l)) (k+1) (by omega) (by omega) fun i x y=>by
   rw [ky_bub r (by omega) (by omega),ky_bub r (by omega) (by omega)]
   have el:k-(k-l)=l:=by omega
   rw [el]
   by_cases c1:i=l
   ·rw [if_neg (by omega),if_neg (by omega),if_pos c1]
    exact pl.2.1 _ (by omega)
   ·rw [if_neg c1]
    by_cases c2:l<i∧i≤k
    ·rw [if_pos c2]
     by_cases c3:i-1=l
     ·rw [if_pos c3]
      have:=pl.2.2 (i-1) (by omega) (by omega)
      omega
     ·rw [if_neg c3,if_pos (by omega)]
      exact hu (i-1) (by omega) (by omega)
    ·rw [if_neg c2,if_neg (by omega),if_neg (by omega)]
     exact hu i x (by omega)
  rw [show k+(f+1)=k+1+f by omega]
  exact ⟨ih.1.trans (bubble_perm _ _ _),ih.2⟩
theorem sort_ok {n:Nat} (h2:2≤n):(runK r (kas_sort n)).Perm (List.toArray (List.range n))∧up r (runK r (kas_sort n)) n:=by
 unfold kas_sort
 rw [runK_bind]
 have c:=count_ok_ r (p:=List.toArray (List.range n)) (nrem:=n) h2 (by simp)
 generalize runK r (kas_count n (List.toArray (List.range n)))=R at c
 by_cases h:R.1<n
 ·rw [if_pos h]
  have hs:R.2.size=n:=by have:=c.1.size_eq; simpa using this
  have b:=bin_ok r (n-max R.1 1) R.2 (max R.1 1) (by omega) (by omega) fun k x y=>c.2.2 k x (by omega)
  rw [show max R.1 1+(n-max R.1 1)=n by omega] at b
  exact ⟨b.1.trans c.1,b.2⟩
 ·rw [if_neg h]
  have:R.1=n:=by have:=c.2.1; omega
  have c3:=c.2.2
  rw [this] at c3
  exact ⟨c.1,c3⟩
end
end TP
set_option Elab.async false
set_option linter.all false
set_option maxRecDepth 100000
namespace TP
open PySem L2
section
variable {prog:Program} {w:World} {A:Around} {E:Value→Shared→Prop} {s:Shared}
theorem sub_draws (hh:A.handled=none) (u:Sub) (hne:u.l≠u.i) (its:Array Value) :
  Draws prog w A u.i [u.i,u.l] its.size (fun i v=>its[i]?=some v) (fun i h=>u.At h i∧u.Src h its) where
 live:=fun _ _ st=>by obtain ⟨o,e,_⟩:=st.1.obj; exact ⟨o,e⟩
 frame:=fun _ _ _ st hk=>⟨st.1.keep fun o e=>hk u.i (by simp) o e,st.2.keep fun o e=>hk u.l (by simp) o e⟩
 item:=fun i s Q E hi st hQ=>Sub.item st.1 st.2 (x:=its[i]) (by simp [hi]) fun h' a sb=>hQ _ h' s.toks (by simp [hi]) ⟨a,st.2.keep fun o e=>sb.extBut _ _ hne e⟩ sb
 done:=fun s Q E st hE=>Sub.ends hh st.1 st.2 (by simp) hE
theorem meets_enumT (l:Addr) (its:Array Value) (m:Nat) (dct:Option Addr) (sl:Array (Option Value)) :
  Meets (Builtin.«enumerate.__new__» ⟨[.type "enumerate",.ref l],[]⟩) (fun _ R s=>s.heap.get? l=some { cls:=.type "tuple",dict:=dct,data:=.seq its m,slots:=sl } ∧
   R (.ok (.ret (.ref (s.heap.push { cls:=.type "tuple_iterator",data:=.fields #[.ref l,.int 0 0] }).objs.size)))
    { s with heap:=(s.heap.push { cls:=.type "tuple_iterator",data:=.fields #[.ref l,.int 0 0] }).push { cls:=.type "enumerate",data:=.fields #[.none,.bool false,.ref s.heap.objs.size,rawInt 0,.none,.none] } }):=
 .of_wp fun prog w A R s hyp=>by
  obtain ⟨hp,g,d,tk,os⟩:=s; obtain ⟨hl,hyp⟩:=hyp
  have hsb:=sub_enumerate
  have hT:Heap.IsTuple (Shared.heap ⟨hp,g,d,tk,os⟩) l its:=⟨_,hl,rfl,m,rfl⟩
  wp_walk using AutoSeq1.wpAny_loadPart' hl
  refine wpAny_stack_any fun stk=>wpAny_pure ?_
  split
  ·rename_i cc _ _ _ _ _
   cases (cc == Value.type "enumerate") <;>
   ·wp_walk using AutoSeq1.wpAny_loadPart' hl,wpAny_pyIter_tuple hT
    exact ⟨_,rfl,hyp⟩
  ·wp_walk using AutoSeq1.wpAny_loadPart' hl,wpAny_pyIter_tuple hT
   exact ⟨_,rfl,hyp⟩
theorem call_enumT {l:Addr} {its:Array Value} {Q:Value→Shared→Prop} (hL:s.heap.IsTuple l its)
  (hyp:∀ h',IsEnum h' (s.heap.objs.size+1) s.heap.objs.size 0 .none→h'.IsTupleIter s.heap.objs.size l 0→(∀ b o,s.heap.get? b=some o→h'.get? b=some o)→Q (.ref (s.heap.objs.size+1)) { s with heap:=h' }) :
  wpAny (model prog w) A (call (.type "enumerate") [.ref l]) Q E s:=by
 obtain ⟨⟨c,dct,dt,sl⟩,hl,hc,m,hd⟩:=hL
 have hc':c=.type "tuple" := hc; have hd':dt=.seq its m:=hd; subst hc' hd'
 refine callType_new F.called_enumerate (by decide) (F.typeCall_enumerate_1 _) (F.newCall_enumerate_1 _) (fun obj=>F.args_object_init_2 obj _) F.entry_enumerate_new (meets_enumT l its m dct sl) ⟨hl,?_⟩
 generalize hP:s.heap.push { cls:=.type "tuple_iterator",data:=.fields #[.ref l,.int 0 0] }=P
 have hz:P.objs.size=s.heap.objs.size+1:=by rw [← hP]; exact Heap.size_push ..
 have hi:P.get? s.heap.objs.size=some { cls:=.type "tuple_iterator",data:=.fields #[.ref l,.int 0 0] }:=by rw [← hP]; exact Heap.get?_push_size _ rfl
 have hk:∀ b o,s.heap.get? b=some o→P.get? b=some o:=fun b o e=>by rw [← hP]; exact Heap.get?_push_of_some _ e
 show _∧_
 have en:IsEnum (P.push { cls:=.type "enumerate",data:=.fields #[.none,.bool false,.ref s.heap.objs.size,rawInt 0,.none,.none] }) (s.heap.objs.size+1) s.heap.objs.size 0 .none:=by rw [← hz]; exact Heap.get?_push_size _ rfl
 rw [hz]
 exact ⟨⟨_,en,rfl⟩,hyp _ en ⟨_,Heap.get?_push_of_some _ hi,rfl,rfl⟩ fun b o e=>Heap.get?_push_of_some _ (hk b o e)⟩
theorem call_enum {t:Bool} {l:Addr} {its:Array Value} {Q:Value→Shared→Prop} (hL:SrcAt s.heap (t,l,its))
  (hyp:∀ h',IsEnum h' (s.heap.objs.size+1) s.heap.objs.size 0 .none→(L2.Sub.mk t s.heap.objs.size l).At h' 0→(∀ b o,s.heap.get? b=some o→h'.get? b=some o)→Q (.ref (s.heap.objs.size+1)) { s with heap:=h' }) :
  wpAny (model prog w) A (call (.type "enumerate") [.ref l]) Q E s:=by
 unfold SrcAt at hL
 cases t with
 | true=>exact call_enumT hL fun h' a b c=>hyp h' a (by unfold Sub.At; exact b) c
 | false=>exact call_enumerate_list hL fun h' a b _ c=>hyp h' a (by unfold Sub.At; exact b) c
end
def ItE (K:PySem.W.Frag) (t:Bool) (a:Addr):It:=
  ⟨fun i H=>∃ xs x,Sq K H t a xs∧xs[i]?=some x,
   fun i H x H'=>∃ p y,x=.ref p∧H p=none∧H'=upd H p (.tup [.int (i:Int),y])∧∀ xs,Sq K H t a xs→xs[i]?=some y,
   fun i H=>∃ xs,Sq K H t a xs∧xs.length=i⟩
abbrev eTn (e:Addr) (u:Sub) (i:Nat) (h:Heap):Prop:=(∃ old,IsEnum h e u.i (i:Int) old)∧u.At h i
theorem turn_enum {P:Program} {w:World} {K:PySem.W.Frag} {elts:List Expr} {k:Nat} {tp:Pos} {e:Addr} {u:Sub} (hne:e≠u.i) :
  Turn P w K (.Tuple elts k tp) (ItE K u.t u.l) [e,u.i] e (eTn e u) where
 mem:=by simp
 obj:=fun i h st b hb=>by
  obtain ⟨⟨old,he⟩,ha⟩:=st
  simp only [List.mem_cons,List.not_mem_nil,or_false] at hb
  rcases hb with rfl | rfl
  ·exact ⟨_,he,fun v q=>by cases q⟩
  ·obtain ⟨o,q,d⟩:=ha.obj
   exact ⟨o,q,fun v z=>by rw [d] at z; cases z⟩
 keep:=fun i h h' st kp=>⟨st.1.imp fun old he=>kp e (by simp) _ he,st.2.keep fun o q=>kp u.i (by simp) o q⟩
 item:=by
  intro X hP hw hK hc i pins s σ H E I hf st hg
  subst hP hw hK
  obtain ⟨⟨old,he⟩,ha⟩:=st
  obtain ⟨xs,x,hq,hx⟩:=hg
  obtain ⟨its,rv,hsrc⟩:=Sq.src I hq
  obtain ⟨v,hv,rx⟩:=rv.get hx
  have fe:=hf e (by simp)
  have fi:=hf u.i (by simp)
  have hli:u.l≠u.i:=Sq.ne I hq fi
  have hle:u.l≠e:=Sq.ne I hq fe
  have hi:i<its.toArray.size:=by have:=(List.getElem?_eq_some_iff.mp hv).1; simpa using this
  refine wpAny_pyNext_enum_itemD (sub_draws (prog:=X.prog) (w:=X.w) (show X.A.in1.handled=none from I.ok.hd hc) u hli its.toArray) he ⟨ha,hsrc⟩ hi hne (by simp only [List.mem_cons,List.not_mem_nil,or_false,not_or]; exact ⟨hne,Ne.symm hle⟩) fun y h1 tk hy z1 s1 p1 z2 k1=>?_
  have ey:y=v:=by
   have e1:its[i]?=some y:=by simpa using hy
   rw [hv] at e1; cases e1; rfl
  subst ey
  refine ⟨_,rfl,wpAny_letOwnedTupleGo_enum z1 fun h2 e2 sb2=>?_⟩
  have hzl:e<s.heap.objs.size:=Heap.lt_size he
  have hil:u.i<s.heap.objs.size:=by obtain ⟨o,q,_⟩:=ha.obj; exact Heap.lt_size q
  have kp:∀ b o,b≠e→b≠u.i→s.heap.get? b=some o→h2.get? b=some o:=fun b o b1 b2 q=>sb2.extBut _ _ b1 (k1 b o b1 b2 q)
  have hfr:H s.heap.objs.size=none:=I.hok.fresh (Nat.le_refl _)
  have trk:∀ b c,H b=some c→b≠e∧b≠u.i:=fun b c q=>⟨fun z=>(by subst z; rw [fe.1] at q; cases q),fun z=>(by subst z; rw [fi.1] at q; cases q)⟩
  have hP2:h2.get? s.heap.objs.size=some { cls:=.type "tuple",data:=.seq #[.int i tk,y] }:=sb2.extBut _ _ (Nat.ne_of_gt hzl) p1
  have rel:Vals [.int (i:Int),x] [.int i tk,y]:=.cons ⟨tk,rfl⟩ (.cons rx .nil)
  refine ⟨.ref s.heap.objs.size,upd H s.heap.objs.size (.tup [.int (i:Int),x]),?_,rfl,⟨_,_,rfl,hfr,rfl,?_⟩,⟨⟨y,?_⟩,?_⟩,fun b hb=>?_⟩
  ·show Inv X pins σ _ { s with heap:=h2,toks:=tk+1 }
   refine I.step (g':=s.gens) (t':=tk+1) (d':=s.drawn) (ch:=[e,u.i]) (fun b hb=>?_) (fun b o _ _ hc q _=>kp b o ?_ ?_ q) (fun b o _ _ hc q _=>⟨o.slots,kp b o ?_ ?_ q⟩) (fun b o hc q n=>?_) (fun b o hc q=>⟨o,kp b o ?_ ?_ q⟩) (fun b ys q=>?_) (fun b o c q=>?_) (fun b ps q=>?_) (fun m hm=>?_) ?_ I.bare
   ·simp only [List.mem_cons,List.not_mem_nil,or_false] at hb
    rcases hb with rfl | rfl
    ·exact ⟨fe.2.2.2.1,fe.2.1,fe.2.2.2.2.1,fe.2.2.2.2.2⟩
    ·exact ⟨fi.2.2.2.1,fi.2.1,fi.2.2.2.2.1,fi.2.2.2.2.2⟩
   all_goals first
    | (intro z; exact hc (by simp [z]; done))
    | skip
   ·rw [upd_ne (Nat.ne_of_lt (Heap.lt_size q))]; exact n
   ·rw [upd_ne (ne_of_none q hfr)]; exact q
   ·rw [upd_ne (ne_of_none q hfr)]; exact q
   ·exact ⟨#[],by rw [upd_ne (ne_of_none q hfr),q]; simp⟩
   ·obtain ⟨o,es,ep,ho,r⟩:=hm
    exact ⟨o,es,ep,kp _ o (Ne.symm fe.2.1) (Ne.symm fi.2.1) ho,r⟩
   ·intro b c q
    by_cases hb:b=s.heap.objs.size
    ·subst hb
     rw [upd_same] at q; cases q
     exact ⟨(show 2≤sizeLine by decide),_,rel,⟨_,hP2,rfl,_,rfl⟩⟩
    ·rw [upd_ne hb] at q
     refine (I.hok b c q).stay (fun d v hcc z=>?_) (fun d z=>by rw [upd_ne (ne_of_none z hfr)]; exact z) fun d ys z=>by rw [upd_ne (ne_of_none z hfr)]; exact z
     rcases hcc with rfl | hcc
     ·exact kp _ v (trk _ _ q).1 (trk _ _ q).2 z
     ·exact kp _ v (trk _ _ hcc).1 (trk _ _ hcc).2 z
  ·intro ys hy2
   rw [Sq.inj I hy2 hq]; exact hx
  ·have:((i+1:Nat):Int)=(i:Int)+1:=by omega
   rw [this]; exact e2
  ·exact s1.1.keep fun o q=>sb2.extBut _ _ (Ne.symm hne) q
  ·have:b≠s.heap.objs.size:=by
    simp only [List.mem_cons,List.not_mem_nil,or_false] at hb
    rcases hb with rfl | rfl
    ·exact Nat.ne_of_lt hzl
    ·exact Nat.ne_of_lt hil
   rw [upd_ne this]
   exact (hf b hb).1
 done:=by
  intro X hP hw hK hc i pins s σ H E I hf st hg
  subst hP hw hK
  obtain ⟨⟨old,he⟩,ha⟩:=st
  obtain ⟨xs,hq,hn⟩:=hg
  obtain ⟨its,rv,hsrc⟩:=Sq.src I hq
  have fe:=hf e (by simp)
  have fi:=hf u.i (by simp)
  have hli:u.l≠u.i:=Sq.ne I hq fi
  have hsz:its.toArray.size=i:=by have:=rv.length; simp; omega
  subst hsz
  refine wpAny_pyNext_enum_endD (sub_draws (prog:=X.prog) (w:=X.w) (show X.A.in1.handled=none from I.ok.hd hc) u hli its.toArray) he ⟨ha,hsrc⟩ fun h' eb=>⟨rfl,?_⟩
  obtain ⟨f0,f1,f2,f3,f4,f5⟩:=fi
  exact I.turned (t':=s.toks) (fun b o hb q=>eb b o hb q) f0 f1 f3 f4 f5
 self:=fun A i s Q E st h=>by
  obtain ⟨⟨old,he⟩,_⟩:=st
  exact wpAny_pyIter_enum he h
def iEnum (K:PySem.W.Frag) (ta:TA):TI:=fun σ H R=>ta σ H fun vs H1=>∃ t a xs,vs = [.ref a]∧Sq K H1 t a xs∧R (ItE K t a) H1
theorem bt_enumerate:bootBuiltins "enumerate" = some (.type "enumerate"):=by decide +kernel
section
variable {X:Cx}
theorem pi_enum {a:Expr} {elts:List Expr} {ta:TA} {p pos tp:Pos} {k:Nat} (hg:Gl X "enumerate") (hm:X.mg "enumerate" = none) (ha:PA X [a] ta) (hs:starEach [a] X.env = [(false,eval a X.env)]:=by rfl):PI X (.Tuple elts k tp) (.Call (.Name "enumerate" p) [a] [] pos) (iEnum X.K ta):=by
 intro pins s σ H R I h
 refine wpAny_Call_Name_kw (ld_blt I hg hm bt_enumerate ?_ (by decide) (by decide))
 refine PyProof.Rows.callWith_type1 (thn (ha pos pins s σ H _ I h) fun us s1 ⟨vs,H1,I1,r1,t,b,xs,e1,hq,q⟩=>?_) hs (by rfl)
 subst e1
 obtain ⟨u,rfl,ru⟩:=vals_one r1
 cases ru
 obtain ⟨its,rv,hsrc⟩:=Sq.src I1 hq
 refine call_enum (t:=t) (its:=its.toArray) (by unfold SrcAt; unfold Sub.Src at hsrc; exact hsrc) fun h' he hA hk=>wpAny_pyIter_enum he ?_
 have I2:Inv X pins σ H1 { s1 with heap:=h' }:=I1.kept (t':=s1.toks) hk
 have TE:=turn_enum (P:=X.prog) (w:=X.w) (K:=X.K) (elts:=elts) (k:=k) (tp:=tp) (e:=s1.heap.objs.size+1) (u:=⟨t,s1.heap.objs.size,b⟩) (neN (by show s1.heap.objs.size+1≠s1.heap.objs.size; omega))
 refine ⟨_,_,_,_,H1,rfl,I2,TE,⟨⟨_,he⟩,hA⟩,fun c hc=>?_,q⟩
 have hb':s1.heap.objs.size≤c:=by
  simp only [List.mem_cons,List.not_mem_nil,or_false] at hc
  rcases hc with rfl | rfl
  ·omega
  ·exact Nat.le_refl _
 exact I1.fpOk (H':=H1) hb' (I1.hok.fresh hb')
end
def enuW:List W→R (List W)
 | [w]=>match seqW w with
  | .ok xs=>.ok (xs.mapIdx fun i x=>W.tup [.int (i:Int),x])
  | _=>.stuck
 | _=>.stuck
section
variable {K:PySem.W.Frag} {EX:EXT} {H0 G H:Hp} {ρ:Rho} {σ:St}
theorem itok_enum {e:Mode} {Z:Hp} {t:Bool} {a:Addr} {xs:List V} {us:List W} (he:e=.V∨e=.U) (s1:Sq K Z t a xs) (r1:Reps K (fz e H0 G) xs us):ItOk K e H0 Z G (ItE K t a) (us.mapIdx fun i x=>W.tup [.int (i:Int),x]):=by
 have l1:=r1.length
 have hq:∀ H,Same Z H→Sq K H t a xs:=fun H z=>Sq.same z s1
 refine ⟨fun i H hi z=>?_,fun H z=>⟨xs,hq H z,by rw [List.length_mapIdx,l1]⟩,fun i H x H' w hw z y G2 ρ σ I sg=>?_⟩
 ·rw [List.length_mapIdx] at hi
  exact ⟨xs,xs[i]'(by omega),hq H z,by simp⟩
 ·obtain ⟨p,y1,rfl,hp,rfl,hy⟩:=y
  obtain ⟨w1,e1,q1⟩:=Reps.get' r1 (hy xs (hq H z))
  have hw':w=.tup [.int (i:Int),w1]:=by
   rw [List.getElem?_mapIdx,e1] at hw
   cases hw; rfl
  subst hw'
  obtain ⟨x1,x2⟩:=rep_new (Hs:=H) he I hp (.cons .int (.cons (q1.same (fz_same sg)) .nil))
  exact ⟨_,x1,x2⟩
theorem c_enum {lp:Bool} {e:Mode} {ma:Rho→R (List W)} {Rr:It→Hp→Prop} (he:e=.V∨e=.U) (h:tIt K EX lp e (fun ρ=>ma ρ>>=enuW) σ H Rr):iEnum K (tA K EX (srcM lp e) ma) σ H Rr:=by
 refine tIt_bind h (fun H0 G ρ G1 H1 xs ws us I e1 m1 q o=>?_) (fun ws e z=>?_)
 ·have I1:=I.ext e1
  unfold enuW at q
  split at q
  ·rename_i w
   cases hw:seqW w with
   | stuck=>rw [hw] at q; cases q
   | ex _=>rw [hw] at q; cases q
   | ok ls=>
    rw [hw] at q
    cases q
    cases m1 with
    | cons a1 m1=>
     cases m1
     obtain ⟨t1,p1,v1,rfl,q1,r1⟩:=Md.src he I1 a1 hw
     exact ⟨t1,p1,v1,rfl,sq_same (lp_H I1) q1,o _ G1 H1 e1 (itok_enum he q1 r1)⟩
  ·cases q
 ·unfold enuW at z
  split at z
  ·split at z <;> cases z
  ·cases z
end
section
variable {X:Cx} {K:PySem.W.Frag} {EX:EXT} {a:Expr} {pos:Pos} {mr:Rho→R (List W)}
theorem q_enuB {elts:List Expr} {p tp:Pos} {k:Nat} (hg:Gl X "enumerate") (hm:X.mg "enumerate" = none) (ha:PA X [a] (tA K EX .B mr)) (hK:X.K=K:=by rfl) (hs:starEach [a] X.env = [(false,eval a X.env)]:=by rfl):PI X (.Tuple elts k tp) (.Call (.Name "enumerate" p) [a] [] pos) (tIt K EX false .U (bI enuW mr)):=by
 subst hK; exact (pi_enum hg hm ha hs).mono fun _ _ _ q=>c_enum (lp:=false) (.inr rfl) q
end
section
variable {X:Cx}
end
end TP
set_option Elab.async false
set_option linter.all false
set_option maxRecDepth 100000
namespace TP
open PySem L2
def lexLt:List Int→List Int→Bool
 | [],[]=>false
 | [],_::_=>true
 | _::_,[]=>false
 | a::as,b::bs=>if a=b then lexLt as bs else decide (a<b)
theorem lex_irr:∀ a,lexLt a a=false
 | []=>rfl
 | x::a=>by unfold lexLt; rw [if_pos rfl]; exact lex_irr a
theorem lex_tr:∀ a b c,lexLt a b=true→lexLt b c=true→lexLt a c=true
 | [],[],_,h,_=>by cases h
 | [],_::_,[],_,h=>by cases h
 | [],_::_,_::_,_,_=>rfl
 | _::_,[],_,h,_=>by cases h
 | _::_,_::_,[],_,h=>by cases h
 | x::a,y::b,z::c,h1,h2=>by
  unfold lexLt at h1 h2 ⊢
  by_cases e1:x=y
  ·subst e1
   rw [if_pos rfl] at h1
   by_cases e2:x=z
   ·subst e2; rw [if_pos rfl] at h2 ⊢; exact lex_tr a b c h1 h2
   ·rw [if_neg e2] at h2 ⊢; exact h2
  ·rw [if_neg e1] at h1
   have h1:=of_decide_eq_true h1
   by_cases e2:y=z
   ·subst e2; rw [if_neg e1]; exact decide_eq_true h1
   ·rw [if_neg e2] at h2
    have h2:=of_decide_eq_true h2
    rw [if_neg (by omega)]; exact decide_eq_true (by omega)
theorem lex_tot:∀ a b,lexLt a b=false→lexLt b a=false→a=b
 | [],[],_,_=>rfl
 | [],_::_,h,_=>by cases h
 | _::_,[],_,h=>by cases h
 | x::a,y::b,h1,h2=>by
  unfold lexLt at h1 h2
  by_cases e:x=y
  ·subst e
   rw [if_pos rfl] at h1 h2
   rw [lex_tot a b h1 h2]
  ·rw [if_neg e] at h1
   rw [if_neg (fun z=>e z.symm)] at h2
   have h1:=of_decide_eq_false h1
   have h2:=of_decide_eq_false h2
   omega
def rankL (ss:List (List Int)) (i:Nat):Int:=((ss.countP fun x=>lexLt x (ss.getD i [])):Nat)
theorem cnt_lt {α:Type} {p q:α→Bool}:∀ {l:List α},(∀ x∈l,p x=true→q x=true)→(∃ x∈l,q x=true∧p x=false)→l.countP p<l.countP q
 | [],_,⟨_,h,_⟩=>nomatch h
 | x::l,h,⟨y,hy,hq,hp⟩=>by
  have h':∀ z∈l,p z=true→q z=true:=fun z hz=>h z (List.mem_cons_of_mem _ hz)
  have le:l.countP p≤l.countP q:=List.countP_mono_left h'
  rw [List.countP_cons,List.countP_cons]
  rcases List.mem_cons.mp hy with e | hy
  ·subst e
   rw [if_pos hq,hp,if_neg Bool.false_ne_true]; omega
  ·have:=cnt_lt h' ⟨y,hy,hq,hp⟩
   by_cases c:p x=true
   ·rw [if_pos c,if_pos (h x List.mem_cons_self c)]; omega
   ·rw [if_neg c]; split <;> omega
theorem getD_mem {ss:List (List Int)} {i:Nat} (h:i<ss.length):ss.getD i []∈ss:=by
 rw [List.getD_eq_getElem?_getD]; simp [h]
theorem rank_lt {ss:List (List Int)} {i j:Nat} (hi:i<ss.length) (hj:j<ss.length):decide (rankL ss i<rankL ss j)=lexLt (ss.getD i []) (ss.getD j []):=by
 cases h:lexLt (ss.getD i []) (ss.getD j []) with
 | true=>
  apply decide_eq_true
  unfold rankL
  have:=cnt_lt (l:=ss) (p:=fun x=>lexLt x (ss.getD i [])) (q:=fun x=>lexLt x (ss.getD j [])) (fun x _ hx=>lex_tr _ _ _ hx h) ⟨_,getD_mem hi,h,lex_irr _⟩
  omega
 | false=>
  apply decide_eq_false
  unfold rankL
  have:ss.countP (fun x=>lexLt x (ss.getD j []))≤ss.countP fun x=>lexLt x (ss.getD i []):=by
   apply List.countP_mono_left
   intro x _ hx
   cases h2:lexLt (ss.getD j []) (ss.getD i []) with
   | true=>exact lex_tr _ _ _ hx h2
   | false=>rw [lex_tot _ _ h h2]; exact hx
  omega
def ordL (ss:List (List Int)):List Nat:=if ss.length<2 then List.range ss.length else (runK (rankL ss) (PySem.W.kas_sort ss.length)).toList
def sortL (ss:List (List Int)):List (List Int):=(ordL ss).map fun i=>ss.getD i []
theorem ord_perm (ss:List (List Int)):(ordL ss).Perm (List.range ss.length):=by
 unfold ordL
 split
 ·exact .refl _
 ·rename_i h
  have:=(sort_ok (rankL ss) (n:=ss.length) (by omega)).1
  exact (Array.perm_iff_toList_perm.mp this).trans (by simp)
theorem range_map (ss:List (List Int)):(List.range ss.length).map (fun i=>ss.getD i [])=ss:=by
 apply List.ext_getElem
 ·simp
 ·intro i h1 h2; simp [h2]
theorem sort_perm (ss:List (List Int)):(sortL ss).Perm ss:=by
 have:=(ord_perm ss).map fun i=>ss.getD i []
 rw [range_map] at this
 exact this
theorem sort_up (ss:List (List Int)):(sortL ss).Pairwise fun a b=>lexLt b a=false:=by
 unfold sortL
 rw [List.pairwise_map]
 unfold ordL
 split
 ·rename_i h
  have:ss.length=0∨ss.length=1:=by omega
  rcases this with e | e <;> rw [e] <;> simp
 ·rename_i h
  have k:=sort_ok (rankL ss) (n:=ss.length) (by omega)
  have hp:=Array.perm_iff_toList_perm.mp k.1
  have hl:(runK (rankL ss) (PySem.W.kas_sort ss.length)).toList.length=ss.length:=by have:=hp.length_eq; simpa using this
  have hm:∀ x∈(runK (rankL ss) (PySem.W.kas_sort ss.length)).toList,x<ss.length:=fun x hx=>by have:=hp.mem_iff.mp hx; simpa using this
  have hu:=up_all (rankL ss) k.2
  generalize runK (rankL ss) (PySem.W.kas_sort ss.length)=p at hl hm hu
  rw [List.pairwise_iff_getElem]
  intro i j hi hj hij
  have:=hu j i (by omega) (by omega)
  unfold ky at this
  have ei:p.getD i 0=p.toList[i]:=by rw [Array.getD_eq_getD_getElem?]; simp at hi ⊢; simp [hi]
  have ej:p.getD j 0=p.toList[j]:=by rw [Array.getD_eq_getD_getElem?]; simp at hj ⊢; simp [hj]
  rw [ei,ej] at this
  rw [← rank_lt (hm _ (List.getElem_mem hj)) (hm _ (List.getElem_mem hi))]
  exact decide_eq_false (by omega)
def askP {α:Type} (n:Nat) (P:α→Prop):PySem.W.KasT α→Prop
 | .ret a=>P a
 | .ask i j k=>i<n∧j<n∧∀ b,askP n P (k b)
theorem ask_bind {α β:Type} {n:Nat} {P:α→Prop} {P':β→Prop} {f:α→PySem.W.KasT β}:∀ {t:PySem.W.KasT α},askP n P t→(∀ a,P a→askP n P' (f a))→askP n P' (t.bind f)
 | .ret a,h,hf=>hf a h
 | .ask i j k,h,hf=>⟨h.1,h.2.1,fun b=>ask_bind (h.2.2 b) hf⟩
def allLt (n:Nat) (p:Array Nat):Prop:=∀ x∈p,x<n
theorem allLt.perm {n:Nat} {p q:Array Nat} (h:allLt n p) (hp:q.Perm p):allLt n q:=fun x hx=>h x (hp.mem_iff.mp hx)
theorem allLt.at {n:Nat} {p:Array Nat} (h:allLt n p) (h0:0<n) (k:Nat):p.getD k 0<n:=by
 rw [Array.getD_eq_getD_getElem?]
 cases e:p[k]? with
 | none=>exact h0
 | some x=>exact h x (Array.mem_of_getElem? e)
section
open PySem.W PyProof.Rows
variable {n:Nat} (h0:0<n)
include h0
theorem ask_asc {p:Array Nat} (h:allLt n p):∀ f k,askP n (fun _=>True) (kas_asc p f k)
 | 0,_=>trivial
 | f+1,k=>⟨h.at h0 _,h.at h0 _,fun b=>by cases b <;> first | exact ask_asc h f (k+1) | trivial⟩
theorem ask_desc:∀ (f:Nat) (p:Array Nat) (k q:Nat),allLt n p→askP n (fun r:Array Nat×Nat×Nat=>allLt n r.1) (kas_desc f p k q)
 | 0,p,k,q,h=>h
 | f+1,p,k,q,h=>by
  refine ⟨h.at h0 _,h.at h0 _,fun b=>?_⟩
  cases b with
  | true=>
   dsimp only; rw [if_pos rfl]
   split
   ·exact ask_desc f _ _ _ (h.perm (mirror_perm _ _ _ _))
   ·exact ask_desc f _ _ _ h
  | false=>
   dsimp only; rw [if_neg Bool.false_ne_true]
   refine ⟨h.at h0 _,h.at h0 _,fun b=>?_⟩
   cases b with
   | true=>dsimp only; rw [if_pos rfl]; exact h
   | false=>dsimp only; rw [if_neg Bool.false_ne_true]; exact ask_desc f _ _ _ h
theorem ask_tail3 {p:Array Nat} {k m:Nat} (h:allLt n p):askP n (fun r:Nat×Array Nat=>allLt n r.2) (kas_tail3 k m p):=
 ask_bind (ask_asc h0 (h.perm (mirror_perm _ _ _ _)) _ _) fun _ _=>h.perm (mirror_perm _ _ _ _)
theorem ask_descPart {p:Array Nat} {k m:Nat} (h:allLt n p):askP n (fun r:Nat×Array Nat=>allLt n r.2) (kas_descPart k m p):=by
 refine ask_bind (ask_desc h0 _ _ _ _ h) fun r hr=>?_
 split
 ·exact ask_tail3 h0 (hr.perm (mirror_perm _ _ _ _))
 ·exact ask_tail3 h0 hr
theorem ask_count {p:Array Nat} {m:Nat} (h:allLt n p):askP n (fun r:Nat×Array Nat=>allLt n r.2) (kas_count m p):=by
 refine ask_bind (ask_asc h0 h _ _) fun r hr=>?_
 split
 ·exact h
 ·split
  ·refine ⟨h.at h0 _,h.at h0 _,fun b=>?_⟩
   cases b with
   | true=>dsimp only; rw [if_pos rfl]; exact h
   | false=>dsimp only; rw [if_neg Bool.false_ne_true]; exact ask_descPart h0 (h.perm (mirror_perm _ _ _ _))
  ·exact ask_descPart h0 h
theorem ask_place {p:Array Nat} {k:Nat} (h:allLt n p):∀ f l m,askP n (fun _=>True) (kas_place p k f l m)
 | 0,_,_=>trivial
 | f+1,l,m=>by
  unfold kas_place
  split
  ·trivial
  ·refine ⟨h.at h0 _,h.at h0 _,fun b=>?_⟩
   cases b with
   | true=>dsimp only; rw [if_pos rfl]; exact ask_place h f _ _
   | false=>dsimp only; rw [if_neg Bool.false_ne_true]; exact ask_place h f _ _
theorem ask_bin:∀ (f:Nat) (p:Array Nat) (k:Nat),allLt n p→askP n (fun _=>True) (kas_bin f p k)
 | 0,_,_,_=>trivial
 | f+1,p,k,h=>ask_bind (ask_place h0 h _ _ _) fun l _=>ask_bin f _ _ (h.perm (bubble_perm _ _ _))
theorem ask_sort:askP n (fun _=>True) (kas_sort n):=by
 refine ask_bind (ask_count h0 fun x hx=>by simpa using hx) fun r hr=>?_
 split
 ·exact ask_bin h0 _ _ _ hr
 ·trivial
end
theorem wp_run {n:Nat} {r:Nat→Int} {cmp:Nat→Nat→(Bool→Shared→Prop)→Shared→Prop} {s:Shared} (hc:∀ i j C,i<n→j<n→C (decide (r i<r j)) s→cmp i j C s) {α:Type} {P:α→Prop} {Q:α→Shared→Prop} :
  ∀ {t:PySem.W.KasT α},askP n P t→Q (runK r t) s→t.kasWp cmp Q s
 | .ret _,_,h=>h
 | .ask i j k,a,h=>hc i j _ a.1 a.2.1 (wp_run hc (a.2.2 _) h)
def katL (fin:Bool):List (Int×Int)→Bool
 | []=>fin
 | (a,b)::r=>if a=b then katL fin r else decide (a<b)
theorem katL_eq:∀ xs ys:List Int,katL (decide (xs.length<ys.length)) (xs.zip ys)=lexLt xs ys
 | [],[]=>rfl
 | [],_::_=>by simp [katL,lexLt]
 | _::_,[]=>by simp [katL,lexLt]
 | x::xs,y::ys=>by
  have:=katL_eq xs ys
  simp only [List.zip_cons_cons,katL,lexLt,List.length_cons,Nat.add_lt_add_iff_right]
  rw [this]
section
open PySem.W PyProof.Rows
variable {prog:Program} {w:World} {A:Around} {E:Value→Shared→Prop} {s:Shared}
theorem lex_wp {fin:Bool} {Q:Bool→Shared→Prop}:∀ (xs ys:List Int) (us vs:List Value) (i:Nat),Vals (xs.map V.int) us→Vals (ys.map V.int) vs→Q (katL fin (xs.zip ys)) s→KatLex prog w A true fin Q (us.zip vs) i s
 | [],_,_,_,_,.nil,_,h=>h
 | _::_,[],_,_,_,.cons _ _,.nil,h=>h
 | x::xs,y::ys,_,_,i,.cons r1 t1,.cons r2 t2,h=>by
  obtain ⟨t,rfl⟩:=r1
  obtain ⟨u,rfl⟩:=r2
  refine kat_cons (wpAny_eqBool_int ?_)
  simp only [List.zip_cons_cons,katL] at h
  by_cases e:x=y
  ·rw [if_pos e] at h
   rw [show (x == y)=true by simpa using e]
   exact kat_yes (lex_wp xs ys _ _ (i+1) t1 t2 h)
  ·rw [if_neg e] at h
   rw [show (x == y)=false by simpa using e]
   refine kat_no ?_
   cases i with
   | zero=>exact oneLt_int h
   | succ i=>exact kat_one _ _ (lt_int h)
def TupI (h:Heap) (v:Value) (xs:List Int):Prop:=∃ (a:Addr) (o:Obj) (its:List Value) (m:Nat),v=.ref a∧h.get? a=some o∧o.cls=.type "tuple" ∧ o.data=.seq its.toArray m∧Vals (xs.map V.int) its
theorem lt_tups {v u:Value} {xs ys:List Int} {Q:Bool→Shared→Prop} (hv:TupI s.heap v xs) (hu:TupI s.heap u ys) (h:Q (lexLt xs ys) s):wpAny (model prog w) A (keyLt' (tuples' true) v u) Q E s:=by
 obtain ⟨a,o,its,m,rfl,ho,_,hd,rv⟩:=hv
 obtain ⟨b,o2,its2,m2,rfl,ho2,_,hd2,rv2⟩:=hu
 refine kat_lt ho hd ho2 hd2 ?_
 have l1:=rv.length
 have l2:=rv2.length
 rw [List.length_map] at l1 l2
 refine lex_wp xs ys _ _ 0 rv rv2 ?_
 simp only [List.size_toArray,← l1,← l2]
 rw [katL_eq]; exact h
theorem tup_head {h:Heap} {v:Value} {xs:List Int} (hv:TupI h v xs) (hne:xs ≠ []):∃ (a:Addr) (o:Obj) (its:Array Value) (m:Nat) (i:Int) (tk:Tok),v=.ref a∧h.get? a=some o∧o.cls=.type "tuple" ∧ o.data=.seq its m∧its[0]?=some (.int i tk):=by
 obtain ⟨a,o,its,m,e,ho,hc,hd,rv⟩:=hv
 cases xs with
 | nil=>exact absurd rfl hne
 | cons x xs=>
  cases its with
  | nil=>cases rv
  | cons u its=>
   cases rv with
   | cons r1 _=>
    obtain ⟨tk,rfl⟩:=r1
    exact ⟨a,o,_,m,x,tk,e,ho,hc,hd,rfl⟩
theorem tups_kat {h:Heap}:∀ {vs:List Value} {ss:List (List Int)},Paired (fun v xs=>TupI h v xs∧xs ≠ []) vs ss→∃ fs:List Value,KatTups h vs fs∧fs.length=ss.length∧∀ f∈fs,∃ i t,f=.int i t
 | _,_,.nil=>⟨[],trivial,rfl,fun _ h=>nomatch h⟩
 | _,_,.cons hv t=>by
  obtain ⟨fs,k,hl,hi⟩:=tups_kat t
  obtain ⟨a,o,its,m,i,tk,e,ho,hc,hd,h0⟩:=tup_head hv.1 hv.2
  subst e
  refine ⟨.int i tk::fs,KatTups.cons ho hc hd h0 k,by rw [List.length_cons,List.length_cons,hl],fun f hf=>?_⟩
  rcases List.mem_cons.mp hf with q | hf
  ·exact ⟨i,tk,q⟩
  ·exact hi f hf
end
theorem paired_get {α β:Type} {F:α→β→Prop} {d:α}:∀ {as:List α} {bs:List β} {i:Nat},Paired F as bs→i<as.length→∃ b,bs[i]?=some b∧F (as.getD i d) b
 | _,_,_,.nil,h=>absurd h (Nat.not_lt_zero _)
 | _,_,0,.cons r _,_=>⟨_,rfl,r⟩
 | _,_,i+1,.cons _ t,h=>by
  obtain ⟨b,e,q⟩:=paired_get (d:=d) (i:=i) t (by simpa using h)
  exact ⟨b,by simpa using e,by simpa using q⟩
theorem paired_swap {α β γ:Type} {F:α→β→Prop} {G:α→γ→Prop} {R:β→γ→Prop}:∀ {as:List α} {bs:List β} {cs:List γ},Paired F as bs→Paired G as cs→(∀ a b c,F a b→G a c→R b c)→Paired R bs cs
 | _,_,_,.nil,.nil,_=>.nil
 | _,_,_,.cons a r,.cons b t,h=>.cons (h _ _ _ a b) (paired_swap r t h)
section
open PySem.W PyProof.Rows
variable {prog:Program} {w:World} {A:Around} {E:Value→Shared→Prop} {s:Shared}
def outL {α:Type} (ss:List (List Int)) (d:α) (vs:List α):List α:=(ordL ss).map fun i=>vs.getD i d
theorem outL_small {α:Type} {ss:List (List Int)} {d:α} {vs:List α} (hl:vs.length=ss.length) (h:ss.length<2):outL ss d vs=vs:=by
 unfold outL ordL
 rw [if_pos h,← hl]
 apply List.ext_getElem
 ·simp
 ·intro i h1 h2; simp [h2]
theorem outL_len {α:Type} (ss:List (List Int)) (d:α) (vs:List α):(outL ss d vs).length=ss.length:=by
 unfold outL
 rw [List.length_map,(ord_perm ss).length_eq,List.length_range]
theorem sort_call {a:Addr} {vs:List Value} {ss:List (List Int)} {n:Nat} {P:PySem.Fin→Shared→Prop} (ho:s.heap.get? a=some (seqObj "list" vs.toArray n)) (hl:vs.length=ss.length) (h64:ss.length<64)
  (ht:∀ h':Heap,(∀ b o,b≠a→s.heap.get? b=some o→h'.get? b=some o)→Paired (fun v xs=>TupI h' v xs∧xs ≠ []) vs ss)
  (hyp:P (.done (.ret .none)) { s with heap:=sortedHeap s.heap a vs (outL ss Value.none vs).toArray }):wpAny (model prog w) A (Builtin.«list.sort» ⟨[.ref a],[]⟩) P E s:=by
 rw [list_sort_plain]; have ha:=Heap.lt_size ho
 refine wpAny_bind (listItems_at ho rfl (wpAny_bind (listUpdate_at ho rfl ?_ (by rw [List.size_toArray,sizeLine_eq]; omega) (Nat.zero_le _))))
 obtain ⟨ep,hp⟩:∃ ep,(s.heap.update a (Obj.mapSeq fun _=>(#[]:Array Value))).get? a=some (seqObj "list" #[] ep):=⟨_,get?_update_seq ho fun _=>#[]⟩
 refine wpAny_bind (seqEpoch_at hp rfl (wpAny_bind (wpAny_newTuple (wpAny_bind (wpAny_newList (wpAny_holding ?_) (Nat.zero_le _))) (by show vs.length≤_; rw [sizeLine_eq]; omega))))
 generalize hh:((s.heap.update a (Obj.mapSeq fun _=>(#[]:Array Value))).push (seqObj "tuple" vs.toArray 0)).push (seqObj "list" #[] 0)=h6
 have h6a:h6.get? a=some (seqObj "list" #[] ep):=by rw [← hh]; exact Heap.get?_push_of_some _ (Heap.get?_push_of_some _ hp)
 have h6k:∀ b o,b≠a→s.heap.get? b=some o→h6.get? b=some o:=fun b o hb e=>by rw [← hh]; exact Heap.get?_push_of_some _ (Heap.get?_push_of_some _ (by rw [Heap.get?_update_ne _ _ _ _ hb]; exact e))
 have hfin:sortedHeap s.heap a vs (outL ss Value.none vs).toArray=h6.update a (Obj.mapSeq fun _=>(outL ss Value.none vs).toArray):=by rw [← hh]; rfl
 rw [hfin] at hyp
 show wpAny (model prog w) A _ P E { s with heap:=h6 }
 dsimp only
 have hs0:vs.toArray.size=vs.length:=by simp
 have hz2:(outL ss Value.none vs).toArray.size≤sizeLine+1:=by rw [List.size_toArray,outL_len,sizeLine_eq]; omega
 by_cases c2:vs.toArray.size<2
 ·rw [if_pos c2,if_pos c2]
  refine wpAny_bind (wpAny_pure ?_)
  rw [StateT.run_pure]
  refine wpAny_bind (wpAny_pure ?_)
  dsimp only
  have eo:Array.map (fun x=>x.snd) (arrOf (SortSt.mk' general' (vs.toArray.zip vs.toArray) #[] 7 none))=(outL ss Value.none vs).toArray:=by
   rw [outL_small hl (by omega)]
   show Array.map (fun x=>x.snd) (vs.toArray.zip vs.toArray)=vs.toArray
   apply Array.toList_inj.mp
   rw [Array.toList_map,Array.toList_zip]
   apply List.ext_getElem
   ·simp
   ·intro i h1 h2; simp
  rw [eo]
  refine wpAny_bind (seqEpoch_at h6a rfl (wpAny_bind (listUpdate_at h6a rfl ?_ (Nat.zero_le _) hz2)))
  simp only [bne_self_eq_false,Bool.false_eq_true,if_false]
  exact wpAny_pure hyp
 ·rw [if_neg c2,if_neg c2]
  have tt:=ht h6 h6k
  obtain ⟨fs,kt,fl,fi⟩:=tups_kat tt
  refine wpAny_bind (kat_kind (s:={ s with heap:=h6 }) (T:=.type "int") kt (by omega) (fun v hv=>?_) (by decide) ?_)
  ·obtain ⟨i,t,rfl⟩:=fi v hv
   exact Looks.of_pure rfl
  have hw:(kas_sort vs.length).kasWp (kas_ask prog w A (tuples' (Value.type "int" != Value.type "tuple")) vs) (fun p s'=>s'={ s with heap:=h6 }∧p.toList=ordL ss) { s with heap:=h6 }:=by
   refine wp_run (n:=vs.length) (r:=rankL ss) (fun i j C hi hj hC=>?_) (ask_sort (by omega)) ⟨rfl,?_⟩
   ·obtain ⟨x,hx,tx⟩:=paired_get tt hi
    obtain ⟨y,hy,ty⟩:=paired_get tt hj
    rw [rank_lt (by omega) (by omega)] at hC
    have ex:ss.getD i []=x:=by rw [List.getD_eq_getElem?_getD,hx]; rfl
    have ey:ss.getD j []=y:=by rw [List.getD_eq_getElem?_getD,hy]; rfl
    rw [ex,ey] at hC
    exact lt_tups (s:={ s with heap:=h6 }) tx.1 ty.1 hC
   ·unfold ordL
    rw [if_neg (by omega),hl]
  refine wpAny_bind (wpAny_mono (kat_run (Q:=fun st' s'=>s'={ s with heap:=h6 }∧(arrOf st').map (·.2)=(outL ss Value.none vs).toArray∧failedOf st'=none) rfl (by omega) (by omega) (fun p st' s' a1 a2 a3 a4=>⟨a4.1,by rw [kat_snds rfl a2,a4.2]; rfl,a3⟩) hw) ?_ fun _ _ e=>e)
  rintro ⟨⟨⟩,st'⟩ s' ⟨rfl,ho',hf'⟩
  dsimp only
  rw [ho']
  refine wpAny_bind (seqEpoch_at h6a rfl (wpAny_bind (listUpdate_at h6a rfl ?_ (Nat.zero_le _) hz2)))
  rw [hf']
  simp only [bne_self_eq_false,Bool.false_eq_true,if_false]
  exact wpAny_pure hyp
theorem sorted_call {l:Addr} {vs:List Value} {ss:List (List Int)} {Q:Value→Shared→Prop} (hL:s.heap.IsList l vs.toArray) (hl:vs.length=ss.length) (h64:ss.length<64)
  (ht:Paired (fun v xs=>TupI s.heap v xs∧xs ≠ []) vs ss) (hyp:Q (.ref (s.heap.objs.size+1)) { s with heap:=sortedAll s.heap vs (outL ss Value.none vs).toArray }):wpAny (model prog w) A (call (.builtin "sorted") [.ref l]) Q E s:=by
 refine Calls.call_function_entry kind_sorted plain_sorted entry_sorted (args_sorted1 _) ?_
 unfold Builtin.«sorted»; refine wpAny_bind (m:=checkCount "sorted" 1 1 _) (wpAny_pure (wpAny_bind (collect_list hL (wpAny_bind (wpAny_newList ?_ (by rw [sizeLine_eq]; omega))) (by rw [sizeLine_eq]; omega))))
 generalize hg:(s.heap.push (seqObj "list" #[] 0)).update s.heap.objs.size (Obj.mapSeq (·++vs.toArray))=g
 have gz:g.objs.size=s.heap.objs.size+1:=by rw [← hg,Heap.size_update,size_push']
 have gk:∀ b o,s.heap.get? b=some o→g.get? b=some o:=fun b o e=>by
  have hlt:=Heap.lt_size e
  rw [← hg,Heap.get?_update_ne _ _ _ _ (Nat.ne_of_lt hlt)]; exact Heap.get?_push_of_some _ e
 have go:(g.push (seqObj "list" vs.toArray 0)).get? (s.heap.objs.size+1)=some (seqObj "list" vs.toArray 0):=by rw [← gz]; exact Heap.get?_push_size _ rfl
 have ea:sortedAll s.heap vs (outL ss Value.none vs).toArray=sortedHeap (g.push (seqObj "list" vs.toArray 0)) (s.heap.objs.size+1) vs (outL ss Value.none vs).toArray:=by rw [← hg]; rfl
 rw [ea] at hyp
 show wpAny _ _ _ _ _ { s with heap:=g.push (seqObj "list" vs.toArray 0) }
 rw [gz]
 refine wpAny_bind (wpAny_holding (wpAny_call_entry slot_list_sort ⟨_,go,rfl⟩ entry_list_sort (sort_call go hl h64 (fun h' hk=>?_) ⟨_,rfl,wpAny_pure ⟨_,rfl,hyp⟩⟩) (args_list_sort _)))
 refine Paired.mapP ht fun v xs hv=>⟨?_,hv.2⟩
 obtain ⟨a,o,its,m,rfl,h1,h2,h3,h4⟩:=hv.1
 exact ⟨a,o,its,m,rfl,hk a o (Nat.ne_of_lt (Nat.lt_succ_of_lt (Heap.lt_size h1))) (Heap.get?_push_of_some _ (gk a o h1)),h2,h3,h4⟩
end
theorem vals_out {ss:List (List Int)} {ys:List V} {its:List Value} (r:Vals ys its) (hl:ys.length=ss.length):Vals (outL ss V.non ys) (outL ss Value.none its):=paired_map fun i hi=>by
 have hi':i<ys.length:=by have:=(ord_perm ss).mem_iff.mp hi; rw [List.mem_range] at this; omega
 obtain ⟨u,e,q⟩:=paired_get (d:=V.non) r hi'
 rw [show its.getD i Value.none=u by rw [List.getD_eq_getElem?_getD,e]; rfl]
 exact q
theorem bt_sorted:bootBuiltins "sorted" = some (.builtin "sorted"):=by decide +kernel
section
variable {X:Cx} {K:PySem.W.Frag}
theorem call_sortT (hK:X.K=K:=by rfl):CallR X (.builtin "sorted") (fun xs H Q=>∃ p ys ss,xs = [.ref p]∧SqL K H p ys∧Paired (fun v zs=>(∃ a,v=.ref a∧SqT K H a (zs.map V.int))∧zs ≠ []) ys ss∧ss.length<64∧∀ l,H l=none→Q (.ref l) (upd H l (.lst (outL ss V.non ys)))):=by
 subst hK
 intro pins s σ H xs us Q I r h
 obtain ⟨p,ys,ss,rfl,hq,ht,h64,q⟩:=h
 obtain ⟨u,rfl,ru⟩:=vals_one r
 cases ru
 obtain ⟨its,rv,pl,hz⟩:=I.list hq
 have hlen:=rv.length
 have hys:ys.length=ss.length:=Paired.length ht
 have tt:Paired (fun v xs=>TupI s.heap v xs∧xs ≠ []) its ss:=paired_swap rv ht fun v u zs r1 r2=>by
  obtain ⟨⟨a,rfl,hs⟩,hne⟩:=r2
  cases r1
  obtain ⟨its2,rv2,⟨o,e,c,k,dd⟩,_⟩:=I.tuple hs
  exact ⟨⟨a,o,its2,k,rfl,e,c,dd,rv2⟩,hne⟩
 refine sorted_call pl.isList (by omega) h64 tt ?_
 obtain ⟨e,he⟩:=PyProof.Rows.sortedAll_at s.heap its (outL ss Value.none its).toArray
 have hle:s.heap.objs.size≤s.heap.objs.size+1:=Nat.le_succ _
 refine ⟨.ref (s.heap.objs.size+1),_,I.laid (t':=s.toks) (fun b o q=>PyProof.Rows.sortedAll_old q) hle (show ObjOk X.prog X.w _ _ _ (.lst (outL ss V.non ys)) from ⟨by rw [outL_len]; exact Nat.le_trans (Nat.le_of_lt h64) (by decide),outL ss Value.none its,e,vals_out rv (by omega),he⟩),rfl,q _ (I.hok.fresh hle)⟩
end
def tupsW:List W→Option (List (List Int))
 | []=>some []
 | .tup ws::r=>match intsW ws,tupsW r with
  | some x,some xs=>some (x::xs)
  | _,_=>none
 | _=>none
theorem tups_map:∀ ss:List (List Int),tupsW (ss.map fun x=>W.tup (x.map W.int))=some ss
 | []=>rfl
 | x::ss=>by
  show (match intsW (x.map W.int),tupsW (ss.map fun x=>W.tup (x.map W.int)) with | some x,some xs=>_ | _,_=>_)=_
  rw [ints_map,tups_map ss]
def fSort:List W→R W
 | [w]=>match lstOf w with
  | some ws=>match tupsW ws with
   | some ss=>if ss.length<64∧ss.all (fun x=>!x.isEmpty)=true then .ok (.lst ((sortL ss).map fun x=>W.tup (x.map W.int))) else .stuck
   | none=>.stuck
  | none=>.stuck
 | _=>.stuck
theorem ints_inv:∀ {ws:List W} {x:List Int},intsW ws=some x→ws=x.map W.int
 | [],_,h=>by cases h; rfl
 | w::ws,x,h=>by
  cases w <;> first | (cases h; done) | skip
  rename_i i
  have h':(match intsW ws with | some bs=>some (i::bs) | none=>none)=some x:=by first | exact h | (simp only [intsW] at h; revert h; cases intsW ws <;> simp)
  cases hw:intsW ws with
  | none=>rw [hw] at h'; cases h'
  | some bs=>rw [hw] at h'; cases h'; rw [ints_inv hw]; rfl
theorem tups_inv:∀ {ws:List W} {ss:List (List Int)},tupsW ws=some ss→ws=ss.map fun x=>W.tup (x.map W.int)
 | [],_,h=>by cases h; rfl
 | w::r,ss,h=>by
  cases w <;> first | (cases h; done) | skip
  rename_i ws
  have h':(match intsW ws,tupsW r with | some x,some xs=>some (x::xs) | _,_=>none)=some ss:=h
  cases h1:intsW ws with
  | none=>rw [h1] at h'; cases h'
  | some x=>
   cases h2:tupsW r with
   | none=>rw [h1,h2] at h'; cases h'
   | some xs=>rw [h1,h2] at h'; cases h'; rw [ints_inv h1,tups_inv h2]; rfl
theorem noL_ints':∀ ns:List Int,noLs (ns.map W.int)=true
 | []=>rfl
 | n::ns=>by rw [List.map_cons]; simp only [noLs,noL,noL_ints' ns,Bool.and_self]
theorem noL_tups:∀ ss:List (List Int),noLs (ss.map fun x=>W.tup (x.map W.int))=true
 | []=>rfl
 | x::ss=>by rw [List.map_cons]; simp only [noLs,noL,noL_ints' x,noL_tups ss,Bool.and_self]
section
variable {K:PySem.W.Frag}
theorem reps_tups {F:Hp}:∀ {ys:List V} {ss:List (List Int)},Reps K F ys (ss.map fun x=>W.tup (x.map W.int))→(∀ x∈ss,x ≠ [])→Paired (fun v zs=>(∃ a,v=.ref a∧F a=some (.tup (zs.map V.int)))∧zs ≠ []) ys ss
 | _,[],.nil,_=>.nil
 | _,x::ss,.cons r t,hne=>by
  refine .cons ⟨?_,hne x List.mem_cons_self⟩ (reps_tups t fun y hy=>hne y (List.mem_cons_of_mem _ hy))
  cases r with
  | tup ha hr=>exact ⟨_,rfl,by rw [ha,Reps.ints hr (ints_map x)]⟩
theorem reps_at {F:Hp}:∀ {ys:List V} {ws:List W} {i:Nat},Reps K F ys ws→i<ys.length→∃ w,ws[i]?=some w∧Rep K F (ys.getD i .non) w
 | _,_,_,.nil,h=>absurd h (Nat.not_lt_zero _)
 | _,_,0,.cons r _,_=>⟨_,rfl,r⟩
 | _,_,i+1,.cons _ t,h=>by
  obtain ⟨b,e,q⟩:=reps_at (i:=i) t (by simpa using h)
  exact ⟨b,by simpa using e,by simpa using q⟩
theorem reps_map {F:Hp} {f:Nat→V} {g:Nat→W}:∀ {l:List Nat},(∀ i∈l,Rep K F (f i) (g i))→Reps K F (l.map f) (l.map g)
 | [],_=>.nil
 | _::_,h=>.cons (h _ List.mem_cons_self) (reps_map fun b hb=>h b (List.mem_cons_of_mem _ hb))
theorem reps_out {F:Hp} {ys:List V} {ss:List (List Int)} (r:Reps K F ys (ss.map fun x=>W.tup (x.map W.int))):Reps K F (outL ss V.non ys) ((sortL ss).map fun x=>W.tup (x.map W.int)):=by
 have hl:=r.length
 rw [List.length_map] at hl
 unfold sortL outL
 rw [List.map_map]
 refine reps_map fun i hi=>?_
 have hi':i<ss.length:=by have:=(ord_perm ss).mem_iff.mp hi; rwa [List.mem_range] at this
 obtain ⟨w,e,q⟩:=reps_at (i:=i) r (by omega)
 rw [List.getElem?_map] at e
 have:ss[i]?=some (ss.getD i []):=by rw [List.getD_eq_getElem?_getD]; simp [hi']
 rw [this] at e
 cases e
 exact q
theorem b_sort {c:Bool}:Cal K (cb c) .F (fun xs H Q=>∃ p ys ss,xs = [.ref p]∧SqL K H p ys∧Paired (fun v zs=>(∃ a,v=.ref a∧SqT K H a (zs.map V.int))∧zs ≠ []) ys ss∧ss.length<64∧∀ l,H l=none→Q (.ref l) (upd H l (.lst (outL ss V.non ys)))) fSort:=by
 intro EX H0 Hs G H ρ σ Ha vs ws Q I s m o
 cases m with
 | nil=>exact o.elim
 | cons a t=>
  cases t with
  | cons _ _=>exact o.elim
  | nil=>
   rename_i w v
   unfold fSort at o
   cases hl:lstOf w with
   | none=>simp only [hl] at o; exact o.elim
   | some us=>
    simp only [hl] at o
    cases ht:tupsW us with
    | none=>simp only [ht] at o; exact o.elim
    | some ss=>
     simp only [ht] at o
     by_cases hc:ss.length<64∧ss.all (fun x=>!x.isEmpty)=true
     ·rw [if_pos hc] at o
      obtain ⟨p,ys,rfl,hs,r⟩:=Md.lstOf I a hl
      rw [tups_inv ht] at r
      have hne:∀ x∈ss,x ≠ []:=fun x hx=>by
       have:=List.all_eq_true.mp hc.2 x hx
       intro e; subst e; simp at this
      have sm:Same (if c then G else join H0 G) H:=by
       cases c with
       | true=>rw [if_pos rfl]; exact I.gh
       | false=>rw [if_neg Bool.false_ne_true]; exact I.join_H
      refine ⟨p,ys,ss,rfl,hs,Paired.mapP (reps_tups r hne) fun v zs h=>⟨?_,h.2⟩,hc.1,Out.chks (EX:=EX) (c:=c) I s (reps_out r) ?_⟩
      ·obtain ⟨b,e,q⟩:=h.1
       exact ⟨b,e,SqT.of (sm _ _ q)⟩
      ·have e:TP.chks c ((sortL ss).map fun x=>W.tup (x.map W.int))=.ok (.lst ((sortL ss).map fun x=>W.tup (x.map W.int))):=by
        unfold TP.chks
        rw [noL_tups,Bool.or_true,if_pos rfl]
       rw [e]; exact o
     ·rw [if_neg hc] at o; exact o.elim
end
end TP
set_option Elab.async false
set_option linter.all false
set_option maxRecDepth 100000
namespace TP
open PySem L2
set_option maxHeartbeats 2000000
section
variable {X:Cx} {K:PySem.W.Frag}
end
section
variable {K:PySem.W.Frag}
end
end TP
set_option Elab.async false
set_option linter.all false
set_option maxRecDepth 100000
namespace L2
open PySem PySem.Spec PyProof.Rows
section
variable {X:Cx} {pins:List (Addr×Obj)} {σ:St} {H:Hp} {s:Shared} {A:Around} {E:Value→Shared→Prop} {Q:Value→Shared→Prop} {b:Bool}
end
end L2
namespace TP
open PySem L2
section
variable {K:PySem.W.Frag} {d:Mode}
end
end TP
set_option Elab.async false
set_option linter.all false
set_option maxRecDepth 100000
namespace HT
open PySem PyProof.Rows
section
variable {prog:Program} {w:World} {A:Around} {E:Value→Shared→Prop} {s:Shared}
end
end HT
namespace TP
open PySem L2
section
variable {X:Cx}
end
section
variable {K:PySem.W.Frag} {EX:EXT} {H0 G H:Hp} {ρ:Rho} {σ:St} {Q:VK}
end
section
variable {X:Cx} {K:PySem.W.Frag} {EX:EXT} {e:Expr} {pos:Pos} {ma:Rho→R W}
end
end TP
set_option Elab.async false
set_option linter.all false
set_option maxRecDepth 100000
namespace TP
open PySem L2
section
variable {K:PySem.W.Frag} {EX:EXT} {H0 G H G1 H1 F:Hp} {ρ:Rho} {σ:St} {d:Mode} {D:Ends}
end
section
variable {X:Cx} {K:PySem.W.Frag} {EX:EXT} {d:Mode} {e k v:Expr} {pos:Pos} {mk me:Rho→R W}
end
end TP
namespace TP
open PySem L2
set_option maxHeartbeats 2000000
section
variable {X:Cx} {K:PySem.W.Frag}
end
section
variable {K:PySem.W.Frag}
end
end TP
namespace TP
open PySem L2
section
variable {X:Cx} {K:PySem.W.Frag} {EX:EXT} {d:Mode} {p:Pos} {es:List Expr} {mr:Rho→R (List W)}
end
end TP
set_option Elab.async false
set_option linter.all false
set_option maxRecDepth 100000
namespace TB
open PySem PySem.W
end TB
namespace Att
open PySem PySem.W PySem.Calls PyProof.Rows
end Att
namespace L2
open PySem PySem.Spec PyProof.Rows
end L2
namespace TP
open PySem L2
def CMulB (i j:Int):Prop:=CMul i j∨Builtin.Int.intBits i+Builtin.Int.intBits j≤134217728
instance (i j:Int):Decidable (CMulB i j):=by unfold CMulB; infer_instance
section
variable {X:Cx}
end
end TP
set_option Elab.async false
set_option linter.all false
set_option maxRecDepth 100000
namespace TL
open PySem
section
variable {prog:Program} {w:World} {A:Around} {E:Value→Shared→Prop} {s:Shared}
end
end TL
namespace TP
open PySem L2
section
variable {X:Cx}
end
section
variable {K:PySem.W.Frag} {EX:EXT} {σ:St} {H:Hp} {Q:VK}
end
section
variable {X:Cx} {K:PySem.W.Frag} {EX:EXT} {a:Expr} {pos:Pos} {mr:Rho→R (List W)}
end
end TP
set_option Elab.async false
set_option linter.all false
set_option maxRecDepth 100000
namespace TP
open PySem L2
section
variable {X:Cx}
end
section
variable {K:PySem.W.Frag} {EX:EXT} {d:Mode} {σ:St} {H:Hp} {Q:VK}
end
section
variable {X:Cx} {K:PySem.W.Frag} {EX:EXT} {d:Mode} {o e:Expr} {apos cpos:Pos} {mo me:Rho→R W}
end
end TP
set_option Elab.async false
set_option linter.all false
set_option maxRecDepth 100000
namespace TP
open PySem L2
def OutW (K:PySem.W.Frag) (EX:EXT) (d:Mode) (H0:Hp) (r:R Fl) (D:Ends):Prop:=match r with
 | .ok (.nx ρ)=>∀ G' σ' H',PIv K H0 G' ρ σ' H'→D.nx σ' H'
 | .ok (.bk ρ)=>∀ G' σ' H',PIv K H0 G' ρ σ' H'→D.bk σ' H'
 | .ok (.ct ρ)=>∀ G' σ' H',PIv K H0 G' ρ σ' H'→D.ct σ' H'
 | .ok (.rt w)=>∀ v G' H',Same G' H'→Same H0 H'→(∀ a o,H0 a=some o→isL o=true→G' a=none)→Md K H0 H0 G' H' v w d→D.rt v H'
 | .ex e=>∀ H',Same H0 H'→EX e H'
 | .stuck=>False
section
variable {K:PySem.W.Frag} {EX:EXT} {H0 G H G1 H1 G2 H2:Hp} {ρ:Rho} {σ:St} {d:Mode} {D:Ends}
theorem XD.away {l:Addr} {vs:List V} {o:HO} (gl:G l=some (.lst vs)) {od:Option Addr}:∀ {i:Option Int},XD G od i→XD (upd G l o) od i
 | none,h=>h
 | some _,⟨d,h1,h2⟩=>⟨d,h1,by
  rw [upd_ne]
  ·exact h2
  ·rintro rfl; rw [gl] at h2; cases h2⟩
mutual
theorem Rep.away {l:Addr} {vs:List V} {o:HO} (gl:G l=some (.lst vs)):∀ {v:V} {w:W},Rep K G v w→noL w=true→Rep K (upd G l o) v w
 | _,_,.non,_=>.non
 | _,_,.bl,_=>.bl
 | _,_,.int,_=>.int
 | _,_,.str,_=>.str
 | _,_,.ty,_=>.ty
 | _,_,.tup (a:=a) h r,n=>by
  refine .tup ?_ (Reps.away gl r (by simpa [noL] using n))
  rw [upd_ne]
  ·exact h
  ·rintro rfl; rw [gl] at h; cases h
 | _,_,.lst _ _,n=>by simp [noL] at n
 | _,_,.scr _ _,n=>by simp [noL] at n
 | _,_,.exc h1 h2 h3 h4 h5,_=>.exc (by
  rw [upd_ne]
  ·exact h1
  ·rintro rfl; rw [gl] at h1; cases h1) h2 h3 h4 (XD.away gl h5)
 | _,_,.cls h,_=>.cls h
theorem Reps.away {l:Addr} {vs:List V} {o:HO} (gl:G l=some (.lst vs)):∀ {us:List V} {ws:List W},Reps K G us ws→noLs ws=true→Reps K (upd G l o) us ws
 | _,_,.nil,_=>.nil
 | _,_,.cons (w:=w) (ws:=ws) h r,n=>by
  have n':noL w=true∧noLs ws=true:=by simpa [noLs] using n
  exact .cons (Rep.away gl h n'.1) (Reps.away gl r n'.2)
end
def clS:Sl→Sl
 | .un=>.un
 | .val w=>if noL w=true then .val w else .un
 | .par w=>if noL w=true then .val w else .un
 | .own ws=>if noLs ws=true then .own ws else .un
 | .dic ks=>.dic ks
 | .dik ks=>.dik ks
 | .iop p ws=>if noLs ws=true then .iop p ws else .un
 | .hz _=>.un
def subS (i j:Nat) (us ws':List W) (ρ:Rho):Rho:=(ρ.map clS).set i (.val (.tup (us.set j (.lst ws'))))
end
section
variable {X:Cx} {K:PySem.W.Frag} {EX:EXT} {d:Mode} {e:Expr} {pos:Pos} {ma:Rho→R W} {m n:Rho→R Fl} {ta:Rho→R Bool} {st:Stmt} {sts:List Stmt}
end
end TP
namespace TP
open PySem L2
set_option maxHeartbeats 2000000
section
variable {X:Cx} {K:PySem.W.Frag}
end
section
variable {K:PySem.W.Frag}
end
end TP
set_option Elab.async false
set_option linter.all false
set_option maxRecDepth 100000
namespace TP
open PySem L2
def Hx (p:Addr) (H0 H1:Hp):Prop:=(∀ a,a≠p→H1 a=H0 a)∧∃ vs,H1 p=some (.lst vs)
def OutIo (K:PySem.W.Frag) (EX:EXT) (p:Addr) (H0:Hp) (r:R Fl) (D:Ends):Prop:=match r with
 | .ok (.nx ρ)=>∀ H0' G' σ' H',Hx p H0 H0'→PIv K H0' G' ρ σ' H'→D.nx σ' H'
 | .ok (.bk ρ)=>∀ H0' G' σ' H',Hx p H0 H0'→PIv K H0' G' ρ σ' H'→D.rt .non H'
 | .ex e=>∀ H',EX e H'
 | _=>False
def nbR:R Fl→R Fl
 | .ok (.nx ρ)=>.ok (.nx ρ)
 | .ex e=>.ex e
 | _=>.stuck
def nb (m:Rho→R Fl):Rho→R Fl:=fun ρ=>nbR (m ρ)
section
variable {K:PySem.W.Frag} {EX:EXT} {H0 H0' G H G1 H1 G2 H2:Hp} {ρ:Rho} {σ:St} {d:Mode} {D:Ends} {p:Addr}
def clI:Sl→Sl
 | .un=>.un
 | .val w=>.val w
 | .par w=>if noL w=true then .val w else .un
 | .own ws=>.own ws
 | .dic ks=>.dic ks
 | .dik ks=>.dik ks
 | .iop _ _=>.un
 | .hz _=>.un
def ioR (p:Addr) (ρ:Rho):R (List W):=match (ρ[1]?:Option Sl) with
 | some (.iop q cs)=>if q=p then .ok cs else .stuck
 | _=>.stuck
def runIO (n N:Nat) (m:Addr→Rho→R Fl) (p:Addr) (w1:W) (cs wr:List W):R (List W):=if wr.length+2=n∧noLs cs=true then (match m p (.par w1::.iop p cs::(wr.map Sl.par++List.replicate (N-n) Sl.un)) with
 | .ok (.nx ρ)=>ioR p ρ
 | .ok (.bk ρ)=>ioR p ρ
 | _=>.stuck) else .stuck
open Classical in
noncomputable def runIOA (n N:Nat) (m:Addr→Rho→R Fl) (w1:W) (cs wr:List W):R (List W):=if h:∃ cs',∀ p,runIO n N m p w1 cs wr=.ok cs' then .ok (Classical.choose h) else .stuck
end
section
variable {X:Cx} {K:PySem.W.Frag} {EX:EXT} {d:Mode} {e:Expr} {es:List Expr} {pos:Pos} {ma:Rho→R W} {m n:Rho→R Fl} {ta:Rho→R Bool} {st:Stmt} {sts:List Stmt} {p:Addr} {mr:Rho→R (List W)}
end
end TP
namespace TP
open PySem L2
section
variable {K:PySem.W.Frag} {EX:EXT} {H0 G H:Hp} {ρ:Rho} {σ:St}
theorem Rep.ofNoL {v:V} {w:W} (r:Rep K H v w) (h:noL w=true):Rep K (noLH H) v w:=Rep.clean (PIv.begin (vs:=[]) (ws:=[]) (k:=0) (k':=0) .nil rfl) (by rw [join_noLH]; exact r) h
theorem noLH_H (K:PySem.W.Frag) (H:Hp):Same (noLH H) H:=(PIv.begin (K:=K) (H:=H) (vs:=[]) (ws:=[]) (k:=0) (k':=0) .nil rfl).gh
end
section
variable {X:Cx} {K:PySem.W.Frag} {e:Expr} {es:List Expr} {pos:Pos} {mr:Rho→R (List W)}
end
end TP
namespace TP
open PySem L2
section
variable {X:Cx}
end
section
variable {K:PySem.W.Frag} {EX:EXT} {H0 G H:Hp} {ρ:Rho} {σ:St} {d:Mode} {D:Ends}
end
section
variable {X:Cx} {K:PySem.W.Frag} {EX:EXT} {d:Mode} {e:Expr} {pos:Pos} {ma:Rho→R W}
end
end TP
set_option Elab.async false
set_option linter.all false
set_option maxRecDepth 100000
namespace TP
open PySem L2
section
open PySem.W PyProof.Rows
variable {prog:Program} {w:World} {A:Around} {E:Value→Shared→Prop} {s:Shared}
theorem items_int:∀ {xs:List Int} {its:List Value},Vals (xs.map V.int) its→ItemsAre (intKind prog w) xs its
 | [],_,.nil=>.nil
 | _::_,_,.cons r t=>by
  obtain ⟨tk,rfl⟩:=r
  exact .cons (by simp [intKind,Value.isInt]) (items_int t)
end
end TP
namespace TP
open PySem L2
section
variable {X:Cx} {pins:List (Addr×Obj)} {σ:L2.St} {H:Hp} {s:Shared}
end
section
open PySem.W PyProof.Rows
variable {Y:Cx} {K:PySem.W.Frag} {pn:List (Addr×Obj)} {σ:L2.St}
end
end TP
namespace TP
open PySem L2
section
open PySem.W PyProof.Rows
variable {Y:Cx} {K:PySem.W.Frag} {pins:List (Addr×Obj)} {σ:L2.St}
end
section
open PySem.W PyProof.Rows
variable {X:Cx} {K:PySem.W.Frag}
end
section
variable {K:PySem.W.Frag}
end
section
variable {X:Cx} {K:PySem.W.Frag} {EX:EXT} {e:Expr} {pos:Pos} {mr:Rho→R (List W)}
end
end TP
namespace TP
open PySem L2
section
open PySem.W PyProof.Rows
variable {X:Cx} {e:Expr} {te:TE} {st:Expr} {tk:TO} {pos p2:Pos}
end
section
variable {K:PySem.W.Frag} {EX:EXT} {σ:St} {H:Hp} {Q:VK}
end
section
variable {X:Cx} {K:PySem.W.Frag} {EX:EXT} {e:Expr} {pos:Pos} {ma:Rho→R W}
end
end TP
namespace TP
open PySem L2
section
variable {K:PySem.W.Frag} {EX:EXT} {H0 G H:Hp} {ρ:Rho} {σ:St} {d:Mode} {D:Ends}
theorem Reps.eraseIdx {vs:List V} {ws:List W} (r:Reps K G vs ws) (k:Nat):Reps K G (vs.eraseIdx k) (ws.eraseIdx k):=by
 rw [List.eraseIdx_eq_take_drop_succ,List.eraseIdx_eq_take_drop_succ]
 exact (r.take k).append (r.drop (k+1))
end
section
variable {X:Cx} {K:PySem.W.Frag} {EX:EXT} {d:Mode} {e:Expr} {pos:Pos} {ma:Rho→R W}
end
end TP
namespace TP
open PySem L2
section
variable {K:PySem.W.Frag} {EX:EXT} {H0 G H G1 H1 F:Hp} {ρ:Rho} {σ:St} {d:Mode} {D:Ends}
end
section
variable {X:Cx} {K:PySem.W.Frag} {EX:EXT} {d:Mode} {e k v:Expr} {pos:Pos} {mk me:Rho→R W}
end
end TP
set_option Elab.async false
set_option linter.all false
set_option maxRecDepth 100000
namespace TP
open PySem PyProof.Rows
def kk (rk:Keyed→Int) (xs:Array Keyed) (i:Nat):Int:=match xs[i]? with
 | some p=>rk p
 | none=>0
section
variable {prog:Program} {w:World} {A:Around} {E:Value→Shared→Prop} {s:Shared} {a₀:Array Keyed} {κ:SortKind} {rk:Keyed→Int}
end
def upL (rk:Keyed→Int) (l:List Keyed):Prop:=l.Pairwise fun x y=>rk x≤rk y
structure Mg (rk:Keyed→Int) (t:List Keyed) (out ra rb:List Keyed):Prop where
 perm:(out++(ra++rb)).Perm t
 up:upL rk out
 le:∀ x∈out,∀ y∈ra++rb,rk x≤rk y
def Gd (rk:Keyed→Int) (t res:List Keyed):Prop:=res.Perm t∧upL rk res
section
variable {rk:Keyed→Int} {t out p ra rb:List Keyed}
end
section
variable {prog:Program} {w:World} {A:Around} {E:Value→Shared→Prop} {s:Shared} {a₀:Array Keyed} {κ:SortKind} {rk:Keyed→Int}
end
section
variable {prog:Program} {w:World} {A:Around} {E:Value→Shared→Prop} {s:Shared} {a₀:Array Keyed} {κ:SortKind} {rk:Keyed→Int}
abbrev rn (rk:Keyed→Int) (x:Keyed):Int:=-rk x
abbrev rv (a:Array Keyed):List Keyed:=a.toList.reverse
theorem rv_drop {a:Array Keyed} {k:Nat}:(rv a).drop (a.size-k)=(a.toList.take k).reverse:=by
 rw [List.reverse_take]; simp
theorem Gd.rv {a b:Array Keyed} {res:List Keyed} (h:Gd (rn rk) (rv a++rv b) res.reverse):Gd rk (a.toList++b.toList) res:=by
 refine ⟨?_,?_⟩
 ·refine (List.reverse_perm res).symm.trans (h.1.trans ?_)
  exact List.Perm.append (List.reverse_perm _) (List.reverse_perm _)
 ·have:=h.2
  unfold upL at this ⊢
  rw [List.pairwise_reverse] at this
  exact this.imp fun q=>by
   have q:-_ ≤ -_:=q
   omega
theorem hfin {a b out:Array Keyed} {na nb:Nat} (h:Gd (rn rk) (rv a++rv b) (out.toList++(rv b).drop (b.size-nb)++(rv a).drop (a.size-na))):Gd rk (a.toList++b.toList) (a.extract 0 na++b.extract 0 nb++out.reverse).toList:=by
 refine Gd.rv ?_
 rw [rv_drop,rv_drop] at h
 have e:(a.extract 0 na++b.extract 0 nb++out.reverse).toList.reverse=out.toList++(b.toList.take nb).reverse++(a.toList.take na).reverse:=by
  simp [List.extract_eq_take_drop]
 rw [e]; exact h
end
section
variable {prog:Program} {w:World} {A:Around} {E:Value→Shared→Prop} {s:Shared} {a₀:Array Keyed} {κ:SortKind} {rk:Keyed→Int}
end
section
variable {prog:Program} {w:World} {A:Around} {E:Value→Shared→Prop} {s:Shared} {a₀:Array Keyed} {κ:SortKind} {rk:Keyed→Int} {arr:Array Keyed} {pd:Array (Nat×Nat×Nat)} {g lo:Nat}
structure Rl (lo:Nat) (arr arr':Array Keyed):Prop where
 perm:arr'.toList.Perm arr.toList
 same:∀ k,k<lo→arr'[k]?=arr[k]?
end
section
variable {prog:Program} {w:World} {A:Around} {E:Value→Shared→Prop} {s:Shared} {a₀:Array Keyed} {κ:SortKind} {rk:Keyed→Int} {arr:Array Keyed} {pd:Array (Nat×Nat×Nat)} {g lo:Nat}
end
end TP
set_option Elab.async false
set_option linter.all false
set_option maxRecDepth 100000
namespace TP
open PySem L2
section
open PySem.W PyProof.Rows
variable {prog:Program} {w:World} {A:Around} {E:Value→Shared→Prop} {s:Shared}
open Classical in
noncomputable def rkV (vs:List Value) (ss:List (List Int)) (p:Keyed):Int:=if h:∃ i,i<vs.length∧vs.getD i Value.none=p.1 then rankL ss h.choose else 0
end
section
variable {X:Cx} {K:PySem.W.Frag}
end
section
variable {K:PySem.W.Frag}
end
end TP
namespace TP
open PySem L2
def spX (K:PySem.W.Frag) (n:Nat) (f:List W→R W):Sp:=fun vs H Q E=>vs.length=n∧∃ F ws,Same F H∧Reps K F vs ws∧match f ws with
 | .ok w=>∀ v G' H',Same F G'→Same H H'→Same G' H'→(∀ a o,H a=some o→isL o=true→F a=none→G' a=none)→Rep K G' v w→Q v H'
 | .ex e=>∀ H',Same H H'→XE E e H'
 | .stuck=>False
def runX (n N:Nat) (m:Rho→R Fl) (ws:List W):R W:=if ws.length=n then (m (ws.map Sl.val++List.replicate (N-n) Sl.un)>>=fun f=>match f with
 | .rt w=>.ok w
 | .nx _=>.ok .non
 | _=>.stuck) else .stuck
theorem runX_len {n N:Nat} {m:Rho→R Fl} (ws:List W) (h:runX n N m ws≠.stuck):ws.length=n:=by
 unfold runX at h
 by_cases e:ws.length=n
 ·exact e
 ·rw [if_neg e] at h; exact absurd rfl h
def less (H F:Hp):Hp:=fun a=>match F a with
 | some _=>none
 | none=>H a
section
variable {K:PySem.W.Frag} {EX:EXT} {H0 G H G1 H1 F:Hp} {ρ:Rho} {σ:St} {d:Mode} {D:Ends}
theorem less_n {a:Addr} (h:F a=none):less H F a=H a:=by unfold less; rw [h]
theorem less_s {a:Addr} {o:HO} (h:less H F a=some o):F a=none∧H a=some o:=by
 unfold less at h
 cases q:F a with
 | none=>rw [q] at h; exact ⟨rfl,h⟩
 | some u=>rw [q] at h; cases h
theorem same_less {H':Hp} (sF:Same F H) (h1:Same (less H F) H') (h2:Same F H'):Same H H':=fun a o e=>by
 cases q:F a with
 | none=>exact h1 a o (by rw [less_n q]; exact e)
 | some u=>
  have:=sF a u q
  rw [e] at this; cases this
  exact h2 a o q
theorem noLH_s {a:Addr} {o:HO} (h:noLH H a=some o):H a=some o∧isL o=false:=by
 unfold noLH at h
 cases q:H a with
 | none=>rw [q] at h; cases h
 | some u=>
  rw [q] at h
  dsimp only at h
  cases hl:isL u
  ·rw [hl] at h; cases h; exact ⟨rfl,hl⟩
  ·rw [hl] at h; cases h
theorem slotsV:∀ {vs:List V} {ws:List W} {i:Nat} {x:Sl} {o:Option V} {k k':Nat},Reps K F vs ws→(ws.map Sl.val++List.replicate k Sl.un)[i]?=some x→(vs.map some++List.replicate k' none)[i]?=some o→x=.un∨∃ v w,x=.val w∧o=some v∧Rep K F v w
 | _,_,i,x,o,k,k',.nil,h1,h2=>by
  simp only [List.map_nil,List.nil_append,List.getElem?_replicate] at h1
  split at h1 <;> simp only [Option.some.injEq,reduceCtorEq] at h1
  exact .inl h1.symm
 | _,_,0,x,o,k,k',.cons r _,h1,h2=>by
  simp at h1 h2
  exact .inr ⟨_,_,h1.symm,h2.symm,r⟩
 | _,_,i+1,x,o,k,k',.cons _ t,h1,h2=>by
  simp only [List.map_cons,List.cons_append,List.getElem?_cons_succ] at h1 h2
  exact slotsV t h1 h2
theorem PIv.beginX {vs:List V} {ws:List W} {k k':Nat} (sF:Same F H) (r:Reps K F vs ws) (hk:k=k'):PIv K (less H F) (both F (noLH H)) (ws.map Sl.val++List.replicate k Sl.un) (vs.map some++List.replicate k' none) H where
 g0 a o e l:=by
  obtain ⟨h1,h2⟩:=less_s e
  unfold both; rw [h1]; dsimp only
  unfold noLH; rw [h2]; dsimp only; rw [l]; rfl
 gl a o e l:=by
  obtain ⟨h1,h2⟩:=less_s e
  unfold both; rw [h1]; dsimp only
  unfold noLH; rw [h2]; dsimp only; rw [l]; rfl
 gh a o e:=by
  unfold both at e
  cases q:F a with
  | none=>rw [q] at e; exact (noLH_s e).1
  | some u=>rw [q] at e; cases e; exact sF a _ q
 hh a o e:=(less_s e).2
 len:=by subst hk; simp [r.length]
 sl i x o h1 h2:=by
  rcases slotsV r h1 h2 with rfl | ⟨v,w,rfl,rfl,q⟩
  ·trivial
  ·exact ⟨v,rfl,q.same fun b u e=>by unfold both; rw [e]⟩
 ne i j us xs a hij h1 _ _ _:=by
  have:∀ (i:Nat) (us:List W),(ws.map Sl.val++List.replicate k Sl.un)[i]?≠some (Sl.own us):=fun i us q=>by
   rw [List.getElem?_append] at q
   split at q
   ·rw [List.getElem?_map] at q
    cases hh:ws[i]? <;> rw [hh] at q <;> cases q
   ·rw [List.getElem?_replicate] at q
    split at q <;> cases q
  exact absurd h1 (this i us)
theorem c_bodyX {n:Nat} {Nl:List Str} {m:Rho→R Fl} {vs:List V} {Q:VK} {E:XK} (h:spX K n (runX n Nl.length m) vs H Q E):tSt K (fun _ _=>False) .V m { nx:=fun _ H'=>Q .non H',rt:=Q } (L2.start Nl vs) H:=by
 obtain ⟨hl,F,ws,sF,r,o⟩:=h
 have hw:ws.length=n:=by rw [← r.length]; exact hl
 unfold runX at o
 rw [if_pos hw] at o
 have sB:Same F (both F (noLH H)):=fun b u e=>by unfold both; rw [e]
 refine ⟨less H F,both F (noLH H),_,PIv.beginX (k:=Nl.length-n) sF r (by rw [hl]),?_⟩
 revert o
 cases m (ws.map Sl.val++List.replicate (Nl.length-n) Sl.un) with
 | stuck=>exact id
 | ex e=>exact fun o=>(o H (Same.refl H)).elim
 | ok f=>
  cases f with
  | nx ρ'=>exact fun o G' σ' H' s' I'=>o .non G' H' (sB.trans s') (same_less sF I'.hh ((sB.trans s').trans I'.gh)) I'.gh (fun a o e l q=>I'.gl a o (by rw [less_n q]; exact e) l) .non
  | rt w=>exact fun o v G' H' s0 s1 s2 c md=>o v G' H' (sB.trans s0) (same_less sF s2 ((sB.trans s0).trans s1)) s1 (fun a o e l q=>c a o (by rw [less_n q]; exact e) l) md
  | bk _=>exact fun o=>o.elim
  | ct _=>exact fun o=>o.elim
def frzL:List Nat→Rho→Rho
 | [],ρ=>ρ
 | j::js,ρ=>frzL js (frz j ρ)
theorem PIv.frzL:∀ {js:List Nat} {G:Hp} {ρ:Rho},PIv K H0 G ρ σ H→∃ G',Same G G'∧PIv K H0 G' (frzL js ρ) σ H
 | [],G,ρ,I=>⟨G,Same.refl G,I⟩
 | j::js,G,ρ,I=>by
  obtain ⟨G1,s1,I1⟩:=I.frz (i:=j)
  obtain ⟨G2,s2,I2⟩:=PIv.frzL (js:=js) I1
  exact ⟨G2,s1.trans s2,I2⟩
def setX (i:Nat) (js:List Nat) (w:W) (ρ:Rho):Rho:=if noL w=true then ρ.set i (.val w) else (frzL js ρ).set i (.val w)
def sCX (i:Nat) (js:List Nat) (f:List W→R W) (ma:Rho→R (List W)):Rho→R Fl:=fun ρ=>ma (frzL js ρ)>>=fun ws=>f ws>>=fun w=>.ok (.nx (setX i js w ρ))
theorem MdA.repsV {Hs:Hp}:∀ {ws:List W} {vs:List V},MdA K .V H0 Hs G H ws vs→Reps K G vs ws
 | _,_,.nil=>.nil
 | _,_,.cons h t=>.cons h (MdA.repsV t)
theorem c_callX {i n:Nat} {js:List Nat} {f:List W→R W} {E:XK} {ma:Rho→R (List W)} (hf:∀ ws,f ws≠.stuck→ws.length=n) (hE:∀ e H,EX e H→XE E e H) (h:tSt K EX d (sCX i js f ma) D σ H) :
  tAsg (tCall (spX K n f) [] E (tA K EX .V ma)) (gName i) D σ H:=by
 obtain ⟨H0,G,ρ,I,o⟩:=h
 obtain ⟨G2,s2,I2⟩:=I.frzL (js:=js)
 refine ⟨H0,G2,frzL js ρ,I2,?_⟩
 unfold sCX at o
 cases hma:ma (frzL js ρ) with
 | stuck=>rw [hma] at o; exact o.elim
 | ex e=>rw [hma] at o; exact fun H' s=>o H' (I.hh.trans s)
 | ok ws=>
  rw [hma,R.ok_bind] at o
  intro xs G1 H1 e1 m1
  have I1:=I2.ext e1
  have r:=MdA.repsV m1
  rw [List.append_nil]
  refine ⟨?_,G1,ws,I1.gh,r,?_⟩
  ·rw [r.length]
   refine hf ws fun z=>?_
   rw [z] at o; exact o
  ·revert o
   cases f ws with
   | stuck=>exact id
   | ex e=>exact fun o H' s=>hE e H' (o H' (I1.hh.trans s))
   | ok w=>
    intro o v G' H' sG sH gH cl md
    rw [R.ok_bind] at o
    by_cases hn:noL w=true
    ·have hs:setX i js w ρ=ρ.set i (.val w):=if_pos hn
     rw [hs] at o
     have sHH:Same H H':=e1.hh.trans sH
     have rH:Rep K H' v w:=md.same gH
     have sN:Same (noLH H') H':=noLH_H K H'
     have sB:Same G (both G (noLH H')):=fun b o q=>by unfold both; rw [q]
     have sB':Same (noLH H') (both G (noLH H')):=fun b o q=>by
      unfold both
      cases q1:G b with
      | none=>exact q
      | some y=>
       have a1:=sHH b y (I.gh b y q1)
       rw [sN b o q] at a1
       exact a1.symm
     have sHB:Same (both G (noLH H')) H':=fun b o q=>by
      unfold both at q
      cases q1:G b with
      | none=>rw [q1] at q; exact sN b o q
      | some y=>rw [q1] at q; cases q; exact sHH b _ (I.gh b _ q1)
     have ex:Ext G H (both G (noLH H')) H':=⟨sB,sHH,sHB,fun b o q l g=>by
      unfold both; rw [g]; dsimp only
      unfold noLH; rw [sHH b o q]; dsimp only; rw [if_pos l]⟩
     exact o _ _ H' sB ((I.ext ex).setV ((Rep.ofNoL rH hn).same sB'))
    ·have hs:setX i js w ρ=(frzL js ρ).set i (.val w):=if_neg hn
     rw [hs] at o
     have ex:Ext G1 H1 G' H':=⟨sG,sH,gH,cl⟩
     exact o G' _ H' ((s2.trans e1.gg).trans sG) ((I1.ext ex).setV md)
theorem c_callXV {n:Nat} {f:List W→R W} {E:XK} {ma:Rho→R (List W)} {Q:VK} (hf:∀ ws,f ws≠.stuck→ws.length=n) (hE:∀ e H,EX e H→XE E e H) (h:tM K EX .V (fun ρ=>ma ρ>>=fun ws=>f ws) σ H Q) :
  tCall (spX K n f) [] E (tA K EX .V ma) σ H Q:=by
 obtain ⟨H0,G,ρ,I,o⟩:=h
 refine ⟨H0,G,ρ,I,Out.bind o fun xs G1 H1 ws e1 m1 o1=>?_⟩
 have I1:=I.ext e1
 have r:=MdA.repsV m1
 rw [List.append_nil]
 refine ⟨?_,G1,ws,I1.gh,r,?_⟩
 ·rw [r.length]
  refine hf ws fun z=>?_
  rw [z] at o1; exact o1
 ·revert o1
  cases f ws with
  | stuck=>exact id
  | ex e=>exact fun o1 H' s=>hE e H' (o1 H' s)
  | ok w=>exact fun o1 v G' H' sG sH gH cl md=>o1 v G' H' ⟨sG,sH,gH,cl⟩ md
end
section
variable {X:Cx} {K:PySem.W.Frag} {d:Mode} {e:Expr} {es:List Expr} {pos:Pos} {mr:Rho→R (List W)}
theorem q_callX {k:Nat} {f:Addr} {fd:FuncData} {ps:List Str} {x:Str} {p:Pos} {n N:Nat} {m:Rho→R Fl} (F:FnOk X.prog X.w X.K X.mg X.base CX0 k f fd ps (spX K n (runX n N m))) (hr:Room k X.A) (hg:Gl X x) (hm:X.mg x=some (.ref f)) (hk:PySem.W.keepIn X.K (.ref f)=true) (hb:Binds X.K fd ps [])
  (ha:PA X (e::es) (tA K (fun _ _=>False) .V mr)) (hdb:(x == ("__debug__" : Str))=false:=by decide) (he:starEach (e::es) X.env=(false,eval e X.env)::starEach es X.env:=by rfl) (hpl:(backTo pos (starEach es X.env)).any (·.1)=false:=by rfl) :
  PE X (.Call (.Name x p) (e::es) [] pos) (tM K (fun _ _=>False) .V (bA (runX n N m) mr)):=
 (pe_call F hr hg hm hk hb .nil pass0 ha hdb he hpl).mono fun _ _ _ q=>c_callXV (fun ws h=>runX_len ws h) (fun _ _ z=>z) q
theorem q_setCX {i k:Nat} {js:List Nat} {y:Str} {pos':Pos} {f:Addr} {fd:FuncData} {ps:List Str} {x:Str} {p cpos:Pos} {n N:Nat} {m:Rho→R Fl} (hN:X.N.Nodup) (hi:X.N[i]?=some y) (hy:Loc X.env.scope y)
  (F:FnOk X.prog X.w X.K X.mg X.base CX0 k f fd ps (spX K n (runX n N m))) (hr:Room k X.A) (hg:Gl X x) (hm:X.mg x=some (.ref f)) (hk:PySem.W.keepIn X.K (.ref f)=true) (hb:Binds X.K fd ps [])
  (ha:PA X (e::es) (tA K (fun _ _=>False) .V mr)) (hdb:(x == ("__debug__" : Str))=false:=by decide) (he:starEach (e::es) X.env=(false,eval e X.env)::starEach es X.env:=by rfl) (hpl:(backTo cpos (starEach es X.env)).any (·.1)=false:=by rfl)
  (hs:swapsWith (.Call (.Name x p) (e::es) [] cpos) (some (.Name y pos')) pos.line X.env=pure false:=by rfl) (hf:X.fn y=true∨X.env.scope.names.lookup y=some .local:=by first | exact .inl rfl | exact .inr rfl | assumption) :
  PS X (.Assign [.Name y pos'] (.Call (.Name x p) (e::es) [] cpos) pos) (tSt K (fun _ _=>False) d (sCX i js (runX n N m) mr)):=
 (ps_set hN hi hy (pe_call F hr hg hm hk hb .nil pass0 ha hdb he hpl) hs hf).mono fun _ _ _ q=>c_callX (fun ws h=>runX_len ws h) (fun _ _ z=>z) q
end
theorem frzL_nil (ρ:Rho):frzL [] ρ=ρ:=rfl
theorem frzL_cons (j:Nat) (js:List Nat) (ρ:Rho):frzL (j::js) ρ=frzL js (frz j ρ):=rfl
def RcX (f:List W→R W) (i:Nat) (js:List Nat) (ρ:Rho):R (List W)→R Fl
 | .ok ws=>f ws>>=fun w=>.ok (.nx (setX i js w ρ))
 | .ex e=>.ex e
 | .stuck=>.stuck
theorem sCX_ap (i:Nat) (js:List Nat) (f:List W→R W) (ma:Rho→R (List W)) (ρ:Rho):sCX i js f ma ρ=RcX f i js ρ (ma (frzL js ρ)):=by
 unfold sCX
 cases ma (frzL js ρ) <;> rfl
theorem RcX_ok (f:List W→R W) (i:Nat) (js:List Nat) (ρ:Rho) (ws:List W):RcX f i js ρ (.ok ws)=(f ws>>=fun w=>.ok (.nx (setX i js w ρ))):=rfl
end TP
namespace TP
open PySem L2
section
variable {K:PySem.W.Frag} {EX:EXT} {X:Cx} {tg e:Expr} {ma:Rho→R W}
end
end TP
namespace TP
open PySem L2
def OutN (K:PySem.W.Frag) (d:Mode) (Hb:Hp) (r:R Fl) (D:Ends):Prop:=match r with
 | .ok (.nx ρ)=>∀ H0 G' σ' H',Same Hb H0→PIv K H0 G' ρ σ' H'→D.nx σ' H'
 | .ok (.rt w)=>∀ v G' H',Same G' H'→Same Hb H'→(∀ a o,Hb a=some o→isL o=true→G' a=none)→Md K Hb Hb G' H' v w d→D.rt v H'
 | _=>False
section
variable {K:PySem.W.Frag} {EX:EXT} {Hb H0 G H G1 H1 G2 H2:Hp} {ρ:Rho} {σ:St} {d:Mode} {D:Ends}
theorem noLG_of {a:Addr} {o:HO} (h:G a=some o) (hl:isL o=false):noLG G a=some o:=by
 unfold noLG; rw [h]; dsimp only; rw [hl]; rfl
theorem XD.noLG {od:Option Addr}:∀ {i:Option Int},XD G od i→XD (noLG G) od i
 | none,h=>h
 | some _,⟨d,h1,h2⟩=>⟨d,h1,noLG_of h2 rfl⟩
mutual
theorem Rep.noLG:∀ {v:V} {w:W},Rep K G v w→noL w=true→Rep K (noLG G) v w
 | _,_,.non,_=>.non
 | _,_,.bl,_=>.bl
 | _,_,.int,_=>.int
 | _,_,.str,_=>.str
 | _,_,.ty,_=>.ty
 | _,_,.tup h r,n=>.tup (noLG_of h rfl) (Reps.noLG r (by simpa [noL] using n))
 | _,_,.lst _ _,n=>by simp [noL] at n
 | _,_,.scr _ _,n=>by simp [noL] at n
 | _,_,.exc h1 h2 h3 h4 h5,_=>.exc (noLG_of h1 rfl) h2 h3 h4 (XD.noLG h5)
 | _,_,.cls h,_=>.cls h
theorem Reps.noLG:∀ {vs:List V} {ws:List W},Reps K G vs ws→noLs ws=true→Reps K (noLG G) vs ws
 | _,_,.nil,_=>.nil
 | _,_,.cons (w:=w) (ws:=ws) h r,n=>by
  have n':noL w=true∧noLs ws=true:=by simpa [noLs] using n
  exact .cons (Rep.noLG h n'.1) (Reps.noLG r n'.2)
end
end
section
variable {X:Cx} {K:PySem.W.Frag} {EX:EXT} {d:Mode} {e:Expr} {es:List Expr} {pos:Pos} {ma:Rho→R W} {mr:Rho→R (List W)} {m n:Rho→R Fl} {ta:Rho→R Bool} {st:Stmt} {sts:List Stmt}
end
end TP
set_option Elab.async false
set_option linter.all false
set_option maxRecDepth 100000
namespace TP
open PySem L2
open PyProof.Rows (envOfC)
def XE1 (K:PySem.W.Frag) (E:XK):EXT:=fun e H=>∀ (C:Addr) (od:Option Addr),PySem.W.nsIn K mainGlobals e.cls=some (some (.ref C))→XD H od e.at_→E (.ref C) od H
def spR (K:PySem.W.Frag) (n:Nat) (d:Mode) (f:List W→R W):Sp:=fun vs H Q E=>vs.length=n∧∃ ws,Reps K H vs ws∧match f ws with
 | .ok w=>∀ v G' H',Same H H'→Same G' H'→(∀ a o,H a=some o→isL o=true→G' a=none)→Md K H H G' H' v w d→Q v H'
 | .ex e=>∀ H',Same H H'→XE1 K E e H'
 | .stuck=>False
def calm (f:List W→R W):List W→R W:=fun ws=>match f ws with
 | .ok w=>.ok w
 | _=>.stuck
section
variable {K:PySem.W.Frag} {EX:EXT} {H0 G H G1 H1 G2 H2:Hp} {ρ:Rho} {σ:St} {d:Mode} {D:Ends}
def flUn (j:Nat):Fl→R Fl
 | .nx ρ=>.ok (.nx (ρ.set j .un))
 | .bk ρ=>.ok (.bk (ρ.set j .un))
 | .ct ρ=>.ok (.ct (ρ.set j .un))
 | .rt w=>.ok (.rt w)
def mExc (c:Str) (j:Nat) (mb:Rho→R Fl) (e:XW) (ρ:Rho):R Fl:=if e.cls=c then mb (ρ.set j (.val (.exc e.cls e.at_)))>>=flUn j else .stuck
end
section
variable {X:Cx} {K:PySem.W.Frag} {EX:EXT} {d:Mode} {e:Expr} {es:List Expr} {pos:Pos} {ma:Rho→R W} {mr:Rho→R (List W)} {mb:Rho→R Fl}
end
section
variable {P:Program} {w:World} {K:PySem.W.Frag} {mg:Str→Option Value} {base:Heap} {N:List Str} {qual:Str} {scope:Scope} {f0:Addr} {cd:Value} {A:Around} {outer:List Env} {s0:Shared} {H0:Hp} {E:XK} {d:Mode} {e:Expr} {es:List Expr} {pos:Pos} {mr:Rho→R (List W)}
end
end TP
set_option Elab.async false
set_option linter.all false
set_option maxRecDepth 100000
namespace TP
open PySem L2
def big8:Int:=2^200
def CDivL (_ j:Int):Prop:=0<j∧j<big8
instance (i j:Int):Decidable (CDivL i j):=by unfold CDivL; infer_instance
end TP
set_option Elab.async false
set_option linter.all false
set_option maxRecDepth 100000
namespace TP
open PySem L2
theorem rng_vals {acc:Array Value}:∀ {n:Nat},acc.size=n→(∀ (j:Nat) (v:Value),acc[j]?=some v→∃ t,v=Value.int (j:Int) t)→L2.Vals ((List.range n).map fun k=>V.int (k:Nat)) acc.toList:=by
 intro n hn h
 have key:∀ (l:List Value) (m:Nat),(∀ (j:Nat) (v:Value),l[j]?=some v→∃ t,v=Value.int ((m+j:Nat):Int) t)→L2.Vals ((List.range' m l.length).map fun k=>V.int (k:Nat)) l:=by
  intro l
  induction l with
  | nil=>intro m _; exact .nil
  | cons a l ih=>
   intro m hl
   rw [List.length_cons,List.range'_succ,List.map_cons]
   refine .cons (hl 0 a rfl) (ih (m+1) fun j v hv=>?_)
   have:=hl (j+1) v (by simpa using hv)
   rw [show m+1+j=m+(j+1) by omega]; exact this
 have:=key acc.toList 0 fun j v hv=>by
  rw [Nat.zero_add]
  exact h j v (by simpa using hv)
 rw [Array.length_toList,hn,← List.range_eq_range'] at this
 exact this
section
variable {X:Cx}
def tLr (ta:TA):TE:=fun σ H Q=>ta σ H fun vs H1=>∃ j:Int,vs = [.int j]∧0≤j∧j≤1000∧∀ l,H1 l=none→Q (.ref l) (upd H1 l (.lst ((List.range j.toNat).map fun k=>V.int (k:Nat))))
theorem pe_lrange {a:Expr} {ta:TA} {p pos p2 pos2:Pos} (hc:X.calm=true) (hgl:Gl X "list") (hml:X.mg "list" = none) (hg:Gl X "range") (hm:X.mg "range" = none) (ha:PA X [a] ta) (hs:starEach [a] X.env = [(false,eval a X.env)]:=by rfl)
  (hs2:starEach [.Call (.Name "range" p2) [a] [] pos2] X.env = [(false,eval (.Call (.Name "range" p2) [a] [] pos2) X.env)]:=by rfl):PE X (.Call (.Name "list" p) [.Call (.Name "range" p2) [a] [] pos2] [] pos) (tLr ta):=by
 intro pins s σ H Q I h
 refine wpAny_Call_Name_kw (ld_blt I hgl hml bt_list ?_ (by decide) (by decide))
 refine PyProof.Rows.callWith_type1 ?_ hs2 (by rfl)
 rw [hs2]
 show wpAny _ _ (spliced [(false,eval (.Call (.Name "range" p2) [a] [] pos2) X.env)]) _ _ s
 refine Calls.spliced_cons ?_
 refine wpAny_Call_Name_kw (ld_blt I hg hm PyProof.Rows.boot_range ?_ (by decide) (by decide))
 refine PyProof.Rows.callWith_type1 (thn (ha pos2 pins s σ H _ I h) fun us s1 ⟨vs,H1,I1,r1,q1⟩=>?_) hs (by rfl)
 obtain ⟨j,e,j0,j1,q⟩:=q1
 subst e
 obtain ⟨u,rfl,ru⟩:=vals_one r1
 obtain ⟨t,rfl⟩:=ru
 refine call_range_1 (Calls.spliced_nil ?_)
 refine call_list_range (s:={ s1 with heap:=s1.heap.push { cls:=.type "range",data:=.fields #[.int 0 s1.toks,.int j t,.int 1 (s1.toks+1)] },toks:=s1.toks+1+1 }) (n:=j.toNat) (I1.ok.hd hc) (IsRange.new ..) (small_one (by omega) (by omega) (by omega) (by omega)) (by rw [rangeSize_one]; split <;> omega) (by omega) fun h' tk acc' c' hk hS hacc=>?_
 have hkeep:∀ b o,s1.heap.get? b=some o→h'.get? b=some o:=fun b o e=>hk b o (Heap.get?_push_of_some _ e)
 have hge:s1.heap.objs.size≤(s1.heap.push { cls:=.type "range",data:=.fields #[.int 0 s1.toks,.int j t,.int 1 (s1.toks+1)] }).objs.size:=by simp [Heap.push]
 refine ⟨.ref (s1.heap.push { cls:=.type "range",data:=.fields #[.int 0 s1.toks,.int j t,.int 1 (s1.toks+1)] }).objs.size,_,I1.laid (t':=tk) hkeep hge (show ObjOk X.prog X.w _ h' _ (.lst ((List.range j.toNat).map fun k=>V.int (k:Nat))) from ⟨by rw [List.length_map,List.length_range]; exact Nat.le_of_lt (small1000 (by omega)),acc'.toList,c',rng_vals hacc.1 fun i v hv=>?_,by simpa using hS⟩),rfl,q _ (I1.hok.fresh hge)⟩
 obtain ⟨tt,rfl⟩:=hacc.2 i v hv
 exact ⟨tt,by simp⟩
end
def fLrng:List W→R W
 | [.int j]=>if 0≤j∧j≤1000 then .ok (.lst ((List.range j.toNat).map fun k=>W.int (k:Nat))) else .stuck
 | _=>.stuck
theorem fLrng_i {j:Int} (h:0≤j∧j≤1000):fLrng [.int j]=.ok (.lst ((List.range j.toNat).map fun k=>W.int (k:Nat))):=by
 show (if _ then _ else _)=_
 rw [if_pos h]
section
variable {K:PySem.W.Frag} {EX:EXT} {H0 G H:Hp} {ρ:Rho} {σ:St} {d:Mode} {D:Ends} {Q:VK}
theorem reps_rng (l:List Nat):Reps K G (l.map fun k=>V.int (k:Nat)) (l.map fun k=>W.int (k:Nat)):=by
 induction l with
 | nil=>exact .nil
 | cons a l ih=>exact .cons .int ih
theorem c_lrange {ma:Rho→R (List W)} (h:tM K EX .F (bA fLrng ma) σ H Q):tLr (tA K EX .B ma) σ H Q:=by
 obtain ⟨H0,G,ρ,I,o⟩:=h
 replace o:Out EX G H (mdW K .F H0 H) (ma ρ>>=fLrng) Q:=o
 refine ⟨H0,G,ρ,I,Out.bind o fun xs G1 H1 ws e1 m1 o1=>?_⟩
 have I1:=I.ext e1
 unfold fLrng at o1
 split at o1
 ·rename_i j
  cases m1 with
  | cons a t=>
   cases t
   cases a.intB
   by_cases hj:0≤j∧j≤1000
   ·rw [if_pos hj] at o1
    exact ⟨j,rfl,hj.1,hj.2,fun l hl=>Out.newL I1 e1.hh (reps_rng _) hl o1⟩
   ·rw [if_neg hj] at o1; exact o1.elim
 ·exact o1.elim
def mAppPop (i j:Nat) (mk:Rho→R W):Rho→R Fl:=fun ρ=>match ρ[i]?,ρ[j]? with
 | some (.own us),some (.own ws)=>mk ρ>>=fun k=>(match k with
  | .int z=>if i≠j∧0≤z∧z<ws.length∧ws.length≤1000∧us.length<1000 then .ok (.nx ((ρ.set j (.own (ws.eraseIdx z.toNat))).set i (.own (us ++ [ws.getD z.toNat .non])))) else .stuck
  | _=>.stuck)
 | _,_=>.stuck
theorem c_appPop {i j:Nat} {mk:Rho→R W} (h:tSt K EX d (mAppPop i j mk) D σ H):tDrop (tApp (tVar i) (tBM K "list" rPopAt (tVar j) (tCons (tM K EX .B mk) tNil))) D σ H:=by
 obtain ⟨H0,G,ρ,I,o⟩:=h
 unfold mAppPop at o
 split at o
 ·rename_i us ws ei ej
  obtain ⟨a,vs,es,ha,hg,h0,r⟩:=I.own_at ei
  obtain ⟨c,xs,es2,hc,hg2,h02,r2⟩:=I.own_at ej
  refine ⟨.ref a,es,a,rfl,⟨vs,ha⟩,.ref c,es2,.inl ⟨rfl,xs,SqL.of hc⟩,H0,G,ρ,I,OutS.bind I o fun x G1 H1 w e1 m1 o1=>?_⟩
  cases w <;> first | exact o1.elim | skip
  rename_i z
  dsimp only at o1
  have hx:=m1.intB
  subst hx
  by_cases cc:i≠j∧0≤z∧z<ws.length∧ws.length≤1000∧us.length<1000
  ·rw [if_pos cc] at o1
   obtain ⟨hij,z0,z1,wl,ul⟩:=cc
   have hlen:xs.length=ws.length:=r2.length
   have hlen2:vs.length=us.length:=r.length
   have hk:seqIndex? z xs.length=some z.toNat:=by
    unfold seqIndex?
    simp only [z0,Int.not_lt.mpr z0,if_false]
    first
     | (rw [if_pos (by omega)]; done)
     | (simp; omega)
   have hac:a≠c:=fun e=>I.ne i j us ws a hij ei ej es (by rw [e]; exact es2)
   have I1:=I.ext e1
   have I2:=I1.own_upd ej es2 ((r2.same e1.gg).eraseIdx z.toNat)
   have ei2:(ρ.set j (Sl.own (ws.eraseIdx z.toNat)))[i]?=some (.own us):=by rw [List.getElem?_set_ne (fun e=>hij e.symm)]; exact ei
   obtain ⟨wv,ew,rw_⟩:=(r2.same e1.gg).get' (i:=z.toNat) (v:=xs[z.toNat]'(by omega)) (List.getElem?_eq_getElem (by omega))
   have hgd:ws.getD z.toNat .non=wv:=by rw [List.getD_eq_getElem?_getD,ew]; rfl
   rw [hgd] at o1
   refine ⟨c,xs,z,z.toNat,xs[z.toNat]'(by omega),rfl,rfl,e1.hh _ _ hc,by omega,by omega,hk,List.getElem?_eq_getElem (by omega),?_⟩
   have hup:upd H1 c (.lst (xs.eraseIdx z.toNat)) a=some (.lst vs):=by rw [upd_ne hac]; exact e1.hh _ _ ha
   dsimp only
   rw [hup]
   dsimp only
   exact ⟨Nat.lt_of_lt_of_le (by omega:vs.length<1000) (by decide),o1 G1 σ _ (Same.refl _) (I2.own_upd ei2 es ((r.same e1.gg).snoc rw_))⟩
  ·rw [if_neg cc] at o1; exact o1.elim
 ·exact o.elim
end
section
variable {X:Cx} {K:PySem.W.Frag} {EX:EXT} {d:Mode} {a e:Expr} {pos:Pos} {ma:Rho→R W} {mr:Rho→R (List W)}
theorem q_lrange {p p2 pos2:Pos} (hc:X.calm=true) (hgl:Gl X "list") (hml:X.mg "list" = none) (hg:Gl X "range") (hm:X.mg "range" = none) (ha:PA X [a] (tA K EX .B mr)) (hs:starEach [a] X.env = [(false,eval a X.env)]:=by rfl)
  (hs2:starEach [.Call (.Name "range" p2) [a] [] pos2] X.env = [(false,eval (.Call (.Name "range" p2) [a] [] pos2) X.env)]:=by rfl):PE X (.Call (.Name "list" p) [.Call (.Name "range" p2) [a] [] pos2] [] pos) (tM K EX .F (bA fLrng mr)):=
 (pe_lrange hc hgl hml hg hm ha hs hs2).mono fun _ _ _ q=>c_lrange q
theorem q_appPop {i j:Nat} {x y:Str} {p apos cpos p2 apos2 cpos2:Pos} (hN:X.N[i]?=some x) (hv:Vis X.env.scope x) (hN2:X.N[j]?=some y) (hv2:Vis X.env.scope y) (ha:PE X e (tM K EX .B ma)) (hK:X.K=K:=by rfl) (hd:(x == ("__debug__" : Str))=false:=by decide) (hcd:(x == ("__classdict__" : Str))=false:=by decide)
  (hd2:(y == ("__debug__" : Str))=false:=by decide) (hcd2:(y == ("__classdict__" : Str))=false:=by decide)
  (hbase2:attributeBase (.Name y p2) "pop" X.env (eval (.Name y p2) X.env)=eval (.Name y p2) X.env:=by rfl)
  (hfew2:((backTo cpos2 (starEach [e] X.env)).all (fun x=>!x.1)&&(backToKw cpos2 (keywordEach [] X.env)).all (fun x=>x.1.isSome)
   && decide (([e]:List Expr).length+([]:List Keyword).length+(if ([]:List Keyword).isEmpty then 0 else 1)<30))=true:=by rfl)
  (hline2:(apos2.endLine == cpos2.line)=true:=by rfl) (hs2:starEach [e] X.env=(false,eval e X.env)::starEach [] X.env:=by rfl) (hplain2:(backTo cpos2 (starEach [] X.env)).any (·.1)=false:=by rfl)
  (hbase:attributeBase (.Name x p) "append" X.env (eval (.Name x p) X.env)=eval (.Name x p) X.env:=by rfl)
  (hfew:((backTo cpos (starEach [.Call (.Attribute (.Name y p2) "pop" apos2) [e] [] cpos2] X.env)).all (fun x=>!x.1)&&(backToKw cpos (keywordEach [] X.env)).all (fun x=>x.1.isSome)
   && decide (([.Call (.Attribute (.Name y p2) "pop" apos2) [e] [] cpos2]:List Expr).length+([]:List Keyword).length+(if ([]:List Keyword).isEmpty then 0 else 1)<30))=true:=by rfl)
  (hline:(apos.endLine == cpos.line)=true:=by rfl) (hs:starEach [.Call (.Attribute (.Name y p2) "pop" apos2) [e] [] cpos2] X.env=(false,eval (.Call (.Attribute (.Name y p2) "pop" apos2) [e] [] cpos2) X.env)::starEach [] X.env:=by rfl)
  (hsw:swapsWith (.Call (.Attribute (.Name x p) "append" apos) [.Call (.Attribute (.Name y p2) "pop" apos2) [e] [] cpos2] [] cpos) none pos.line X.env=pure false:=by rfl) :
  PS X (.Expr (.Call (.Attribute (.Name x p) "append" apos) [.Call (.Attribute (.Name y p2) "pop" apos2) [e] [] cpos2] [] cpos) pos) (tSt K EX d (mAppPop i j ma)):=by
 subst hK; exact (ps_expr (pe_append (pe_var hN hv hd hcd) (pe_bm PySem.F.plainAttrs_list PySem.F.slot_list_pop PySem.F.type_list_pop mt_popAt (pe_var hN2 hv2 hd2 hcd2) (pa_cons ha pa_nil hs2) hbase2 hfew2 hline2 hs2 hplain2) hbase hfew hline hs) hsw).mono fun _ _ _ q=>c_appPop q
end
end TP
set_option Elab.async false
set_option linter.all false
set_option maxRecDepth 100000
namespace TP
open PySem L2
abbrev tI (ns:List Int):W:=.tup (ns.map W.int)
abbrev lI (ns:List Int):W:=.lst (ns.map W.int)
theorem noLs_ints (ns:List Int):noLs (ns.map W.int)=true:=by
 induction ns with
 | nil=>rfl
 | cons n ns ih=>rw [List.map_cons]; simp only [noLs,noL,ih,Bool.and_self]
theorem fEqS_ii (n:Bool) (i j:Int):fEqS n (.int i) (.int j)=.ok (.bl (if n then !decide (i=j) else decide (i=j))):=by
 unfold fEqS eqSc vOf
 simp [scal]
theorem fEqS_bb (n:Bool) (i j:Bool):fEqS n (.bl i) (.bl j)=.ok (.bl (if n then !decide (i=j) else decide (i=j))):=by
 unfold fEqS eqSc vOf
 simp [scal]
theorem fEqS_ss (n:Bool) (i j:Str):fEqS n (.str i) (.str j)=.ok (.bl (if n then !decide (i=j) else decide (i=j))):=by
 unfold fEqS eqSc vOf
 simp [scal]
theorem fEqS_nn (n:Bool):fEqS n .non .non=.ok (.bl (!n)):=by cases n <;> rfl
theorem fEqS_ni (n:Bool) (i:Int):fEqS n .non (.int i)=.ok (.bl n):=by cases n <;> rfl
theorem fEqS_in (n:Bool) (i:Int):fEqS n (.int i) .non=.ok (.bl n):=by cases n <;> rfl
theorem atW {ns:List Int} {i:Int} (h0:0≤i) (h1:i<ns.length):L2.atI (ns.map W.int) i=some (.int (ns.getD i.toNat 0)):=by
 unfold L2.atI
 rw [List.length_map,ixN_int h0 h1]
 show (ns.map W.int)[i.toNat]?=_
 rw [List.getElem?_map,some_getD (by omega)]; rfl
def andThen (r:R Fl) (n:Rho→R Fl):R Fl:=r>>=fun f=>match f with
 | .nx ρ'=>n ρ'
 | .rt w=>.ok (.rt w)
 | .bk ρ'=>.ok (.bk ρ')
 | .ct ρ'=>.ok (.ct ρ')
theorem mSeq_ap (m n:Rho→R Fl) (ρ:Rho):mSeq m n ρ=andThen (m ρ) n:=rfl
theorem andThen_nx (ρ:Rho) (n:Rho→R Fl):andThen (.ok (.nx ρ)) n=n ρ:=rfl
theorem andThen_rt (w:W) (n:Rho→R Fl):andThen (.ok (.rt w)) n=.ok (.rt w):=rfl
theorem andThen_bk (ρ:Rho) (n:Rho→R Fl):andThen (.ok (.bk ρ)) n=.ok (.bk ρ):=rfl
theorem andThen_ct (ρ:Rho) (n:Rho→R Fl):andThen (.ok (.ct ρ)) n=.ok (.ct ρ):=rfl
theorem mC_ap (w:W) (ρ:Rho):mC w ρ=.ok w:=rfl
theorem b1_ap (f:W→R W) (ma:Rho→R W) (ρ:Rho):b1 f ma ρ=(ma ρ>>=f):=rfl
def R2b (a b:R W) (f:W→W→R W):R W:=a>>=fun x=>b>>=fun y=>f x y
theorem b2_ap (f:W→W→R W) (ma mb:Rho→R W) (ρ:Rho):b2 f ma mb ρ=R2b (ma ρ) (mb ρ) f:=rfl
theorem R2b_ok (x y:W) (f:W→W→R W):R2b (.ok x) (.ok y) f=f x y:=rfl
theorem bA_ap (f:List W→R W) (ma:Rho→R (List W)) (ρ:Rho):bA f ma ρ=(ma ρ>>=f):=rfl
theorem bI_ap (f:List W→R (List W)) (ma:Rho→R (List W)) (ρ:Rho):bI f ma ρ=(ma ρ>>=f):=rfl
theorem bS_ap (ma:Rho→R W) (ρ:Rho):bS ma ρ=(ma ρ>>=seqW):=rfl
theorem aN_ap (ρ:Rho):aN ρ=.ok []:=rfl
def Rcons (a:R W) (b:R (List W)):R (List W):=a>>=fun x=>b>>=fun xs=>.ok (x::xs)
theorem aC_ap (ma:Rho→R W) (mr:Rho→R (List W)) (ρ:Rho):aC ma mr ρ=Rcons (ma ρ) (mr ρ):=rfl
theorem Rcons_ok (x:W) (xs:List W):Rcons (.ok x) (.ok xs)=.ok (x::xs):=rfl
theorem bChk_ap (ma:Rho→R W) (ρ:Rho):bChk ma ρ=(ma ρ>>=chk):=rfl
theorem bTest_ap (ma:Rho→R W) (ρ:Rho):bTest ma ρ=(ma ρ>>=toB):=rfl
theorem tAnd_ap (a b:Rho→R Bool) (ρ:Rho):tAnd' a b ρ=rAnd (a ρ) (b ρ):=rfl
theorem tOr_ap (a b:Rho→R Bool) (ρ:Rho):tOr' a b ρ=rOr (a ρ) (b ρ):=rfl
theorem tNot_ap (a:Rho→R Bool) (ρ:Rho):tNot' a ρ=rNot (a ρ):=rfl
theorem rAnd_ok (x y:Bool):rAnd (.ok x) (.ok y)=.ok (x&&y):=by cases x <;> rfl
theorem rAnd_ff (r:R Bool):rAnd (.ok false) r=.ok false:=rfl
theorem rAnd_tt (r:R Bool):rAnd (.ok true) r=r:=rfl
theorem rOr_ok (x y:Bool):rOr (.ok x) (.ok y)=.ok (x||y):=by cases x <;> rfl
theorem rOr_tt (r:R Bool):rOr (.ok true) r=.ok true:=rfl
theorem rOr_ff (r:R Bool):rOr (.ok false) r=r:=rfl
theorem rNot_ok (x:Bool):rNot (.ok x)=.ok (!x):=rfl
theorem vAnd_ap (a b:Rho→R W) (ρ:Rho):vAnd a b ρ=rAndV (a ρ) (b ρ):=rfl
theorem vOr_ap (a b:Rho→R W) (ρ:Rho):vOr a b ρ=rOrV (a ρ) (b ρ):=rfl
theorem vNot_ap (a:Rho→R W) (ρ:Rho):vNot a ρ=rNotV (a ρ):=rfl
theorem rAndV_ok (x y:Bool):rAndV (.ok (.bl x)) (.ok (.bl y))=.ok (.bl (x&&y)):=by cases x <;> rfl
theorem rAndV_ff (r:R W):rAndV (.ok (.bl false)) r=.ok (.bl false):=rfl
theorem rAndV_tt (r:R W):rAndV (.ok (.bl true)) r=r:=rfl
theorem rOrV_ok (x y:Bool):rOrV (.ok (.bl x)) (.ok (.bl y))=.ok (.bl (x||y)):=by cases x <;> rfl
theorem rOrV_tt (r:R W):rOrV (.ok (.bl true)) r=.ok (.bl true):=rfl
theorem rOrV_ff (r:R W):rOrV (.ok (.bl false)) r=r:=rfl
theorem rNotV_ok (x:Bool):rNotV (.ok (.bl x))=.ok (.bl (!x)):=rfl
def rIfW (c:R Bool) (a b:R W):R W:=c>>=fun t=>if t then a else b
theorem vIf_ap (c:Rho→R Bool) (a b:Rho→R W) (ρ:Rho):vIf c a b ρ=rIfW (c ρ) (a ρ) (b ρ):=rfl
theorem rIfW_tt (a b:R W):rIfW (.ok true) a b=a:=rfl
theorem rIfW_ff (a b:R W):rIfW (.ok false) a b=b:=rfl
theorem rIfW_ok (t:Bool) (x y:W):rIfW (.ok t) (.ok x) (.ok y)=.ok (if t then x else y):=by cases t <;> rfl
def Rchain (f f':W→W→R W) (a b c:R W):R W:=a>>=fun x=>b>>=fun y=>f x y>>=fun z=>toB z>>=fun t=>if t then c>>=fun u=>f' y u else .ok (.bl false)
theorem vChain_ap (f f':W→W→R W) (ma mb mc:Rho→R W) (ρ:Rho):vChain f f' ma mb mc ρ=Rchain f f' (ma ρ) (mb ρ) (mc ρ):=rfl
theorem Rchain_ii (g g':Int→Int→Bool) (i j k:Int):Rchain (fI0 fun i j=>.bl (g i j)) (fI0 fun i j=>.bl (g' i j)) (.ok (.int i)) (.ok (.int j)) (.ok (.int k))=.ok (.bl (g i j&&g' j k)):=by
 unfold Rchain
 show (if g i j=true then _ else _)=_
 cases h:g i j <;> simp [fI0]
def mkTup (ws:List W):R W:=lim ws.length (.tup ws)
def mkLst (ws:List W):R W:=lim ws.length (.lst ws)
theorem vTup_ap (ma:Rho→R (List W)) (ρ:Rho):vTup ma ρ=(ma ρ>>=mkTup):=rfl
theorem vLst_ap (ma:Rho→R (List W)) (ρ:Rho):vLst ma ρ=(ma ρ>>=mkLst):=rfl
theorem pN_ap (ρ:Rho):pN ρ=.ok none:=rfl
theorem pS_ap (m:Rho→R W) (ρ:Rho):pS m ρ=(m ρ>>=partW):=rfl
theorem partW_int (i:Int):partW (.int i)=.ok (some i):=rfl
def Rsl (c:Bool) (x:R W) (l u:R (Option Int)):R W:=x>>=fun x=>l>>=fun l=>u>>=fun u=>toR (lstOf x)>>=fun ws=>chks c (cutW ws l u)
theorem vSl_ap (c:Bool) (m:Rho→R W) (ml mh:Rho→R (Option Int)) (ρ:Rho):vSl c m ml mh ρ=Rsl c (m ρ) (ml ρ) (mh ρ):=rfl
theorem Rsl_lst (c:Bool) (ws:List W) (l u:Option Int):Rsl c (.ok (.lst ws)) (.ok l) (.ok u)=chks c (cutW ws l u):=rfl
theorem Rsl_scr (c:Bool) (ws:List W) (l u:Option Int):Rsl c (.ok (.scr ws)) (.ok l) (.ok u)=chks c (cutW ws l u):=rfl
def Rcomp (r:R (List W)) (n:Nat) (mg:W→Rho→Option Rho) (mc:Rho→R Bool) (me:Rho→R W) (ρ:Rho):R W:=r>>=fun ws=>mComp n mg mc me ws ρ
theorem vComp_ap (n:Nat) (mi:Rho→R (List W)) (mg:W→Rho→Option Rho) (mc:Rho→R Bool) (me:Rho→R W) (ρ:Rho):vComp n mi mg mc me ρ=Rcomp (mi ρ) n mg mc me ρ:=rfl
theorem Rcomp_ok (ws:List W) (n:Nat) (mg:W→Rho→Option Rho) (mc:Rho→R Bool) (me:Rho→R W) (ρ:Rho):Rcomp (.ok ws) n mg mc me ρ=mComp n mg mc me ws ρ:=rfl
theorem sNx_ap (ρ:Rho):sNx ρ=.ok (.nx ρ):=rfl
theorem sBk_ap (ρ:Rho):sBk ρ=.ok (.bk ρ):=rfl
theorem sCt_ap (ρ:Rho):sCt ρ=.ok (.ct ρ):=rfl
def Rdrop (r:R W) (ρ:Rho):R Fl:=r>>=fun _=>.ok (.nx ρ)
theorem sDrop_ap (m:Rho→R W) (ρ:Rho):sDrop m ρ=Rdrop (m ρ) ρ:=rfl
theorem Rdrop_ok (w:W) (ρ:Rho):Rdrop (.ok w) ρ=.ok (.nx ρ):=rfl
def retK (w:W):R Fl:=.ok (.rt w)
theorem sRet_ap (m:Rho→R W) (ρ:Rho):sRet m ρ=(m ρ>>=retK):=rfl
theorem retK_ap (w:W):retK w=.ok (.rt w):=rfl
theorem sRetN_ap (ρ:Rho):sRetN ρ=.ok (.rt .non):=rfl
def Rset (r:R W) (f:W→Sl) (i:Nat) (ρ:Rho):R Fl:=r>>=fun w=>.ok (.nx (ρ.set i (f w)))
theorem sV_ap (i:Nat) (m:Rho→R W) (ρ:Rho):sV i m ρ=Rset (m ρ) Sl.val i ρ:=rfl
theorem sU_ap (i:Nat) (m:Rho→R W) (ρ:Rho):sU i m ρ=Rset (m ρ) Sl.par i ρ:=rfl
theorem sF_ap (i:Nat) (m:Rho→R W) (ρ:Rho):sF i m ρ=Rset (m ρ) slotF i ρ:=rfl
theorem Rset_ok (w:W) (f:W→Sl) (i:Nat) (ρ:Rho):Rset (.ok w) f i ρ=.ok (.nx (ρ.set i (f w))):=rfl
theorem slotF_lst (ws:List W):slotF (.lst ws)=.own ws:=rfl
theorem slotF_tup (ws:List W):slotF (.tup ws)=.val (.tup ws):=rfl
theorem slotF_int (i:Int):slotF (.int i)=.val (.int i):=rfl
theorem slotF_bl (i:Bool):slotF (.bl i)=.val (.bl i):=rfl
theorem slotF_non:slotF .non=.val .non:=rfl
theorem slotF_str (i:Str):slotF (.str i)=.val (.str i):=rfl
def toNx:Option Rho→R Fl
 | some ρ=>.ok (.nx ρ)
 | none=>.stuck
def Rasg (r:R W) (mg:W→Rho→Option Rho) (ρ:Rho):R Fl:=r>>=fun w=>toR (mg w ρ)>>=fun ρ'=>.ok (.nx ρ')
theorem sG_ap (mg:W→Rho→Option Rho) (m:Rho→R W) (ρ:Rho):sG mg m ρ=Rasg (m ρ) mg ρ:=rfl
theorem Rasg_ok (w:W) (mg:W→Rho→Option Rho) (ρ:Rho):Rasg (.ok w) mg ρ=toNx (mg w ρ):=by
 show (toR (mg w ρ)>>=_)=_
 cases mg w ρ <;> rfl
theorem toNx_some (ρ:Rho):toNx (some ρ)=.ok (.nx ρ):=rfl
def Rfor (r:R (List W)) (mg:W→Rho→Option Rho) (mb:Rho→R Fl) (ρ:Rho):R Fl:=r>>=fun ws=>mFor mg mb ws ρ
theorem sFor_ap (mi:Rho→R (List W)) (mg:W→Rho→Option Rho) (mb:Rho→R Fl) (ρ:Rho):sFor mi mg mb ρ=Rfor (mi ρ) mg mb ρ:=rfl
theorem Rfor_ok (ws:List W) (mg:W→Rho→Option Rho) (mb:Rho→R Fl) (ρ:Rho):Rfor (.ok ws) mg mb ρ=mFor mg mb ws ρ:=rfl
theorem sFrz_ap (i:Nat) (m:Rho→R Fl) (ρ:Rho):sFrz i m ρ=m (frz i ρ):=rfl
def frzS:Option Sl→Nat→Rho→Rho
 | some (.own ws),i,ρ=>ρ.set i (.val (.lst ws))
 | _,_,ρ=>ρ
theorem frz_ap (i:Nat) (ρ:Rho):frz i ρ=frzS (ρ[i]?) i ρ:=by
 unfold frz frzS
 rcases h:ρ[i]? with _ | s
 ·rfl
 ·cases s <;> rfl
theorem frzS_own (ws:List W) (i:Nat) (ρ:Rho):frzS (some (.own ws)) i ρ=ρ.set i (.val (.lst ws)):=rfl
theorem frzS_val (w:W) (i:Nat) (ρ:Rho):frzS (some (.val w)) i ρ=ρ:=rfl
theorem frzS_par (w:W) (i:Nat) (ρ:Rho):frzS (some (.par w)) i ρ=ρ:=rfl
theorem frzS_un (i:Nat) (ρ:Rho):frzS (some .un) i ρ=ρ:=rfl
def rdS (d:Mode):Option Sl→R W
 | some (.val w)=>(match d with | .F=>chk w | _=>.ok w)
 | some (.par w)=>(match d with | .F=>chk w | .V=>chk w | .C=>chk w | _=>.ok w)
 | some (.own ws)=>(match d with | .C=>.ok (.lst ws) | .B=>.ok (.lst ws) | _=>.stuck)
 | some (.iop _ ws)=>(match d with | .B=>.ok (.lst ws) | .U=>.ok (.lst ws) | _=>.stuck)
 | some (.hz w)=>(match d with | .B=>.ok w | .U=>.ok w | _=>.stuck)
 | _=>.stuck
theorem mVar_ap (d:Mode) (i:Nat) (ρ:Rho):mVar d i ρ=rdS d (ρ[i]?):=by
 unfold mVar rdS
 rfl
theorem rdS_vF (w:W):rdS .F (some (.val w))=chk w:=rfl
theorem rdS_vV (w:W):rdS .V (some (.val w))=.ok w:=rfl
theorem rdS_vU (w:W):rdS .U (some (.val w))=.ok w:=rfl
theorem rdS_vC (w:W):rdS .C (some (.val w))=.ok w:=rfl
theorem rdS_vB (w:W):rdS .B (some (.val w))=.ok w:=rfl
theorem rdS_pF (w:W):rdS .F (some (.par w))=chk w:=rfl
theorem rdS_pV (w:W):rdS .V (some (.par w))=chk w:=rfl
theorem rdS_pU (w:W):rdS .U (some (.par w))=.ok w:=rfl
theorem rdS_pC (w:W):rdS .C (some (.par w))=chk w:=rfl
theorem rdS_pB (w:W):rdS .B (some (.par w))=.ok w:=rfl
theorem rdS_oC (ws:List W):rdS .C (some (.own ws))=.ok (.lst ws):=rfl
theorem rdS_oB (ws:List W):rdS .B (some (.own ws))=.ok (.lst ws):=rfl
def retS (d:Mode):Option Sl→R Fl
 | some (.own ws)=>.ok (.rt (.lst ws))
 | o=>rdS d o>>=retK
theorem mRetVar_ap (d:Mode) (i:Nat) (ρ:Rho):mRetVar d i ρ=retS d (ρ[i]?):=by
 unfold mRetVar retS
 rw [mVar_ap]
 rcases h:ρ[i]? with _ | s
 ·rfl
 ·cases s <;> rfl
theorem retS_own (d:Mode) (ws:List W):retS d (some (.own ws))=.ok (.rt (.lst ws)):=rfl
theorem retS_val (d:Mode) (w:W):retS d (some (.val w))=(rdS d (some (.val w))>>=retK):=rfl
theorem retS_par (d:Mode) (w:W):retS d (some (.par w))=(rdS d (some (.par w))>>=retK):=rfl
def appS (o:Option Sl) (r:R W) (i:Nat) (ρ:Rho):R Fl:=match o with
 | some (.own ws)=>r>>=fun w=>if ws.length<1000 then .ok (.nx (ρ.set i (.own (ws ++ [w])))) else .stuck
 | _=>.stuck
theorem mApp_ap (i:Nat) (m:Rho→R W) (ρ:Rho):mApp i m ρ=appS (ρ[i]?) (m ρ) i ρ:=rfl
theorem appS_ok (ws:List W) (w:W) (i:Nat) (ρ:Rho):appS (some (.own ws)) (.ok w) i ρ=if ws.length<1000 then .ok (.nx (ρ.set i (.own (ws ++ [w])))) else .stuck:=rfl
def setS (o:Option Sl) (a b:R W) (i:Nat) (ρ:Rho):R Fl:=match o with
 | some (.own ws)=>b>>=fun w=>a>>=fun k=>(match k with
  | .int k=>(match ixN ws.length k with
   | some j=>.ok (.nx (ρ.set i (.own (ws.set j w))))
   | none=>.stuck)
  | _=>.stuck)
 | _=>.stuck
theorem mSet_ap (i:Nat) (mk me:Rho→R W) (ρ:Rho):mSet i mk me ρ=setS (ρ[i]?) (mk ρ) (me ρ) i ρ:=rfl
def setJ (o:Option Nat) (ws:List W) (w:W) (i:Nat) (ρ:Rho):R Fl:=match o with
 | some j=>.ok (.nx (ρ.set i (.own (ws.set j w))))
 | none=>.stuck
theorem setS_ok (ws:List W) (w:W) (k:Int) (i:Nat) (ρ:Rho):setS (some (.own ws)) (.ok (.int k)) (.ok w) i ρ=setJ (ixN ws.length k) ws w i ρ:=rfl
theorem setJ_some (j:Nat) (ws:List W) (w:W) (i:Nat) (ρ:Rho):setJ (some j) ws w i ρ=.ok (.nx (ρ.set i (.own (ws.set j w)))):=rfl
def augS (f:Int→Int→Int) (a b:R W) (i:Nat) (ρ:Rho):R Fl:=a>>=fun x=>b>>=fun y=>match x,y with
 | .int a,.int b=>.ok (.nx (ρ.set i (.val (.int (f a b)))))
 | _,_=>.stuck
theorem mAug_ap (i:Nat) (f:Int→Int→Int) (m:Rho→R W) (ρ:Rho):mAug i f m ρ=augS f (rdS .B (ρ[i]?)) (m ρ) i ρ:=by
 rw [← mVar_ap]; rfl
theorem augS_ok (f:Int→Int→Int) (a b:Int) (i:Nat) (ρ:Rho):augS f (.ok (.int a)) (.ok (.int b)) i ρ=.ok (.nx (ρ.set i (.val (.int (f a b))))):=rfl
def ifS (c:R Bool) (m n:Rho→R Fl) (ρ:Rho):R Fl:=c>>=fun b=>if b then m ρ else n ρ
theorem mIf_ap (c:Rho→R Bool) (m n:Rho→R Fl) (ρ:Rho):mIf c m n ρ=ifS (c ρ) m n ρ:=rfl
theorem ifS_tt (m n:Rho→R Fl) (ρ:Rho):ifS (.ok true) m n ρ=m ρ:=rfl
theorem ifS_ff (m n:Rho→R Fl) (ρ:Rho):ifS (.ok false) m n ρ=n ρ:=rfl
def endB (r:R Fl):R W:=r>>=fun f=>match f with
 | .rt w=>.ok w
 | .nx _=>.ok .non
 | _=>.stuck
theorem runB_ap {n N:Nat} {m:Rho→R Fl} {ws:List W} (h:ws.length=n):runB n N m ws=endB (m (ws.map Sl.par++List.replicate (N-n) Sl.un)):=by unfold runB; rw [if_pos h]; rfl
theorem runB_1 {N:Nat} {m:Rho→R Fl} (a:W):runB 1 N m [a]=endB (m (Sl.par a::List.replicate (N-1) Sl.un)):=runB_ap rfl
theorem runB_2 {N:Nat} {m:Rho→R Fl} (a b:W):runB 2 N m [a,b]=endB (m (Sl.par a::Sl.par b::List.replicate (N-2) Sl.un)):=runB_ap rfl
theorem runB_3 {N:Nat} {m:Rho→R Fl} (a b c:W):runB 3 N m [a,b,c]=endB (m (Sl.par a::Sl.par b::Sl.par c::List.replicate (N-3) Sl.un)):=runB_ap rfl
theorem runB_4 {N:Nat} {m:Rho→R Fl} (a b c d:W):runB 4 N m [a,b,c,d]=endB (m (Sl.par a::Sl.par b::Sl.par c::Sl.par d::List.replicate (N-4) Sl.un)):=runB_ap rfl
theorem runB_5 {N:Nat} {m:Rho→R Fl} (a b c d e:W):runB 5 N m [a,b,c,d,e]=endB (m (Sl.par a::Sl.par b::Sl.par c::Sl.par d::Sl.par e::List.replicate (N-5) Sl.un)):=runB_ap rfl
theorem endB_rt (w:W):endB (.ok (.rt w))=.ok w:=rfl
theorem endB_nx (ρ:Rho):endB (.ok (.nx ρ))=.ok .non:=rfl
theorem fI0_ii (g:Int→Int→W) (i j:Int):fI0 g (.int i) (.int j)=.ok (g i j):=rfl
theorem fU_i (g:Int→W) (i:Int):fU g (.int i)=.ok (g i):=rfl
theorem fIx_l (ws:List W) (i:Int):fIx (.lst ws) (.int i)=toR (L2.atI ws i):=rfl
theorem fIx_t (ws:List W) (i:Int):fIx (.tup ws) (.int i)=toR (L2.atI ws i):=rfl
theorem fIx_s (ws:List W) (i:Int):fIx (.scr ws) (.int i)=toR (L2.atI ws i):=rfl
theorem toR_some {α:Type} (a:α):toR (some a)=.ok a:=rfl
theorem toB_bl (b:Bool):toB (.bl b)=.ok b:=rfl
theorem fLen_l (ws:List W):fLen [.lst ws]=.ok (.int ws.length):=rfl
theorem fLen_t (ws:List W):fLen [.tup ws]=.ok (.int ws.length):=rfl
theorem fLen_s (ws:List W):fLen [.scr ws]=.ok (.int ws.length):=rfl
theorem fList_l (c:Bool) (ws:List W):fList c [.lst ws]=chks c ws:=rfl
theorem fList_t (c:Bool) (ws:List W):fList c [.tup ws]=chks c ws:=rfl
theorem fTup_l (c:Bool) (ws:List W):fTup c [.lst ws]=chkT c ws:=rfl
theorem fTup_t (c:Bool) (ws:List W):fTup c [.tup ws]=chkT c ws:=rfl
theorem chks_t (ws:List W):chks true ws=.ok (.lst ws):=rfl
theorem chkT_t (ws:List W):chkT true ws=.ok (.tup ws):=rfl
theorem chks_no {c:Bool} {ws:List W} (h:noLs ws=true):chks c ws=.ok (.lst ws):=by unfold chks; rw [h,Bool.or_true,if_pos rfl]
theorem chkT_no {c:Bool} {ws:List W} (h:noLs ws=true):chkT c ws=.ok (.tup ws):=by unfold chkT; rw [h,Bool.or_true,if_pos rfl]
theorem chks_I (c:Bool) (ns:List Int):chks c (ns.map W.int)=.ok (.lst (ns.map W.int)):=chks_no (noLs_ints ns)
theorem chkT_I (c:Bool) (ns:List Int):chkT c (ns.map W.int)=.ok (.tup (ns.map W.int)):=chkT_no (noLs_ints ns)
theorem chk_no {w:W} (h:noL w=true):chk w=.ok w:=by unfold chk; rw [if_pos h]
theorem chk_int (i:Int):chk (.int i)=.ok (.int i):=rfl
theorem chk_bl (i:Bool):chk (.bl i)=.ok (.bl i):=rfl
theorem chk_str (i:Str):chk (.str i)=.ok (.str i):=rfl
theorem chk_non:chk .non=.ok .non:=rfl
theorem chk_tI (ns:List Int):chk (.tup (ns.map W.int))=.ok (.tup (ns.map W.int)):=chk_no (noLs_ints ns)
theorem f2_ii (g:Int→Int→Int) (i j:Int):f2 g [.int i,.int j]=.ok (.int (g i j)):=rfl
theorem seqW_l (ws:List W):seqW (.lst ws)=.ok ws:=rfl
theorem seqW_t (ws:List W):seqW (.tup ws)=.ok ws:=rfl
theorem seqW_s (ws:List W):seqW (.scr ws)=.ok ws:=rfl
theorem rng1_i (j:Int):rng1 [.int j]=rngW 0 j:=rfl
theorem rng2_i (i j:Int):rng2 [.int i,.int j]=rngW i j:=rfl
theorem gN_U (i:Nat) (w:W) (ρ:Rho):gN .U i w ρ=some (ρ.set i (.par w)):=rfl
theorem gN_V (i:Nat) (w:W) (ρ:Rho):gN .V i w ρ=some (ρ.set i (.val w)):=rfl
theorem gT_t (n:Nat) (g:List W→Rho→Option Rho) (ws:List W) (ρ:Rho):gT n g (.tup ws) ρ=if ws.length=n then g ws ρ else none:=rfl
theorem gsCons_c (f:W→Rho→Option Rho) (g:List W→Rho→Option Rho) (w:W) (ws:List W) (ρ:Rho):gsCons f g (w::ws) ρ=(f w ρ).bind (g ws):=rfl
theorem gsNil_n (ρ:Rho):gsNil [] ρ=some ρ:=rfl
theorem mkTup_ap (ws:List W):mkTup ws=if ws.length≤1000 then .ok (.tup ws) else .stuck:=rfl
theorem mkLst_ap (ws:List W):mkLst ws=if ws.length≤1000 then .ok (.lst ws) else .stuck:=rfl
theorem fIsi_ap (x:W) (T:String):fIsi [x,.ty T]=(toR ((tyW x).bind fun A=>isiB A T)>>=fun b=>.ok (.bl b)):=rfl
theorem isi_nt:isiB "NoneType" "tuple" = some false:=by decide
theorem isi_nl:isiB "NoneType" "list" = some false:=by decide
theorem isi_lt:isiB "list" "tuple" = some false:=by decide
theorem isi_tl:isiB "tuple" "list" = some false:=by decide
theorem fIsN_n (n:Bool) (u:W):fIsN n u .non=.ok (.bl (if n then !isN u else isN u)):=rfl
theorem mapR_all {f:W→R (Option W)} {α:Type} (g:α→W) (s:α→W):∀ (as:List α),(∀ a∈as,f (s a)=.ok (some (g a)))→mapR f (as.map s)=.ok (as.map g)
 | [],_=>rfl
 | a::as,h=>by
  rw [List.map_cons,mapR,h a (by simp),mapR_all g s as fun b hb=>h b (by simp [hb])]
  rfl
theorem mapR_filter {f:W→R (Option W)} {α:Type} (g:α→W) (s:α→W) (c:α→Bool):∀ (as:List α),(∀ a∈as,f (s a)=.ok (if c a then some (g a) else none))→mapR f (as.map s)=.ok ((as.filter c).map g)
 | [],_=>rfl
 | a::as,h=>by
  have ih:=mapR_filter g s c as fun b hb=>h b (by simp [hb])
  rw [List.map_cons,mapR,h a (by simp),ih]
  cases hc:c a
  ·simp [hc]
  ·simp [hc]
theorem mComp_all {N':Nat} {mg:W→Rho→Option Rho} {me:Rho→R W} {α:Type} (g:α→W) (s:α→W) (as:List α) (ρ:Rho) (hl:as.length≤1000)
  (h:∀ a∈as,∃ ρ1,mg (s a) (ρ++List.replicate (N'-ρ.length) Sl.un)=some ρ1∧me ρ1=.ok (g a)):mComp N' mg yes me (as.map s) ρ=.ok (.lst (as.map g)):=by
 unfold mComp
 rw [List.length_map,if_pos hl,mapR_all g s as]
 intro a ha
 obtain ⟨ρ1,e1,e2⟩:=h a ha
 unfold elR
 rw [e1]
 have hy:yes ρ1=.ok true:=rfl
 dsimp only
 rw [hy]
 dsimp only
 rw [e2]
theorem mComp_filter {N':Nat} {mg:W→Rho→Option Rho} {mc:Rho→R Bool} {me:Rho→R W} {α:Type} (g:α→W) (s:α→W) (c:α→Bool) (as:List α) (ρ:Rho) (hl:as.length≤1000)
  (h:∀ a∈as,∃ ρ1,mg (s a) (ρ++List.replicate (N'-ρ.length) Sl.un)=some ρ1∧mc ρ1=.ok (c a)∧(c a=true→me ρ1=.ok (g a))):mComp N' mg mc me (as.map s) ρ=.ok (.lst ((as.filter c).map g)):=by
 unfold mComp
 rw [List.length_map,if_pos hl,mapR_filter g s c as]
 intro a ha
 obtain ⟨ρ1,e1,e2,e3⟩:=h a ha
 unfold elR
 rw [e1]
 dsimp only
 rw [e2]
 cases hc:c a with
 | false=>rfl
 | true=>dsimp only; rw [e3 hc]; rfl
theorem rngW_int {z:Int} (h0:-1000000≤z) (h:z≤1000000):rngW 0 z=.ok ((List.range z.toNat).map fun k=>W.int (k:Nat)):=by
 unfold rngW
 rw [if_pos (by omega)]
 simp
theorem rng_at {n i:Nat} {w:W} (h:((List.range n).map fun k=>W.int (k:Nat))[i]?=some w):i<n∧w=.int (i:Nat):=by
 rw [List.getElem?_map] at h
 cases q:(List.range n)[i]? with
 | none=>rw [q] at h; cases h
 | some k=>
  rw [q] at h
  obtain ⟨h1,h2⟩:=List.getElem?_eq_some_iff.mp q
  simp at h1 h2
  subst h2
  cases h
  exact ⟨h1,rfl⟩
def cutI (xs:List Int) (lo hi:Option Int):List Int:=(xs.drop (HT.sIx xs.length 0 lo)).take (HT.sIx xs.length xs.length hi-HT.sIx xs.length 0 lo)
theorem cutW_I (ns:List Int) (lo hi:Option Int):cutW (ns.map W.int) lo hi=(cutI ns lo hi).map W.int:=by
 unfold cutW cutI
 rw [List.length_map,← List.map_drop,← List.map_take]
theorem cutI_mem {ns:List Int} {lo hi:Option Int} {P:Int→Prop} (h:∀ x∈ns,P x):∀ x∈cutI ns lo hi,P x:=fun x hx=>by
 unfold cutI at hx
 exact h x (List.mem_of_mem_drop (List.mem_of_mem_take hx))
theorem setW_I (ns:List Int) (j:Nat) (z:Int):(ns.map W.int).set j (.int z)=(ns.set j z).map W.int:=by rw [List.map_set]
theorem appW_I (ns:List Int) (z:Int):ns.map W.int ++ [.int z]=(ns ++ [z]).map W.int:=by rw [List.map_append]; rfl
theorem repW_I (k:Nat) (z:Int):(List.replicate k [W.int z]).flatten=(List.replicate k z).map W.int:=by
 induction k with
 | zero=>rfl
 | succ k ih=>rw [List.replicate_succ,List.flatten_cons,ih,List.replicate_succ,List.map_cons]; rfl
theorem mapI {α:Type} (as:List α) (f:α→Int):(as.map fun a=>W.int (f a))=(as.map f).map W.int:=by rw [List.map_map]; rfl
theorem vec_getD {n k:Nat} {f:Nat→Int} (h:k<n):((List.range n).map f).getD k 0=f k:=by
 rw [List.getD_eq_getElem?_getD,List.getElem?_map]
 simp [h]
theorem zipW_I2 {a b:List Int} (h:b.length=a.length):(zipW [a.map W.int,b.map W.int]).map W.tup=(List.range a.length).map fun k=>W.tup [.int (a.getD k 0),.int (b.getD k 0)]:=by
 apply List.ext_getElem?
 intro i
 simp only [zipW,List.getElem?_map,List.getElem?_zipWith]
 by_cases hi:i<a.length
 ·rw [some_getD hi,some_getD (ns:=b) (by omega)]; simp [hi]
 ·simp [hi]
theorem zipW_I3 {a b c:List Int} (h:b.length=a.length) (h':c.length=a.length):(zipW [a.map W.int,b.map W.int,c.map W.int]).map W.tup=(List.range a.length).map fun k=>W.tup [.int (a.getD k 0),.int (b.getD k 0),.int (c.getD k 0)]:=by
 apply List.ext_getElem?
 intro i
 simp only [zipW,List.getElem?_map,List.getElem?_zipWith,List.zip]
 by_cases hi:i<a.length
 ·rw [some_getD hi,some_getD (ns:=b) (by omega),some_getD (ns:=c) (by omega)]; simp [hi]
 ·simp [hi]
theorem zipR_2 (x y:W) (xs ys:List W) (hx:seqW x=.ok xs) (hy:seqW y=.ok ys):zipR [x,y]=.ok ((zipW [xs,ys]).map W.tup):=by
 unfold zipR
 simp only [List.length_cons,List.length_nil,seqWs,hx,hy,Nat.reduceAdd,true_or,if_true]
theorem zipR_3 (x y z:W) (xs ys zs:List W) (hx:seqW x=.ok xs) (hy:seqW y=.ok ys) (hz:seqW z=.ok zs):zipR [x,y,z]=.ok ((zipW [xs,ys,zs]).map W.tup):=by
 unfold zipR
 simp only [List.length_cons,List.length_nil,seqWs,hx,hy,hz,Nat.reduceAdd,or_true,if_true]
theorem mul_L {i j:Int} (h:-18446744073709551616<i∧i<18446744073709551616):fI CMul gMul (.int i) (.int j)=.ok (.int (i*j)):=by
 show (if CMul i j then _ else _)=_
 rw [if_pos (.inl (by simpa using h))]
theorem mul_R {i j:Int} (h:-18446744073709551616<j∧j<18446744073709551616):fI CMul gMul (.int i) (.int j)=.ok (.int (i*j)):=by
 show (if CMul i j then _ else _)=_
 rw [if_pos (.inr (by simpa using h))]
theorem mod_ii {i j:Int} (h:0<j):fI cMod gMod (.int i) (.int j)=.ok (.int (i%j)):=by
 show (if cMod i j then _ else _)=_
 rw [if_pos h]
theorem div_ii {i j:Int} (h:0<j∧j<1073741824):fI CDiv gDiv (.int i) (.int j)=.ok (.int (i/j)):=by
 show (if CDiv i j then _ else _)=_
 rw [if_pos (show CDiv i j from h)]
theorem pow_ii {i j:Int} (h:0≤j∧j≤1000000 ∧ -18446744073709551616<i∧i<18446744073709551616):fI CPow gPow (.int i) (.int j)=.ok (.int (i^j.toNat)):=by
 show (if CPow i j then _ else _)=_
 rw [if_pos ⟨h.1,h.2.1,by omega⟩]
theorem appS_c {ws:List W} {w:W} {i:Nat} {ρ:Rho} (h:ws.length<1000):appS (some (.own ws)) (.ok w) i ρ=.ok (.nx (ρ.set i (.own (ws ++ [w])))):=by rw [appS_ok,if_pos h]
theorem mkTup_c {ws:List W} (h:ws.length≤1000):mkTup ws=.ok (.tup ws):=by rw [mkTup_ap,if_pos h]
theorem mkLst_c {ws:List W} (h:ws.length≤1000):mkLst ws=.ok (.lst ws):=by rw [mkLst_ap,if_pos h]
theorem fCat_c {c:Bool} {us vs:List W} (h:us.length+vs.length≤1000):fCat c (.lst us) (.lst vs)=chks c (us++vs):=by
 show (if us.length+vs.length≤1000 then _ else _)=_
 rw [if_pos h]
theorem fRep_1 {c:Bool} {z:W} {k:Int} (h:0≤k∧k≤1000):fRep c (.lst [z]) (.int k)=chks c (List.replicate k.toNat [z]).flatten:=by
 show (if [z].length*k.toNat≤1000 ∧ -1000≤k∧k≤1000 then _ else _)=_
 rw [if_pos ⟨by simp only [List.length_cons,List.length_nil]; omega,by omega,h.2⟩]
theorem atW_c {ns:List Int} {i:Int} (h:0≤i∧i<ns.length):L2.atI (ns.map W.int) i=some (.int (ns.getD i.toNat 0)):=atW h.1 h.2
theorem ixN_c {n:Nat} {i:Int} (h:0≤i∧i<n):ixN n i=some i.toNat:=ixN_int h.1 h.2
theorem rngW_c {z:Int} (h:-1000000≤z∧z≤1000000):rngW 0 z=.ok ((List.range z.toNat).map fun k=>W.int (k:Nat)):=rngW_int h.1 h.2
def Ok (r:R W) (P:W→Prop):Prop:=∃ w,r=.ok w∧P w
def Po (r:R Fl) (Jn:Rho→Prop) (Jr:W→Prop):Prop:=match r with
 | .ok (.nx ρ)=>Jn ρ
 | .ok (.rt w)=>Jr w
 | _=>False
theorem ok_end {r:R Fl} {P:W→Prop} (h:Po r (fun _=>P .non) P):Ok (endB r) P:=by
 cases r with
 | ex _=>exact h.elim
 | stuck=>exact h.elim
 | ok f=>cases f with
  | nx ρ=>exact ⟨_,rfl,h⟩
  | rt w=>exact ⟨_,rfl,h⟩
  | bk _=>exact h.elim
  | ct _=>exact h.elim
theorem po_seq {r:R Fl} {n:Rho→R Fl} {Jn:Rho→Prop} {Jr:W→Prop} (h:Po r (fun ρ=>Po (n ρ) Jn Jr) Jr):Po (andThen r n) Jn Jr:=by
 cases r with
 | ex _=>exact h.elim
 | stuck=>exact h.elim
 | ok f=>cases f with
  | nx ρ=>exact h
  | rt w=>exact h
  | bk _=>exact h.elim
  | ct _=>exact h.elim
theorem po_nx {ρ:Rho} {Jn:Rho→Prop} {Jr:W→Prop}:Po (.ok (.nx ρ)) Jn Jr=Jn ρ:=rfl
theorem po_rt {w:W} {Jn:Rho→Prop} {Jr:W→Prop}:Po (.ok (.rt w)) Jn Jr=Jr w:=rfl
theorem po_if {b:Bool} {m n:Rho→R Fl} {ρ:Rho} {Jn:Rho→Prop} {Jr:W→Prop} (h1:b=true→Po (m ρ) Jn Jr) (h2:b=false→Po (n ρ) Jn Jr):Po (ifS (.ok b) m n ρ) Jn Jr:=by
 cases b with
 | true=>exact h1 rfl
 | false=>exact h2 rfl
theorem po_ifs {b:Bool} {m n:Rho→R Fl} {ρ:Rho} {k:Rho→R Fl} {Jn:Rho→Prop} {Jr:W→Prop} (h1:b=true→Po (andThen (m ρ) k) Jn Jr) (h2:b=false→Po (andThen (n ρ) k) Jn Jr):Po (andThen (ifS (.ok b) m n ρ) k) Jn Jr:=by
 cases b with
 | true=>exact h1 rfl
 | false=>exact h2 rfl
theorem Po.mono {r:R Fl} {Jn Jn':Rho→Prop} {Jr Jr':W→Prop} (h:Po r Jn Jr) (h1:∀ ρ,Jn ρ→Jn' ρ) (h2:∀ w,Jr w→Jr' w):Po r Jn' Jr':=by
 cases r with
 | ex _=>exact h
 | stuck=>exact h
 | ok f=>cases f with
  | nx ρ=>exact h1 ρ h
  | rt w=>exact h2 w h
  | bk _=>exact h
  | ct _=>exact h
theorem po_for_go {mg:W→Rho→Option Rho} {mb:Rho→R Fl} {Jr:W→Prop} (I:Nat→Rho→Prop):∀ (ws:List W) (k:Nat) (ρ:Rho),I k ρ →
  (∀ (i:Nat) (w:W) (ρ:Rho),ws[i]?=some w→I (k+i) ρ→∃ ρ1,mg w ρ=some ρ1∧Po (mb ρ1) (I (k+i+1)) Jr)→Po (mFor mg mb ws ρ) (I (k+ws.length)) Jr
 | [],k,ρ,h,_=>h
 | w::ws,k,ρ,h,st=>by
  obtain ⟨ρ1,e1,p⟩:=st 0 w ρ rfl h
  unfold mFor
  rw [e1]
  show Po (mb ρ1>>=_) _ _
  revert p
  cases mb ρ1 with
  | ex _=>exact fun p=>p.elim
  | stuck=>exact fun p=>p.elim
  | ok f=>cases f with
   | bk _=>exact fun p=>p.elim
   | ct _=>exact fun p=>p.elim
   | rt w=>exact fun p=>p
   | nx ρ2=>
    intro p
    have:=po_for_go (mg:=mg) (mb:=mb) I ws (k+1) ρ2 p fun i w ρ hw hp=>by
     have:=st (i+1) w ρ (by simpa using hw) (by rw [show k+(i+1)=k+1+i by omega]; exact hp)
     rw [show k+(i+1)+1=k+1+i+1 by omega] at this
     exact this
    rw [List.length_cons,show k+(ws.length+1)=k+1+ws.length by omega]
    exact this
theorem po_for {mg:W→Rho→Option Rho} {mb:Rho→R Fl} {ws:List W} {ρ:Rho} {Jn:Rho→Prop} {Jr:W→Prop} (I:Nat→Rho→Prop) (h0:I 0 ρ)
  (st:∀ (i:Nat) (w:W) (ρ:Rho),ws[i]?=some w→I i ρ→∃ ρ1,mg w ρ=some ρ1∧Po (mb ρ1) (I (i+1)) Jr) (hn:∀ ρ,I ws.length ρ→Jn ρ):Po (mFor mg mb ws ρ) Jn Jr:=by
 have:=po_for_go (mg:=mg) (mb:=mb) (Jr:=Jr) I ws 0 ρ h0 fun i w ρ hw hp=>by rw [Nat.zero_add] at hp ⊢; exact st i w ρ hw hp
 rw [Nat.zero_add] at this
 exact this.mono hn fun _ h=>h
theorem po_fors {mg:W→Rho→Option Rho} {mb n:Rho→R Fl} {ws:List W} {ρ:Rho} {Jn:Rho→Prop} {Jr:W→Prop} (I:Nat→Rho→Prop) (h0:I 0 ρ)
  (st:∀ (i:Nat) (w:W) (ρ:Rho),ws[i]?=some w→I i ρ→∃ ρ1,mg w ρ=some ρ1∧Po (mb ρ1) (I (i+1)) Jr) (hn:∀ ρ,I ws.length ρ→Po (n ρ) Jn Jr):Po (andThen (mFor mg mb ws ρ) n) Jn Jr:=po_seq (po_for I h0 st hn)
theorem po_while {c:Rho→R Bool} {b:Rho→R Fl} {Jn:Rho→Prop} {Jr:W→Prop} (I:Nat→Rho→Prop)
  (st:∀ m ρ,I m ρ→∃ t,c ρ=.ok t∧if t=true then Po (b ρ) (fun ρ'=>∃ m',m'<m∧I m' ρ') Jr else Jn ρ):∀ (m:Nat) (ρ:Rho),I m ρ→Po (mWhile c b ρ) Jn Jr:=by
 have key:∀ (m:Nat) (ρ:Rho),I m ρ→∃ r,iterW c b (m+1) ρ=some r∧Po r Jn Jr:=by
  intro m
  induction m using Nat.strongRecOn with
  | ind m ih=>
   intro ρ h
   obtain ⟨t,e,q⟩:=st m ρ h
   unfold iterW
   rw [e]
   cases t with
   | false=>rw [if_neg Bool.false_ne_true] at q; exact ⟨_,rfl,q⟩
   | true=>
    rw [if_pos rfl] at q
    dsimp only
    revert q
    cases b ρ with
    | ex _=>exact fun q=>q.elim
    | stuck=>exact fun q=>q.elim
    | ok f=>cases f with
     | bk _=>exact fun q=>q.elim
     | ct _=>exact fun q=>q.elim
     | rt w=>exact fun q=>⟨_,rfl,q⟩
     | nx ρ'=>
      intro ⟨m',hm,h'⟩
      obtain ⟨r,e',q'⟩:=ih m' hm ρ' h'
      exact ⟨r,iterW_more (m'+1) ρ' r e' m (by omega),q'⟩
 intro m ρ h
 obtain ⟨r,e,q⟩:=key m ρ h
 rw [mWhile_eq e]
 exact q
theorem mapR_ex {f:W→R (Option W)} {α:Type} (s:α→W) (p:α→Int→Prop):∀ (as:List α),(∀ a∈as,∃ z,f (s a)=.ok (some (.int z))∧p a z)→∃ zs:List Int,mapR f (as.map s)=.ok (zs.map W.int)∧Paired p as zs
 | [],_=>⟨[],rfl,.nil⟩
 | a::as,h=>by
  obtain ⟨z,e,hz⟩:=h a (by simp)
  obtain ⟨zs,e2,hp⟩:=mapR_ex s p as fun b hb=>h b (by simp [hb])
  refine ⟨z::zs,?_,.cons hz hp⟩
  rw [List.map_cons,mapR,e,e2]; rfl
theorem mComp_ints {N':Nat} {mg:W→Rho→Option Rho} {me:Rho→R W} {α:Type} {as:List α} {s:α→W} {ρ:Rho} (p:α→Int→Prop) (hl:as.length≤1000)
  (h:∀ a∈as,∃ ρ1,mg (s a) (ρ++List.replicate (N'-ρ.length) Sl.un)=some ρ1∧Ok (me ρ1) fun w=>∃ z,w=.int z∧p a z):∃ zs:List Int,mComp N' mg yes me (as.map s) ρ=.ok (lI zs)∧Paired p as zs:=by
 obtain ⟨zs,e,hp⟩:=mapR_ex (f:=elR mg yes me (ρ++List.replicate (N'-ρ.length) Sl.un)) s p as fun a ha=>by
  obtain ⟨ρ1,e1,w,e2,z,rfl,hz⟩:=h a ha
  refine ⟨z,?_,hz⟩
  unfold elR
  rw [e1]
  have hy:yes ρ1=.ok true:=rfl
  dsimp only
  rw [hy]
  dsimp only
  rw [e2]
 refine ⟨zs,?_,hp⟩
 unfold mComp
 rw [List.length_map,if_pos hl,e]
def OkL (r:R (List W)) (P:List W→Prop):Prop:=∃ w,r=.ok w∧P w
theorem po_ret {r:R W} {Jn:Rho→Prop} {Jr:W→Prop} (h:Ok r Jr):Po (r>>=retK) Jn Jr:=by
 obtain ⟨w,rfl,q⟩:=h; exact q
theorem po_set {r:R W} {f:W→Sl} {i:Nat} {ρ:Rho} {Jn:Rho→Prop} {Jr:W→Prop} (h:Ok r fun w=>Jn (ρ.set i (f w))):Po (Rset r f i ρ) Jn Jr:=by
 obtain ⟨w,rfl,q⟩:=h; exact q
theorem po_sets {r:R W} {f:W→Sl} {i:Nat} {ρ:Rho} {n:Rho→R Fl} {Jn:Rho→Prop} {Jr:W→Prop} (h:Ok r fun w=>Po (n (ρ.set i (f w))) Jn Jr):Po (andThen (Rset r f i ρ) n) Jn Jr:=po_seq (po_set h)
theorem ok_bindL {r:R (List W)} {f:List W→R W} {P:W→Prop} (h:OkL r fun w=>Ok (f w) P):Ok (r>>=f) P:=by
 obtain ⟨w,rfl,q⟩:=h; exact q
theorem okL_1 {a:R W} {xs:List W} {P:List W→Prop} (h:Ok a fun x=>P (x::xs)):OkL (Rcons a (.ok xs)) P:=by
 obtain ⟨w,rfl,q⟩:=h; exact ⟨_,rfl,q⟩
theorem ok_comp {N':Nat} {mg:W→Rho→Option Rho} {me:Rho→R W} {α:Type} {as:List α} {s:α→W} {ρ:Rho} {P:W→Prop} (p:α→Int→Prop) (hl:as.length≤1000)
  (h:∀ a∈as,∃ ρ1,mg (s a) (ρ++List.replicate (N'-ρ.length) Sl.un)=some ρ1∧Ok (me ρ1) fun w=>∃ z,w=.int z∧p a z) (hp:∀ zs,Paired p as zs→P (lI zs)):Ok (mComp N' mg yes me (as.map s) ρ) P:=by
 obtain ⟨zs,e,q⟩:=mComp_ints (mg:=mg) (me:=me) (ρ:=ρ) (N':=N') p hl h
 exact ⟨_,e,hp zs q⟩
theorem ok_tcomp {N':Nat} {mg:W→Rho→Option Rho} {me:Rho→R W} {α:Type} {as:List α} {s:α→W} {ρ:Rho} {P:W→Prop} {c:Bool} (p:α→Int→Prop) (hl:as.length≤1000)
  (h:∀ a∈as,∃ ρ1,mg (s a) (ρ++List.replicate (N'-ρ.length) Sl.un)=some ρ1∧Ok (me ρ1) fun w=>∃ z,w=.int z∧p a z) (hp:∀ zs,Paired p as zs→P (tI zs)):Ok (Rcons (mComp N' mg yes me (as.map s) ρ) (.ok [])>>=fTup c) P:=
 ok_bindL (okL_1 (ok_comp p hl h fun zs q=>⟨_,by rw [fTup_l,chkT_I],hp zs q⟩))
theorem gMax_max (i j:Int):gMax i j=max i j:=by unfold gMax; omega
theorem gMin_min (i j:Int):gMin i j=min i j:=by unfold gMin; omega
def oW:Option Int→W
 | none=>.non
 | some i=>.int i
theorem oW_n:oW none=.non:=rfl
theorem oW_s (i:Int):oW (some i)=.int i:=rfl
theorem noL_oW (o:Option Int):noL (oW o)=true:=by cases o <;> rfl
theorem chk_oW (o:Option Int):chk (oW o)=.ok (oW o):=chk_no (noL_oW o)
theorem noLs_map {α:Type} (f:α→W) (h:∀ a,noL (f a)=true) (as:List α):noLs (as.map f)=true:=by
 induction as with
 | nil=>rfl
 | cons a as ih=>rw [List.map_cons]; simp only [noLs,h,ih,Bool.and_self]
theorem noLs_oW (cs:List (Option Int)):noLs (cs.map oW)=true:=noLs_map oW noL_oW cs
theorem chks_O (c:Bool) (cs:List (Option Int)):chks c (cs.map oW)=.ok (.lst (cs.map oW)):=chks_no (noLs_oW cs)
theorem chkT_O (c:Bool) (cs:List (Option Int)):chkT c (cs.map oW)=.ok (.tup (cs.map oW)):=chkT_no (noLs_oW cs)
theorem isN_oW (o:Option Int):isN (oW o)=o.isNone:=by cases o <;> rfl
theorem slotF_oW (o:Option Int):slotF (oW o)=.val (oW o):=by cases o <;> rfl
theorem at_map {α:Type} (f:α→W) {as:List α} {d:α} {i:Int} (h:0≤i∧i<as.length):L2.atI (as.map f) i=some (f (as.getD i.toNat d)):=by
 unfold L2.atI
 rw [List.length_map,ixN_int h.1 h.2]
 show (as.map f)[i.toNat]?=_
 have hi:i.toNat<as.length:=by omega
 rw [List.getElem?_map,List.getD_eq_getElem?_getD]
 simp [hi]
theorem atO_c {cs:List (Option Int)} {i:Int} (h:0≤i∧i<cs.length):L2.atI (cs.map oW) i=some (oW (cs.getD i.toNat none)):=at_map oW h
theorem appO (cs:List (Option Int)) (o:Option Int):cs.map oW ++ [oW o]=(cs ++ [o]).map oW:=by rw [List.map_append]; rfl
theorem range_at {n i:Nat} {f:Nat→W} {w:W} (h:((List.range n).map f)[i]?=some w):i<n∧w=f i:=by
 rw [List.getElem?_map] at h
 cases q:(List.range n)[i]? with
 | none=>rw [q] at h; cases h
 | some k=>
  rw [q] at h
  obtain ⟨h1,h2⟩:=List.getElem?_eq_some_iff.mp q
  simp at h1 h2
  subst h2
  cases h
  exact ⟨h1,rfl⟩
theorem noL_tI (ns:List Int):noL (tI ns)=true:=noLs_ints ns
theorem noLs_S (ss:List (List Int)):noLs (ss.map tI)=true:=noLs_map tI noL_tI ss
theorem chks_S (c:Bool) (ss:List (List Int)):chks c (ss.map tI)=.ok (.lst (ss.map tI)):=chks_no (noLs_S ss)
theorem chkT_S (c:Bool) (ss:List (List Int)):chkT c (ss.map tI)=.ok (.tup (ss.map tI)):=chkT_no (noLs_S ss)
theorem atS_c {ss:List (List Int)} {i:Int} (h:0≤i∧i<ss.length):L2.atI (ss.map tI) i=some (tI (ss.getD i.toNat [])):=at_map tI h
theorem appW_S (ss:List (List Int)) (s:List Int):ss.map tI ++ [tI s]=(ss ++ [s]).map tI:=by rw [List.map_append]; rfl
def cutL {α:Type} (xs:List α) (lo hi:Option Int):List α:=(xs.drop (HT.sIx xs.length 0 lo)).take (HT.sIx xs.length xs.length hi-HT.sIx xs.length 0 lo)
theorem cutW_map {α:Type} (f:α→W) (as:List α) (lo hi:Option Int):cutW (as.map f) lo hi=(cutL as lo hi).map f:=by
 unfold cutW cutL
 rw [List.length_map,← List.map_drop,← List.map_take]
theorem cutW_S (ss:List (List Int)) (lo hi:Option Int):cutW (ss.map tI) lo hi=(cutL ss lo hi).map tI:=cutW_map tI ss lo hi
theorem catW_S (ss ts:List (List Int)):ss.map tI++ts.map tI=(ss++ts).map tI:=by rw [List.map_append]
theorem catW_I (ss ts:List Int):ss.map W.int++ts.map W.int=(ss++ts).map W.int:=by rw [List.map_append]
theorem mapR_exf {f:W→R (Option W)} {α β:Type} (s:α→W) (g:β→W) (p:α→β→Prop):∀ (as:List α),(∀ a∈as,∃ z,f (s a)=.ok (some (g z))∧p a z)→∃ zs:List β,mapR f (as.map s)=.ok (zs.map g)∧Paired p as zs
 | [],_=>⟨[],rfl,.nil⟩
 | a::as,h=>by
  obtain ⟨z,e,hz⟩:=h a (by simp)
  obtain ⟨zs,e2,hp⟩:=mapR_exf s g p as fun b hb=>h b (by simp [hb])
  refine ⟨z::zs,?_,.cons hz hp⟩
  rw [List.map_cons,mapR,e,e2]; rfl
theorem ok_compf {N':Nat} {mg:W→Rho→Option Rho} {me:Rho→R W} {α β:Type} {as:List α} {s:α→W} {ρ:Rho} {P:W→Prop} (g:β→W) (p:α→β→Prop) (hl:as.length≤1000)
  (h:∀ a∈as,∃ ρ1,mg (s a) (ρ++List.replicate (N'-ρ.length) Sl.un)=some ρ1∧Ok (me ρ1) fun w=>∃ z,w=g z∧p a z) (hp:∀ zs:List β,Paired p as zs→P (.lst (zs.map g))):Ok (mComp N' mg yes me (as.map s) ρ) P:=by
 obtain ⟨zs,e,q⟩:=mapR_exf (f:=elR mg yes me (ρ++List.replicate (N'-ρ.length) Sl.un)) s g p as fun a ha=>by
  obtain ⟨ρ1,e1,w,e2,z,rfl,hz⟩:=h a ha
  refine ⟨z,?_,hz⟩
  unfold elR
  rw [e1]
  have hy:yes ρ1=.ok true:=rfl
  dsimp only
  rw [hy]
  dsimp only
  rw [e2]
 refine ⟨_,?_,hp zs q⟩
 unfold mComp
 rw [List.length_map,if_pos hl,e]
theorem paired_all {α β:Type} {p:α→β→Prop} {P:β→Prop} {as:List α} {zs:List β} (h:Paired p as zs) (hp:∀ a z,p a z→P z):∀ z∈zs,P z:=by
 induction h with
 | nil=>intro z hz; cases hz
 | cons h1 _ ih=>
  intro z hz
  rcases List.mem_cons.mp hz with rfl | hz
  ·exact hp _ _ h1
  ·exact ih z hz
theorem rngW_2 {lo hi:Int} (h:-1000000≤lo∧lo≤1000000 ∧ -1000000≤hi∧hi≤1000000):rngW lo hi=.ok ((List.range (hi-lo).toNat).map fun k=>W.int (lo+(k:Nat))):=by
 unfold rngW
 rw [if_pos h]
theorem eqv_refl:∀ w:W,PyData.eqv (pd w) (pd w)=true:=by
 intro w
 refine W.rec (motive_1:=fun w=>PyData.eqv (pd w) (pd w)=true) (motive_2:=fun ws=>PyData.eqvAll (pds ws) (pds ws)=true) ?_ ?_ ?_ ?_ ?_ ?_ ?_ ?_ ?_ ?_ ?_ ?_ w
 ·simp [pd,PyData.eqv]
 ·intro b; simp [pd,PyData.eqv]
 ·intro b; simp [pd,PyData.eqv]
 ·intro b; simp [pd,PyData.eqv]
 ·intro b; simp [pd,PyData.eqv]
 ·intro ws h; simpa [pd,PyData.eqv] using h
 ·intro ws h; simpa [pd,PyData.eqv] using h
 ·intro ws h; simpa [pd,PyData.eqv] using h
 ·intro b c; simp [pd,PyData.eqv]
 ·intro b; simp [pd,PyData.eqv]
 ·simp [pds,PyData.eqvAll]
 ·intro w ws h1 h2; simp [pds,PyData.eqvAll,h1,h2]
theorem eqW_self (w:W):eqW w w=true:=eqv_refl w
theorem shps_map {α:Type} (f:α→W) (n:Nat) (h:∀ a,shp n (f a)=true) (as:List α):shps n (as.map f)=true:=by
 induction as with
 | nil=>rfl
 | cons a as ih=>rw [List.map_cons]; simp only [shps,h,ih,Bool.and_self]
theorem shp_int (n:Nat) (i:Int):shp n (.int i)=true:=by cases n <;> rfl
theorem shp_bl (n:Nat) (b:Bool):shp n (.bl b)=true:=by cases n <;> rfl
theorem shp_tI (n:Nat) (ns:List Int):shp (n+1) (tI ns)=true:=shps_map W.int n (shp_int n) ns
theorem shp_lI (n:Nat) (ns:List Int):shp (n+1) (lI ns)=true:=shps_map W.int n (shp_int n) ns
theorem shp_lS (n:Nat) (ss:List (List Int)):shp (n+2) (.lst (ss.map tI))=true:=shps_map tI (n+1) (shp_tI n) ss
theorem fEq_self {neg:Bool} {w:W} (h:shp 8 w=true):fEq neg w w=.ok (.bl (!neg)):=by
 unfold fEq
 rw [h,eqW_self]
 cases neg <;> rfl
theorem eqI:∀ (a b:List Int),PyData.eqvAll (pds (a.map W.int)) (pds (b.map W.int))=decide (a=b)
 | [],[]=>by simp [pds,PyData.eqvAll]
 | [],_::_=>by simp [pds,PyData.eqvAll]
 | _::_,[]=>by simp [pds,PyData.eqvAll]
 | x::a,y::b=>by
  simp only [List.map_cons,pds,pd,PyData.eqvAll,PyData.eqv,eqI a b]
  by_cases h:x=y <;> by_cases h':a=b <;> simp [h,h']
theorem fEq_tI (neg:Bool) (a b:List Int):fEq neg (tI a) (tI b)=.ok (.bl (if neg then !decide (a=b) else decide (a=b))):=by
 unfold fEq
 rw [shp_tI,shp_tI]
 have:eqW (tI a) (tI b)=decide (a=b):=eqI a b
 rw [this]; rfl
theorem fEq_lI (neg:Bool) (a b:List Int):fEq neg (lI a) (lI b)=.ok (.bl (if neg then !decide (a=b) else decide (a=b))):=by
 unfold fEq
 rw [shp_lI,shp_lI]
 have:eqW (lI a) (lI b)=decide (a=b):=eqI a b
 rw [this]; rfl
theorem eqSS:∀ (a b:List (List Int)),PyData.eqvAll (pds (a.map tI)) (pds (b.map tI))=decide (a=b)
 | [],[]=>by simp [pds,PyData.eqvAll]
 | [],_::_=>by simp [pds,PyData.eqvAll]
 | _::_,[]=>by simp [pds,PyData.eqvAll]
 | x::a,y::b=>by
  simp only [List.map_cons,pds,pd,PyData.eqvAll,PyData.eqv,eqSS a b,eqI]
  by_cases h:x=y <;> by_cases h':a=b <;> simp [h,h']
theorem fEq_lS (neg:Bool) (a b:List (List Int)):fEq neg (.lst (a.map tI)) (.lst (b.map tI))=.ok (.bl (if neg then !decide (a=b) else decide (a=b))):=by
 unfold fEq
 rw [shp_lS,shp_lS]
 have:eqW (.lst (a.map tI)) (.lst (b.map tI))=decide (a=b):=eqSS a b
 rw [this]; rfl
theorem fEq_ii (neg:Bool) (i j:Int):fEq neg (.int i) (.int j)=.ok (.bl (if neg then !decide (i=j) else decide (i=j))):=by
 unfold fEq
 rw [shp_int,shp_int]
 have:eqW (.int i) (.int j)=decide (i=j):=by
  by_cases h:i=j <;> simp [eqW,pd,PyData.eqv,h]
 rw [this]; rfl
theorem fEq_bb (neg:Bool) (i j:Bool):fEq neg (.bl i) (.bl j)=.ok (.bl (if neg then !decide (i=j) else decide (i=j))):=by
 unfold fEq
 rw [shp_bl,shp_bl]
 have:eqW (.bl i) (.bl j)=decide (i=j):=by cases i <;> cases j <;> rfl
 rw [this]; rfl
theorem fEq_ni (neg:Bool) (j:Int):fEq neg .non (.int j)=.ok (.bl neg):=by cases neg <;> rfl
theorem fEq_in (neg:Bool) (j:Int):fEq neg (.int j) .non=.ok (.bl neg):=by cases neg <;> rfl
theorem fEq_nn (neg:Bool):fEq neg .non .non=.ok (.bl (!neg)):=by cases neg <;> rfl
theorem fBools_m (g:List Bool→Bool) (bs:List Bool):fBools g [.lst (bs.map W.bl)]=.ok (.bl (g bs)):=by
 show (toR (blsW (bs.map W.bl))>>=_)=_
 rw [bls_map]; rfl
theorem fInts_m (g:List Int→Int) (ns:List Int):fInts g [.lst (ns.map W.int)]=.ok (.int (g ns)):=by
 show (toR (intsW (ns.map W.int))>>=_)=_
 rw [ints_map]; rfl
theorem fInt_i (i:Int):fInt [.int i]=.ok (.int i):=rfl
theorem fInt_b (b:Bool):fInt [.bl b]=.ok (.int (if b then 1 else 0)):=rfl
theorem fAbs_i (i:Int):fAbs [.int i]=.ok (.int (if i<0 then -i else i)):=rfl
def extS (o:Option Sl) (r:R W) (c:Bool) (i:Nat) (ρ:Rho):R Fl:=match o with
 | some (.own ws)=>r>>=fun w=>(match w with
  | .lst us=>if ws.length+us.length≤1000 then (if c||noLs us then .ok (.nx (ρ.set i (.own (ws++us)))) else .stuck) else .stuck
  | _=>.stuck)
 | _=>.stuck
theorem mExt_ap (i:Nat) (c:Bool) (m:Rho→R W) (ρ:Rho):mExt i c m ρ=extS (ρ[i]?) (m ρ) c i ρ:=rfl
theorem extS_c {ws us:List W} {c:Bool} {i:Nat} {ρ:Rho} (h:ws.length+us.length≤1000):extS (some (.own ws)) (.ok (.lst us)) c i ρ=if c||noLs us then .ok (.nx (ρ.set i (.own (ws++us)))) else .stuck:=by
 show (if ws.length+us.length≤1000 then _ else _)=_
 rw [if_pos h]
def revS (o:Option Sl) (i:Nat) (ρ:Rho):R Fl:=match o with
 | some (.own ws)=>.ok (.nx (ρ.set i (.own ws.reverse)))
 | _=>.stuck
theorem mRev_ap (i:Nat) (ρ:Rho):mRev i ρ=revS (ρ[i]?) i ρ:=rfl
theorem revS_ok (ws:List W) (i:Nat) (ρ:Rho):revS (some (.own ws)) i ρ=.ok (.nx (ρ.set i (.own ws.reverse))):=rfl
theorem po_cut {r:R Fl} {n:Rho→R Fl} {Jn:Rho→Prop} {Jr:W→Prop} (J:Rho→Prop) (h1:Po r J Jr) (h2:∀ ρ,J ρ→Po (n ρ) Jn Jr):Po (andThen r n) Jn Jr:=po_seq (h1.mono h2 fun _ h=>h)
theorem gAdd_ap (i j:Int):gAdd i j=.int (i+j):=rfl
theorem gSub_ap (i j:Int):TP.gSub i j=.int (i-j):=rfl
theorem gLt_ap (i j:Int):gLt i j=.bl (decide (i<j)):=rfl
theorem gLe_ap (i j:Int):gLe i j=.bl (decide (i≤j)):=rfl
theorem gGt_ap (i j:Int):gGt i j=.bl (decide (j<i)):=rfl
theorem gGe_ap (i j:Int):gGe i j=.bl (decide (j≤i)):=rfl
theorem gNeg_ap (i:Int):gNeg i=.int (-i):=rfl
theorem gAdd__ap (i j:Int):gAdd_ i j=i+j:=rfl
theorem gSub__ap (i j:Int):gSub_ i j=i-j:=rfl
theorem fStr_i {i:Int} (h:0≤i∧i<1000):fStr [.int i]=.ok (.str (toString i)):=by
 show (if i.natAbs.log2<1920 then _ else _)=_
 rw [if_pos]
 refine Nat.lt_of_le_of_lt (Nat.log2_le_self _) ?_
 omega
theorem fIsB_w (neg:Bool) (u:W) (b:Bool):fIsB neg u (.bl b)=.ok (.bl (if neg then !isBW u b else isBW u b)):=rfl
theorem isBW_i (i:Int) (b:Bool):isBW (.int i) b=false:=rfl
theorem isBW_n (b:Bool):isBW .non b=false:=rfl
theorem isBW_s (x:Str) (b:Bool):isBW (.str x) b=false:=rfl
theorem isBW_t (x:List W) (b:Bool):isBW (.tup x) b=false:=rfl
theorem isBW_l (x:List W) (b:Bool):isBW (.lst x) b=false:=rfl
theorem isBW_b (a b:Bool):isBW (.bl a) b=(a == b):=rfl
def Rcu (c:Bool) (r:R (List W)) (f:List W→R W) (i:Nat) (ρ:Rho):R Fl:=if c then (r>>=fun ws=>f ws>>=fun w=>.ok (.nx (ρ.set i (.par w)))) else .stuck
theorem sCU_ap (i:Nat) (f:List W→R W) (ma:Rho→R (List W)) (ρ:Rho):sCU i f ma ρ=Rcu (noOwn ρ) (ma ρ) f i ρ:=rfl
def Rcu2 (r:R W) (i:Nat) (ρ:Rho):R Fl:=r>>=fun w=>.ok (.nx (ρ.set i (.par w)))
theorem Rcu_t (ws:List W) (f:List W→R W) (i:Nat) (ρ:Rho):Rcu true (.ok ws) f i ρ=Rcu2 (f ws) i ρ:=rfl
theorem Rcu2_ok (w:W) (i:Nat) (ρ:Rho):Rcu2 (.ok w) i ρ=.ok (.nx (ρ.set i (.par w))):=rfl
theorem noOwn_nil:noOwn []=true:=rfl
theorem noOwn_v (w:W) (ρ:Rho):noOwn (.val w::ρ)=noOwn ρ:=rfl
theorem noOwn_p (w:W) (ρ:Rho):noOwn (.par w::ρ)=noOwn ρ:=rfl
theorem noOwn_u (ρ:Rho):noOwn (.un::ρ)=noOwn ρ:=rfl
theorem fBest_t {g:List Int→Int} {ns:List Int} (h:0<ns.length):fBest g [tI ns]=.ok (.int (g ns)):=by
 show (toR (intsW (ns.map W.int))>>=_)=_
 rw [ints_map]
 show (if 0<ns.length then _ else _)=_
 rw [if_pos h]
theorem fBest_l {g:List Int→Int} {ns:List Int} (h:0<ns.length):fBest g [lI ns]=.ok (.int (g ns)):=by
 show (toR (intsW (ns.map W.int))>>=_)=_
 rw [ints_map]
 show (if 0<ns.length then _ else _)=_
 rw [if_pos h]
theorem revW_l (ws:List W):revW [.lst ws]=.ok ws.reverse:=rfl
def rp0:=And.intro (@gMax_max) (And.intro (@gMin_min) (And.intro (@po_nx) (And.intro (@po_rt) (And.intro (@mul_L) (And.intro (@mul_R) (And.intro (@mod_ii) (And.intro (@div_ii) (And.intro (@pow_ii) (And.intro (@appS_c) (And.intro (@mkTup_c) (And.intro (@mkLst_c) (And.intro (@fCat_c) (And.intro (@fRep_1) (And.intro (@atW_c) (And.intro (@ixN_c) (And.intro (@rngW_c) (And.intro (@cutW_I) (And.intro (@setW_I) (And.intro (@appW_I) (And.intro (@repW_I) (And.intro (@mSeq_ap) (And.intro (@andThen_nx) (And.intro (@andThen_rt) (@andThen_bk))))))))))))))))))))))))
def rp1:=And.intro (@andThen_ct) (And.intro (@mC_ap) (And.intro (@b1_ap) (And.intro (@b2_ap) (And.intro (@R2b_ok) (And.intro (@bA_ap) (And.intro (@bI_ap) (And.intro (@bS_ap) (And.intro (@aN_ap) (And.intro (@aC_ap) (And.intro (@Rcons_ok) (And.intro (@bChk_ap) (And.intro (@bTest_ap) (And.intro (@tAnd_ap) (And.intro (@tOr_ap) (And.intro (@tNot_ap) (And.intro (@rAnd_ok) (And.intro (@rAnd_ff) (And.intro (@rAnd_tt) (And.intro (@rOr_ok) (And.intro (@rOr_tt) (And.intro (@rOr_ff) (And.intro (@rNot_ok) (And.intro (@vAnd_ap) (@vOr_ap))))))))))))))))))))))))
def rp2:=And.intro (@vNot_ap) (And.intro (@rAndV_ok) (And.intro (@rAndV_ff) (And.intro (@rAndV_tt) (And.intro (@rOrV_ok) (And.intro (@rOrV_tt) (And.intro (@rOrV_ff) (And.intro (@rNotV_ok) (And.intro (@vIf_ap) (And.intro (@rIfW_tt) (And.intro (@rIfW_ff) (And.intro (@rIfW_ok) (And.intro (@vChain_ap) (And.intro (@Rchain_ii) (And.intro (@vTup_ap) (And.intro (@vLst_ap) (And.intro (@pN_ap) (And.intro (@pS_ap) (And.intro (@partW_int) (And.intro (@vSl_ap) (And.intro (@Rsl_lst) (And.intro (@Rsl_scr) (And.intro (@vComp_ap) (And.intro (@Rcomp_ok) (@sNx_ap))))))))))))))))))))))))
def rp3:=And.intro (@sBk_ap) (And.intro (@sCt_ap) (And.intro (@sDrop_ap) (And.intro (@Rdrop_ok) (And.intro (@sRet_ap) (And.intro (@retK_ap) (And.intro (@sRetN_ap) (And.intro (@sV_ap) (And.intro (@sU_ap) (And.intro (@sF_ap) (And.intro (@Rset_ok) (And.intro (@slotF_lst) (And.intro (@slotF_tup) (And.intro (@slotF_int) (And.intro (@slotF_bl) (And.intro (@slotF_non) (And.intro (@slotF_str) (And.intro (@sG_ap) (And.intro (@Rasg_ok) (And.intro (@toNx_some) (And.intro (@sFor_ap) (And.intro (@Rfor_ok) (And.intro (@sFrz_ap) (And.intro (@frz_ap) (@frzS_own))))))))))))))))))))))))
def rp4:=And.intro (@frzS_val) (And.intro (@frzS_par) (And.intro (@frzS_un) (And.intro (@mVar_ap) (And.intro (@rdS_vF) (And.intro (@rdS_vV) (And.intro (@rdS_vU) (And.intro (@rdS_vC) (And.intro (@rdS_vB) (And.intro (@rdS_pF) (And.intro (@rdS_pV) (And.intro (@rdS_pU) (And.intro (@rdS_pC) (And.intro (@rdS_pB) (And.intro (@rdS_oC) (And.intro (@rdS_oB) (And.intro (@mRetVar_ap) (And.intro (@retS_own) (And.intro (@retS_val) (And.intro (@retS_par) (And.intro (@mApp_ap) (And.intro (@mSet_ap) (And.intro (@setS_ok) (And.intro (@setJ_some) (@mAug_ap))))))))))))))))))))))))
def rp5:=And.intro (@augS_ok) (And.intro (@mIf_ap) (And.intro (@ifS_tt) (And.intro (@ifS_ff) ((((((And.intro (@endB_rt) (And.intro (@endB_nx) (And.intro (@fI0_ii) (And.intro (@fU_i) (And.intro (@fIx_l) (And.intro (@fIx_t) (And.intro (@fIx_s) (And.intro (@toR_some) (And.intro (@toB_bl) (And.intro (@fLen_l) (And.intro (@fLen_t) (And.intro (@fLen_s) (And.intro (@fList_l) (And.intro (@fList_t) (And.intro (@fTup_l) (@fTup_t))))))))))))))))))))))))
def rp6:=And.intro (@chks_t) (And.intro (@chkT_t) (And.intro (@chks_I) (And.intro (@chkT_I) (And.intro (@chk_int) (And.intro (@chk_bl) (And.intro (@chk_str) (And.intro (@chk_non) (And.intro (@chk_tI) (And.intro (@f2_ii) (And.intro (@seqW_l) (And.intro (@seqW_t) (And.intro (@seqW_s) (And.intro (@rng1_i) (And.intro (@rng2_i) (And.intro (@gN_U) (And.intro (@gN_V) (And.intro (@gT_t) (And.intro (@gsCons_c) (And.intro (@gsNil_n) (And.intro (@fIsi_ap) (And.intro (@isi_nt) (And.intro (@isi_nl) (And.intro (@isi_lt) (@isi_tl))))))))))))))))))))))))
def rp7:=And.intro (@fIsN_n) (And.intro (@noLs_ints) (And.intro (@fEqS_ii) (And.intro (@fEqS_bb) (And.intro (@fEqS_ss) (And.intro (@fEqS_nn) (And.intro (@fEqS_ni) (@fEqS_in)))))))
def rp8:=And.intro (@oW_n) (And.intro (@oW_s) (And.intro (@chk_oW) (And.intro (@noLs_oW) (And.intro (@chks_O) (And.intro (@chkT_O) (And.intro (@isN_oW) (And.intro (@slotF_oW) (And.intro (@atO_c) (@appO)))))))))
def rp9:=And.intro (@noLs_S) (And.intro (@chks_S) (And.intro (@chkT_S) (And.intro (@atS_c) (And.intro (@appW_S) (And.intro (@cutW_S) (And.intro (@catW_S) (And.intro (@catW_I) (And.intro (@rngW_2) (And.intro (@fEq_tI) (And.intro (@fEq_lI) (And.intro (@fEq_lS) (And.intro (@fEq_ii) (And.intro (@fEq_bb) (And.intro (@fEq_ni) (And.intro (@fEq_in) (And.intro (@fEq_nn) ((And.intro (@fBools_m) (And.intro (@fInts_m) (And.intro (@fInt_i) (And.intro (@fInt_b) (And.intro (@fAbs_i) (And.intro (@mExt_ap) (And.intro (@extS_c) (And.intro (@mRev_ap) (@revS_ok))))))))))))))))))))))))))
def rp10:=And.intro (@gAdd_ap) (And.intro (@gSub_ap) (And.intro (@gLt_ap) (And.intro (@gLe_ap) (And.intro (@gGt_ap) (And.intro (@gGe_ap) (And.intro (@gNeg_ap) (And.intro (@gAdd__ap) (@gSub__ap))))))))
def rp11:=And.intro (@fStr_i) (And.intro (@fIsB_w) (And.intro (@isBW_i) (And.intro (@isBW_n) (And.intro (@isBW_s) (And.intro (@isBW_t) (And.intro (@isBW_l) (@isBW_b)))))))
def rp12:=And.intro (@sCU_ap) (And.intro (@Rcu_t) (And.intro (@Rcu2_ok) (And.intro (@noOwn_nil) (And.intro (@noOwn_v) (And.intro (@noOwn_p) (@noOwn_u))))))
def rp13:=And.intro (@fBest_t) (And.intro (@fBest_l) (@revW_l))
end TP
set_option Elab.async false
set_option linter.all false
set_option maxRecDepth 100000
set_option maxHeartbeats 4000000
open PySem L2 TP
namespace K27
noncomputable def m_covers:Rho→R Fl:=
 (mSeq (sFor (bI zipR (aC (mVar .U 0) (aC (mVar .U 1) aN))) (gT 2 (gsCons (gN .U 2) (gsCons (gN .U 3) gsNil)))
   (mIf (bTest (b2 (fI0 gLt) (mVar .B 2) (mVar .B 3))) (sRet (mC (.bl false))) sNx))
  (sRet (mC (.bl true))))
noncomputable abbrev f_covers:List W→R W:=runB 2 4 m_covers
noncomputable def m_able:Rho→R Fl:=
 (sRet (bA f_covers (aC (mVar .B 0) (aC (b2 fIx (mVar .B 1) (mC (.int 0))) aN))))
noncomputable abbrev f_able:List W→R W:=runB 2 2 m_able
noncomputable def m_change:Rho→R Fl:=
 (sRet (bA (fTup true) (aC (vComp 3 (bI zipR (aC (b2 fIx (mVar .B 0) (mC (.int 0))) (aC (b2 fIx (mVar .B 0) (mC (.int 1))) aN))) (gT 2 (gsCons (gN .U 1) (gsCons (gN .U 2) gsNil))) yes (b2 (fI0 gSub) (mVar .B 2) (mVar .B 1))) aN)))
noncomputable abbrev f_change:List W→R W:=runB 1 1 m_change
noncomputable def m_after:Rho→R Fl:=
 (mSeq (mIf (tNot' (bTest (bA f_able (aC (mVar .B 0) (aC (mVar .B 1) aN))))) sNever sNx)
  (sRet (bA (fTup true) (aC (vComp 4 (bI zipR (aC (mVar .B 0) (aC (bA f_change (aC (mVar .B 1) aN)) aN))) (gT 2 (gsCons (gN .U 2) (gsCons (gN .U 3) gsNil))) yes (b2 (fI0 gAdd) (mVar .B 2) (mVar .B 3))) aN))))
noncomputable abbrev f_after:List W→R W:=runB 2 2 m_after
noncomputable def m_lifted:Rho→R Fl:=
 (mSeq (sFor (bS (mVar .U 1)) (gN .U 2)
   (mIf (bTest (bA f_covers (aC (mVar .B 0) (aC (mVar .B 2) aN)))) (sRet (mC (.bl true))) sNx))
  (sRet (mC (.bl false))))
noncomputable abbrev f_lifted:List W→R W:=runB 2 3 m_lifted
noncomputable def m_least:Rho→R Fl:=
 (mSeq (sF 1 (vLst aN))
  (mSeq (sFor (bS (bA fSort (aC (mVar .B 0) aN))) (gN .U 2)
   (mIf (tNot' (bTest (bA f_lifted (aC (mVar .B 2) (aC (mVar .B 1) aN))))) (mApp 1 (mVar .V 2)) sNx))
  (mRetVar .F 1)))
noncomputable abbrev f_least:List W→R W:=runB 1 3 m_least
noncomputable def m_source:Rho→R Fl:=
 (sRet (bA (fTup true) (aC (vComp 5 (bI zipR (aC (mVar .B 0) (aC (b2 fIx (mVar .B 1) (mC (.int 0))) (aC (b2 fIx (mVar .B 1) (mC (.int 1))) aN)))) (gT 3 (gsCons (gN .U 2) (gsCons (gN .U 3) (gsCons (gN .U 4) gsNil)))) yes (bA (f2 gMax) (aC (mVar .B 3) (aC (b2 (fI0 gAdd) (b2 (fI0 gSub) (mVar .B 2) (mVar .B 4)) (mVar .B 3)) aN)))) aN)))
noncomputable abbrev f_source:List W→R W:=runB 2 2 m_source
noncomputable def m_sources:Rho→R Fl:=
 (mSeq (sF 2 (vLst aN))
  (mSeq (sFor (bS (mVar .U 0)) (gN .U 3)
   (mExt 2 true (vComp 5 (bS (mVar .B 1)) (gN .U 4) yes (bA f_source (aC (mVar .B 4) (aC (mVar .B 3) aN))))))
  (mRetVar .F 2)))
noncomputable abbrev f_sources:List W→R W:=runB 2 4 m_sources
noncomputable def m_step_back:Rho→R Fl:=
 (sRet (bA f_least (aC (b2 (fCat true) (bA (fList false) (aC (mVar .B 1) aN)) (bA f_sources (aC (mVar .B 0) (aC (mVar .B 1) aN)))) aN)))
noncomputable abbrev f_step_back:List W→R W:=runB 2 2 m_step_back
noncomputable def m_is_shut:Rho→R Fl:=
 (sRet (bA (fBools gAll) (aC (vComp 3 (bS (bA f_sources (aC (mVar .B 0) (aC (mVar .B 1) aN)))) (gN .U 2) yes (bA f_lifted (aC (mVar .B 2) (aC (mVar .B 1) aN)))) aN)))
noncomputable abbrev f_is_shut:List W→R W:=runB 2 2 m_is_shut
noncomputable def m_ending:Rho→R Fl:=
 (mSeq (sV 4 (b2 fIx (mVar .C 1) (b1 (fU gNeg) (mC (.int 1)))))
  (mSeq (sV 5 (b2 (fI0 gSub) (bA fLen (aC (mVar .B 1) aN)) (mC (.int 1))))
  (mSeq (mIf (bTest (b2 (fI0 gGt) (bA fLen (aC (mVar .B 4) aN)) (mVar .B 2))) (sRet (vTup (aC (mC (.str "open")) (aC (mVar .V 5) aN)))) sNx)
  (mSeq (mIf (bTest (bA f_is_shut (aC (mVar .B 0) (aC (mVar .B 4) aN)))) (sRet (vTup (aC (mVar .V 3) (aC (mVar .V 4) aN)))) sNx)
  (mSeq (mIf (bTest (b2 (fEq false) (mVar .B 5) (mVar .B 2))) (sRet (vTup (aC (mC (.str "open")) (aC (mVar .V 5) aN)))) sNx)
  (sRet (mC .non)))))))
noncomputable abbrev f_ending:List W→R W:=runX 4 6 m_ending
noncomputable def m_enough:Rho→R Fl:=
 (mSeq (sF 3 (vLst (aC (vLst (aC (mVar .V 1) aN)) aN)))
  (mSeq (sCX 4 [3] f_ending (aC (mVar .V 0) (aC (mVar .V 3) (aC (mVar .V 2) (aC (mC (.str "basis")) aN)))))
  (mSeq (mWhile (bTest (b2 (fIsN false) (mVar .B 4) (mC .non))) (mSeq (mApp 3 (bA f_step_back (aC (mVar .B 0) (aC (b2 fIx (mVar .B 3) (b1 (fU gNeg) (mC (.int 1)))) aN))))
   (sCX 4 [3] f_ending (aC (mVar .V 0) (aC (mVar .V 3) (aC (mVar .V 2) (aC (mC (.str "basis")) aN)))))))
  (mRetVar .V 4))))
noncomputable abbrev f_enough:List W→R W:=runB 3 5 m_enough
noncomputable def m_moves_into:Rho→R Fl:=
 (sRet (vComp 5 (bI enuW (aC (mVar .B 1) aN)) (gT 2 (gsCons (gN .U 3) (gsCons (gN .U 4) gsNil))) (tAnd' (bTest (bA f_able (aC (mVar .B 0) (aC (mVar .B 4) aN)))) (bTest (bA f_lifted (aC (bA f_after (aC (mVar .B 0) (aC (mVar .B 4) aN))) (aC (mVar .B 2) aN))))) (mVar .V 3)))
noncomputable abbrev f_moves_into:List W→R W:=runB 3 3 m_moves_into
noncomputable def m_row_inward:Rho→R Fl:=
 (mSeq (sF 2 (vLst aN))
  (mSeq (sV 3 (b2 fIx (mVar .C 0) (mC (.int 0))))
  (mSeq (sFor (bI revW (aC (vSl true (mVar .C 1) pN (pS (b1 (fU gNeg) (mC (.int 1))))) aN)) (gN .U 4)
   (mSeq (sV 5 (b2 fIx (bA f_moves_into (aC (mVar .B 3) (aC (b2 fIx (mVar .B 0) (mC (.int 1))) (aC (mVar .B 4) aN)))) (mC (.int 0))))
   (mSeq (mApp 2 (mVar .V 5))
   (sF 3 (bA f_after (aC (mVar .B 3) (aC (b2 fIx (b2 fIx (mVar .B 0) (mC (.int 1))) (mVar .B 5)) aN)))))))
  (mRetVar .V 2))))
noncomputable abbrev f_row_inward:List W→R W:=runX 2 6 m_row_inward
noncomputable def m_cover:Rho→R Fl:=
 (mSeq (sF 3 (vLst (aC (vLst (aC (mVar .V 1) aN)) aN)))
  (mSeq (mWhile (tNot' (bTest (bA f_lifted (aC (b2 fIx (mVar .B 0) (mC (.int 0))) (aC (b2 fIx (mVar .B 3) (b1 (fU gNeg) (mC (.int 1)))) aN))))) (mSeq (sCX 4 [3] f_ending (aC (bChk (b2 fIx (mVar .B 0) (mC (.int 1)))) (aC (mVar .V 3) (aC (mVar .V 2) (aC (mC (.str "wall")) aN)))))
   (mSeq (mIf (bTest (b2 (fIsN true) (mVar .B 4) (mC .non))) (mRetVar .V 4) sNx)
   (mApp 3 (bA f_step_back (aC (b2 fIx (mVar .B 0) (mC (.int 1))) (aC (b2 fIx (mVar .B 3) (b1 (fU gNeg) (mC (.int 1)))) aN)))))))
  (sFrz 3 (sRet (vTup (aC (mC (.str "row")) (aC (bA f_row_inward (aC (mVar .V 0) (aC (mVar .V 3) aN))) aN)))))))
noncomputable abbrev f_cover:List W→R W:=runB 3 5 m_cover
noncomputable def m_is_never:Rho→R Fl:=
 (mSeq (mIf (bTest (b2 (fEqS false) (b2 fIx (mVar .B 0) (mC (.int 0))) (mC (.str "open")))) (sRet (mC .non)) sNx)
  (sRet (b2 (fEqS false) (b2 fIx (mVar .B 0) (mC (.int 0))) (mC (.str "wall")))))
noncomputable abbrev f_is_never:List W→R W:=runB 1 1 m_is_never
noncomputable def m_never:Rho→R Fl:=
 (sRet (vComp 3 (bS (b2 fIx (mVar .B 0) (mC (.int 1)))) (gN .U 2) yes (bA f_is_never (aC (bA f_cover (aC (mVar .B 0) (aC (b2 fIx (mVar .B 2) (mC (.int 0))) (aC (mVar .B 1) aN)))) aN))))
noncomputable abbrev f_never:List W→R W:=runB 2 2 m_never
noncomputable def m__law_cell_at:Rho→R Fl:=
 (mSeq (mIf (bTest (b2 (fI0 gLt) (mVar .B 1) (bA fLen (aC (mVar .B 0) aN)))) (sRet (bChk (b2 fIx (mVar .B 0) (mVar .B 1)))) sNx)
  (sRet (mC (.int 0))))
noncomputable abbrev f__law_cell_at:List W→R W:=runB 2 2 m__law_cell_at
noncomputable def m__law_stream:Rho→R Fl:=
 (mSeq (sF 3 (vLst aN))
  (mSeq (sV 4 (b2 (fI cMod gMod) (b2 (fI0 gAdd) (b2 (fI0 gAdd) (b2 (fI CMul gMul) (b2 (fI cMod gMod) (mVar .B 0) (mC (.int 2147483647))) (mC (.int 48271))) (b2 (fI CMul gMul) (b2 (fI CMul gMul) (mVar .B 1) (mVar .B 1)) (mC (.int 69621)))) (mC (.int 11))) (mC (.int 2147483647))))
  (mSeq (sFor (bI rng1 (aC (mVar .B 2) aN)) (gN .U 5)
   (mSeq (sV 4 (b2 (fI cMod gMod) (b2 (fI0 gAdd) (b2 (fI0 gAdd) (b2 (fI0 gAdd) (b2 (fI CMul gMul) (mVar .B 4) (mVar .B 4)) (b2 (fI CMul gMul) (mC (.int 48271)) (mVar .B 4))) (mVar .B 5)) (mVar .B 1)) (mC (.int 2147483647))))
   (mApp 3 (mVar .V 4))))
  (mRetVar .F 3))))
noncomputable abbrev f__law_stream:List W→R W:=runB 3 6 m__law_stream
noncomputable def m__law_count:Rho→R Fl:=
 (mSeq (mIf (bTest (b2 (fEqS false) (mVar .B 1) (mC (.int 0)))) (sRet (b2 (fI cMod gMod) (mVar .B 0) (mC (.int 3)))) sNx)
  (sRet (b2 (fI CMul gMul) (b2 (fI cMod gMod) (mVar .B 0) (mC (.int 2))) (b2 (fI0 gAdd) (b2 (fI CDiv gDiv) (b2 (fI cMod gMod) (b2 (fI CDiv gDiv) (mVar .B 0) (mC (.int 2))) (mC (.int 3))) (mC (.int 2))) (mC (.int 1))))))
noncomputable abbrev f__law_count:List W→R W:=runB 2 2 m__law_count
noncomputable def m__law_moves:Rho→R Fl:=
 (mSeq (sF 3 (vLst aN))
  (mSeq (sFor (bI rng1 (aC (b2 (fI0 gAdd) (mC (.int 1)) (b2 (fI cMod gMod) (bA f__law_cell_at (aC (mVar .B 0) (aC (mC (.int 1)) aN))) (mC (.int 4)))) aN)) (gN .U 4)
   (mSeq (sF 5 (bA f__law_stream (aC (bA f__law_cell_at (aC (mVar .B 0) (aC (b2 (fI0 gAdd) (mC (.int 5)) (mVar .B 4)) aN))) (aC (b2 (fI0 gAdd) (mC (.int 2)) (mVar .B 4)) (aC (mC (.int 8)) aN)))))
   (mSeq (sF 6 (vComp 10 (bS (vSl true (mVar .C 5) pN (pS (mVar .B 1)))) (gN .U 9) yes (bA f__law_count (aC (mVar .B 9) (aC (mVar .B 2) aN)))))
   (mSeq (sF 7 (vComp 10 (bS (vSl true (mVar .C 5) (pS (mC (.int 4))) (pS (b2 (fI0 gAdd) (mC (.int 4)) (mVar .B 1))))) (gN .U 9) yes (bA f__law_count (aC (mVar .B 9) (aC (mVar .B 2) aN)))))
   (mSeq (sV 8 (b2 (fI cMod gMod) (bA f__law_cell_at (aC (mVar .B 0) (aC (mC (.int 2)) aN))) (mVar .B 1)))
   (mSeq (mIf (bTest (b2 (fEqS false) (b2 (fI cMod gMod) (b2 (fI CDiv gDiv) (bA f__law_cell_at (aC (mVar .B 0) (aC (mC (.int 0)) aN))) (mC (.int 8))) (mC (.int 2))) (mC (.int 1)))) (mSet 7 (mVar .B 8) (bA (f2 gMin) (aC (b2 fIx (mVar .B 7) (mVar .B 8)) (aC (b2 fIx (mVar .B 6) (mVar .B 8)) aN)))) sNx)
   (mApp 3 (vTup (aC (bA (fTup true) (aC (mVar .C 6) aN)) (aC (bA (fTup true) (aC (mVar .C 7) aN)) aN))))))))))
  (sRet (bA (fTup true) (aC (mVar .C 3) aN)))))
noncomputable abbrev f__law_moves:List W→R W:=runB 3 9 m__law_moves
noncomputable def m__law_order:Rho→R Fl:=
 (mSeq (sF 2 (bA fLrng (aC (mVar .B 1) aN)))
  (mSeq (sF 3 (vLst aN))
  (mSeq (sFor (bI rng1 (aC (mVar .B 1) aN)) (gN .U 4)
   (mSeq (mAppPop 3 2 (b2 (fI cMod gMod) (mVar .B 0) (bA fLen (aC (mVar .B 2) aN))))
   (sV 0 (b2 (fI CDiv gDiv) (mVar .B 0) (mC (.int 5))))))
  (mRetVar .F 3))))
noncomputable abbrev f__law_order:List W→R W:=runB 2 5 m__law_order
noncomputable def m__law_scaled:Rho→R Fl:=
 (sRet (bA (fTup true) (aC (vComp 3 (bS (mVar .B 0)) (gN .U 2) yes (b2 (fI CMul gMul) (mVar .B 2) (mVar .B 1))) aN)))
noncomputable abbrev f__law_scaled:List W→R W:=runB 2 2 m__law_scaled
noncomputable def m__law_put_so:Rho→R Fl:=
 (sRet (bA (fTup true) (aC (vComp 3 (bS (mVar .B 1)) (gN .U 2) yes (bChk (b2 fIx (mVar .B 0) (mVar .B 2)))) aN)))
noncomputable abbrev f__law_put_so:List W→R W:=runB 2 2 m__law_put_so
noncomputable def m__law_all_scaled:Rho→R Fl:=
 (sRet (bA (fTup true) (aC (vComp 3 (bS (mVar .B 0)) (gN .U 2) yes (vTup (aC (bA f__law_scaled (aC (b2 fIx (mVar .B 2) (mC (.int 0))) (aC (mVar .B 1) aN))) (aC (bA f__law_scaled (aC (b2 fIx (mVar .B 2) (mC (.int 1))) (aC (mVar .B 1) aN))) aN)))) aN)))
noncomputable abbrev f__law_all_scaled:List W→R W:=runB 2 2 m__law_all_scaled
noncomputable def m__law_all_put_so:Rho→R Fl:=
 (sRet (bA (fTup true) (aC (vComp 3 (bS (mVar .B 0)) (gN .U 2) yes (vTup (aC (bA f__law_put_so (aC (b2 fIx (mVar .B 2) (mC (.int 0))) (aC (mVar .B 1) aN))) (aC (bA f__law_put_so (aC (b2 fIx (mVar .B 2) (mC (.int 1))) (aC (mVar .B 1) aN))) aN)))) aN)))
noncomputable abbrev f__law_all_put_so:List W→R W:=runB 2 2 m__law_all_put_so
noncomputable def m__law_more_moves:Rho→R Fl:=
 (mSeq (sF 3 (bA (fList false) (aC (mVar .B 0) aN)))
  (mSeq (sF 4 (bA (fTup true) (aC (b2 (fRep true) (vLst (aC (mC (.int 0)) aN)) (mVar .C 1)) aN)))
  (mSeq (sFor (bI rng1 (aC (b2 (fI0 gAdd) (mC (.int 1)) (b2 (fI cMod gMod) (mVar .B 2) (mC (.int 4)))) aN)) (gN .U 5)
   (mIf (bTest (b2 (fEqS false) (b2 (fI cMod gMod) (b2 (fI CDiv gDiv) (b2 (fI CDiv gDiv) (mVar .B 2) (mC (.int 4))) (b2 (fI0 gAdd) (mVar .B 5) (mC (.int 1)))) (mC (.int 2))) (mC (.int 0)))) (mApp 3 (vTup (aC (mVar .V 4) (aC (mVar .V 4) aN)))) (mApp 3 (bChk (b2 fIx (mVar .B 0) (b2 (fI cMod gMod) (b2 (fI CDiv gDiv) (mVar .B 2) (mC (.int 8))) (bA fLen (aC (mVar .B 0) aN))))))))
  (sRet (bA (fTup true) (aC (mVar .C 3) aN))))))
noncomputable abbrev f__law_more_moves:List W→R W:=runB 3 6 m__law_more_moves
noncomputable def m__law_same:Rho→R Fl:=
 (mSeq (mIf (bTest (b2 (fEq true) (b2 fIx (mVar .B 0) (mC (.int 0))) (b2 fIx (mVar .B 1) (mC (.int 0))))) (sRet (mC (.bl false))) sNx)
  (mSeq (mIf (tOr' (bTest (b2 (fEqS false) (b2 fIx (mVar .B 0) (mC (.int 0))) (mC (.str "row")))) (bTest (b2 (fEqS false) (b2 fIx (mVar .B 0) (mC (.int 0))) (mC (.str "open"))))) (sRet (b2 (fEq false) (b2 fIx (mVar .B 0) (mC (.int 1))) (b2 fIx (mVar .B 1) (mC (.int 1))))) sNx)
  (mSeq (mIf (bTest (b2 (fEqS false) (mVar .B 2) (mC (.int 0)))) (sRet (b2 (fEq false) (vComp 5 (bS (b2 fIx (mVar .B 0) (mC (.int 1)))) (gN .U 4) yes (bA f__law_scaled (aC (mVar .B 4) (aC (mVar .B 3) aN)))) (b2 fIx (mVar .B 1) (mC (.int 1))))) sNx)
  (sRet (b2 (fEq false) (bA fSort (aC (vComp 5 (bS (b2 fIx (mVar .B 0) (mC (.int 1)))) (gN .U 4) yes (bA f__law_put_so (aC (mVar .B 4) (aC (mVar .B 3) aN)))) aN)) (b2 fIx (mVar .B 1) (mC (.int 1))))))))
noncomputable abbrev f__law_same:List W→R W:=runB 4 4 m__law_same
noncomputable def m_law:Rho→R Fl:=
 (mSeq (sV 1 (b2 (fI0 gAdd) (mC (.int 1)) (b2 (fI cMod gMod) (bA f__law_cell_at (aC (mVar .B 0) (aC (mC (.int 0)) aN))) (mC (.int 4)))))
  (mSeq (sV 2 (b2 (fI cMod gMod) (b2 (fI CDiv gDiv) (bA f__law_cell_at (aC (mVar .B 0) (aC (mC (.int 0)) aN))) (mC (.int 4))) (mC (.int 2))))
  (mSeq (sF 3 (bA f__law_moves (aC (mVar .B 0) (aC (mVar .B 1) (aC (mVar .B 2) aN)))))
  (mSeq (sF 4 (bA f__law_stream (aC (bA f__law_cell_at (aC (mVar .B 0) (aC (mC (.int 3)) aN))) (aC (mC (.int 20)) (aC (mC (.int 9)) aN)))))
  (mSeq (sF 5 (bA (fTup true) (aC (vComp 20 (bS (vSl true (mVar .C 4) pN (pS (mVar .B 1)))) (gN .U 19) yes (bA f__law_count (aC (mVar .B 19) (aC (mVar .B 2) aN)))) aN)))
  (mSeq (sF 6 (bA (fTup true) (aC (vComp 20 (bS (vSl true (mVar .C 4) (pS (mC (.int 4))) (pS (b2 (fI0 gAdd) (mC (.int 4)) (mVar .B 1))))) (gN .U 19) yes (b2 (fI0 gAdd) (bA f__law_count (aC (mVar .B 19) (aC (mVar .B 2) aN))) (b2 (fI cMod gMod) (b2 (fI CDiv gDiv) (mVar .B 19) (mC (.int 9))) (mC (.int 2))))) aN)))
  (mSeq (sV 7 (b2 (fI0 gAdd) (mC (.int 1)) (b2 (fI cMod gMod) (b2 fIx (mVar .B 4) (mC (.int 8))) (mC (.int 6)))))
  (mSeq (sV 8 (b2 (fI0 gAdd) (mC (.int 2)) (b2 (fI cMod gMod) (bA f__law_cell_at (aC (mVar .B 0) (aC (mC (.int 4)) aN))) (mC (.int 99999999)))))
  (mSeq (sF 9 (bA f__law_order (aC (bA f__law_cell_at (aC (mVar .B 0) (aC (mC (.int 4)) aN))) (aC (mVar .B 1) aN))))
  (mSeq (sFrz 3 (sF 10 (vLst (aC (bA f_cover (aC (vTup (aC (mVar .U 5) (aC (mVar .U 3) aN))) (aC (mVar .B 6) (aC (mVar .B 7) aN)))) (aC (bA f_enough (aC (mVar .B 3) (aC (mVar .B 6) (aC (mVar .B 7) aN)))) aN)))))
  (mSeq (sF 11 (bA f__law_all_scaled (aC (mVar .B 3) (aC (mVar .B 8) aN))))
  (mSeq (sF 12 (bA f__law_scaled (aC (mVar .B 6) (aC (mVar .B 8) aN))))
  (mSeq (sFrz 11 (sF 13 (vLst (aC (bA f_cover (aC (vTup (aC (bA f__law_scaled (aC (mVar .B 5) (aC (mVar .B 8) aN))) (aC (mVar .U 11) aN))) (aC (mVar .B 12) (aC (mVar .B 7) aN)))) (aC (bA f_enough (aC (mVar .B 11) (aC (mVar .B 12) (aC (mVar .B 7) aN)))) aN)))))
  (mSeq (sF 14 (bA f__law_all_put_so (aC (mVar .B 3) (aC (mVar .B 9) aN))))
  (mSeq (sF 12 (bA f__law_put_so (aC (mVar .B 6) (aC (mVar .B 9) aN))))
  (mSeq (sFrz 14 (sF 15 (vLst (aC (bA f_cover (aC (vTup (aC (bA f__law_put_so (aC (mVar .B 5) (aC (mVar .B 9) aN))) (aC (mVar .U 14) aN))) (aC (mVar .B 12) (aC (mVar .B 7) aN)))) (aC (bA f_enough (aC (mVar .B 14) (aC (mVar .B 12) (aC (mVar .B 7) aN)))) aN)))))
  (mSeq (sFor (bI rng1 (aC (mC (.int 2)) aN)) (gN .U 16)
   (mIf (tOr' (tNot' (bTest (bA f__law_same (aC (b2 fIx (mVar .B 10) (mVar .B 16)) (aC (b2 fIx (mVar .B 13) (mVar .B 16)) (aC (mC (.int 0)) (aC (mVar .B 8) aN))))))) (tNot' (bTest (bA f__law_same (aC (b2 fIx (mVar .B 10) (mVar .B 16)) (aC (b2 fIx (mVar .B 15) (mVar .B 16)) (aC (mC (.int 1)) (aC (mVar .B 9) aN)))))))) (sRet (mC (.bl false))) sNx))
  (mSeq (sF 17 (bA f__law_more_moves (aC (mVar .B 3) (aC (mVar .B 1) (aC (bA f__law_cell_at (aC (mVar .B 0) (aC (mC (.int 2)) aN))) aN)))))
  (mSeq (sFrz 17 (mIf (tOr' (bTest (b2 (fEq true) (bA f_cover (aC (vTup (aC (mVar .U 5) (aC (mVar .U 17) aN))) (aC (mVar .B 6) (aC (mVar .B 7) aN)))) (b2 fIx (mVar .B 10) (mC (.int 0))))) (bTest (b2 (fEq true) (bA f_enough (aC (mVar .B 17) (aC (mVar .B 6) (aC (mVar .B 7) aN)))) (b2 fIx (mVar .B 10) (mC (.int 1)))))) (sRet (mC (.bl false))) sNx))
  (mSeq (sFrz 3 (sF 18 (bA f_never (aC (vTup (aC (mVar .U 5) (aC (mVar .U 3) aN))) (aC (mVar .B 7) aN)))))
  (mSeq (sFrz 11 (mIf (bTest (b2 (fEq true) (bA f_never (aC (vTup (aC (bA f__law_scaled (aC (mVar .B 5) (aC (mVar .B 8) aN))) (aC (mVar .U 11) aN))) (aC (mVar .B 7) aN))) (mVar .B 18))) (sRet (mC (.bl false))) sNx))
  (sFrz 14 (sRet (b2 (fEq false) (bA f_never (aC (vTup (aC (bA f__law_put_so (aC (mVar .B 5) (aC (mVar .B 9) aN))) (aC (mVar .U 14) aN))) (aC (mVar .B 7) aN))) (mVar .B 18)))))))))))))))))))))))))
noncomputable abbrev f_law:List W→R W:=runB 1 19 m_law
end K27
set_option Elab.async false
set_option linter.all false
set_option maxRecDepth 100000
set_option maxHeartbeats 4000000
open PySem L2 TP
namespace K27
def rp14:=And.intro (@isi_bb) (And.intro (@isi_bi) (And.intro (@isi_ib) (And.intro (@isi_ii) (And.intro (@isi_tt) (And.intro (@isi_ll) (And.intro (@isi_ni) (And.intro (@isi_nb) (And.intro (@isi_si) (And.intro (@isi_sb) (And.intro (@isi_li) (And.intro (@isi_lb) (And.intro (@isi_ti) (@isi_tb)))))))))))))
def rp15:=And.intro (@Bool.not_true) (And.intro (@Bool.not_false) (And.intro (@Bool.true_or) (And.intro (@Bool.or_true) (And.intro (@Bool.false_or) (And.intro (@Bool.or_false) (And.intro (@Bool.true_and) (And.intro (@Bool.and_true) (And.intro (@Bool.false_and) (And.intro (@Bool.and_false) (And.intro (@Int.sub_zero) (And.intro (@Int.zero_add) (And.intro (@Int.toNat_natCast) (And.intro (@Bool.false_eq_true) (And.intro (@Bool.true_eq_false) (And.intro (@and_true) (And.intro (@true_and) (And.intro (@or_true) (And.intro (@true_or) (@and_self)))))))))))))))))))
def rp18:=And.intro (@List.length_cons.{0}) (And.intro (@List.length_nil.{0}) (And.intro (@List.length_map.{0,0}) (And.intro (@List.length_append.{0}) (And.intro (@List.length_set.{0}) (@List.length_range)))))
def rp16:=And.intro rp14 (And.intro rp15 (And.intro rp13 (And.intro rp12 (And.intro rp11 (And.intro rp10 (And.intro rp9 (And.intro rp8 (And.intro rp0 (And.intro rp1 (And.intro rp2 (And.intro rp3 (And.intro rp4 (And.intro rp5 (And.intro rp6 rp7))))))))))))))
def rp17:=And.intro (@List.map_cons.{0,0}) (And.intro (@List.map_nil.{0,0}) (And.intro (@List.replicate_succ.{0}) (And.intro (@List.replicate_zero.{0}) (And.intro (@List.cons_append.{0}) (And.intro (@List.nil_append.{0}) (And.intro (@List.append_nil.{0}) (And.intro (@List.set_cons_succ.{0}) (And.intro (@List.set_cons_zero.{0}) (And.intro (@R.ok_bind) (And.intro (@R.stuck_bind) (@R.ex_bind)))))))))))
def rp19:=And.intro (@beq_self_eq_true.{0}) (And.intro (@Option.isNone_none.{0}) (And.intro (@Option.isNone_some.{0}) (And.intro (@List.getElem?_cons_zero.{0}) (And.intro (@List.getElem?_cons_succ.{0}) (And.intro (@Option.bind_some.{0,0}) (And.intro (@if_true.{1}) (And.intro (@if_false.{1}) (And.intro (@decide_true) (@decide_false)))))))))
def rpB:=And.intro (@runB_1) (And.intro (@runB_2) (And.intro (@runB_3) (And.intro (@runB_4) (@runB_5))))
local macro_rules | `(tactic| exists $[$es],*)=>`(tactic| simp (disch:=first | omega | with_reducible assumption | (simp only [rp18]; omega)) only [rp19,rp16,rp17,rp18,decide_eq_true_eq,tyW,isN,Nat.reduceSub,Nat.reduceAdd,Nat.reduceEqDiff,Nat.reduceLeDiff,Nat.reduceLT,reduceIte,reduceCtorEq,Int.reduceLT,Int.reduceLE,Int.reduceEq,Int.reduceAdd,Int.reduceSub,Int.reduceMul,Int.reduceNeg,Int.reduceToNat,Int.reduceMod,Int.reducePow,Int.reduceDiv,Nat.reducePow,$[$es:term],*])
theorem stream_ok {c sa n:Int} (hs0:0≤sa) (hs1:sa≤1000) (hn0:0≤n) (hn1:n≤1000):Ok (f__law_stream [.int c,.int sa,.int n]) fun w=>∃ ns:List Int,w=lI ns∧ns.length=n.toNat∧∀ x∈ns,0≤x∧x<2147483647:=by
 exists rpB,m__law_stream
 refine ok_end (po_fors (fun i ρ=>∃ (ns:List Int) (z:Int) (v:Sl),ρ = [.par (.int c),.par (.int sa),.par (.int n),.own (ns.map W.int),.val (.int z),v]∧(0≤z∧z<2147483647)∧ns.length=i∧∀ x∈ns,0≤x∧x<2147483647)
  ⟨[],_,_,rfl,by omega,rfl,by simp⟩ ?_ ?_)
 ·rintro i w ρ hw ⟨ns,z,v,rfl,hz,hl,hns⟩
  obtain ⟨hi,rfl⟩:=rng_at hw
  refine ⟨_,rfl,?_⟩
  exists rp18
  refine ⟨ns ++ [_],_,_,rfl,by omega,by simp [hl],fun x hx=>?_⟩
  rcases List.mem_append.mp hx with h | h
  ·exact hns x h
  ·have:=List.mem_singleton.mp h; subst this; omega
 ·rintro ρ ⟨ns,z,v,rfl,hz,hl,hns⟩
  exists rp18
  exact ⟨ns,rfl,by simpa using hl,hns⟩
theorem memD {ns:List Int} {P:Int→Prop} (h:∀ x∈ns,P x) {i:Nat} (hi:i<ns.length):P (ns.getD i 0):=mem_getD h hi
def covB (a b:List Int):Bool:=(List.range a.length).all fun k=>decide (b.getD k 0≤a.getD k 0)
theorem cov_f {a b:List Int} {i:Nat} (hi:i<a.length) (h:a.getD i 0<b.getD i 0):covB a b=false:=by
 unfold covB
 rw [List.all_eq_false]
 exact ⟨i,by simpa using hi,fun h'=>by have:=of_decide_eq_true h'; omega⟩
theorem cov_t {a b:List Int} (h:∀ k,k<a.length→b.getD k 0≤a.getD k 0):covB a b=true:=by
 unfold covB
 rw [List.all_eq_true]
 exact fun k hk=>decide_eq_true (h k (by simpa using hk))
theorem covers_ok {a b:List Int} (hl:b.length=a.length):f_covers [tI a,tI b]=.ok (.bl (covB a b)):=by
 have fin:Ok (f_covers [tI a,tI b]) fun v=>v=.bl (covB a b):=by
  have hz:=zipR_2 (tI a) (tI b) _ _ rfl rfl
  rw [zipW_I2 hl] at hz
  exists rpB,m_covers,hz
  refine ok_end (po_fors (fun i ρ=>∃ u v,ρ = [.par (tI a),.par (tI b),u,v]∧∀ k,k<i→b.getD k 0≤a.getD k 0) ⟨_,_,rfl,fun k hk=>absurd hk (Nat.not_lt_zero _)⟩ ?_ ?_)
  ·rintro i u ρ hu ⟨_,_,rfl,hall⟩
   obtain ⟨hi,rfl⟩:=range_at hu
   refine ⟨_,rfl,?_⟩
   exists rp18
   refine po_if (fun h=>?_) (fun h=>?_)
   ·exists rp18
    rw [cov_f hi (by simpa using h)]
   ·exists rp18
    refine ⟨_,_,rfl,fun k hk=>?_⟩
    by_cases e:k=i
    ·subst e; simpa using h
    ·exact hall k (by omega)
  ·rintro ρ ⟨_,_,rfl,hall⟩
   rw [List.length_map,List.length_range] at hall
   exists rp18
   rw [cov_t hall]
 obtain ⟨v,e,rfl⟩:=fin
 exact e
def lifB (s:List Int) (ss:List (List Int)):Bool:=ss.any (covB s)
theorem memS {ss:List (List Int)} {i:Nat} (h:i<ss.length):ss.getD i []∈ss:=by
 rw [List.getD_eq_getElem?_getD]; simp [h]
theorem map_atS {ss:List (List Int)} {i:Nat} {w:W} (h:(ss.map tI)[i]?=some w):i<ss.length∧w=tI (ss.getD i []):=by
 rw [List.getElem?_map] at h
 cases q:ss[i]? with
 | none=>rw [q] at h; cases h
 | some k=>
  rw [q] at h
  cases h
  exact ⟨(List.getElem?_eq_some_iff.mp q).1,by rw [List.getD_eq_getElem?_getD,q]; rfl⟩
theorem lif_t {s:List Int} {ss:List (List Int)} {i:Nat} (hi:i<ss.length) (h:covB s (ss.getD i [])=true):lifB s ss=true:=by
 unfold lifB
 rw [List.any_eq_true]
 exact ⟨_,memS hi,h⟩
theorem lif_f {s:List Int} {ss:List (List Int)} (h:∀ k,k<ss.length→covB s (ss.getD k [])=false):lifB s ss=false:=by
 unfold lifB
 rw [List.any_eq_false]
 intro x hx
 obtain ⟨i,hi,e⟩:=List.mem_iff_getElem.mp hx
 have:=h i hi
 rw [List.getD_eq_getElem?_getD] at this
 simp [hi,e] at this
 simp [this]
theorem lifted_ok {s:List Int} {ss:List (List Int)} (hl:∀ x∈ss,x.length=s.length):f_lifted [tI s,.lst (ss.map tI)]=.ok (.bl (lifB s ss)):=by
 have fin:Ok (f_lifted [tI s,.lst (ss.map tI)]) fun v=>v=.bl (lifB s ss):=by
  exists rpB,m_lifted
  refine ok_end (po_fors (fun i ρ=>∃ u,ρ = [.par (tI s),.par (.lst (ss.map tI)),u]∧∀ k,k<i→covB s (ss.getD k [])=false) ⟨_,rfl,fun k hk=>absurd hk (Nat.not_lt_zero _)⟩ ?_ ?_)
  ·rintro i u ρ hu ⟨_,rfl,hall⟩
   obtain ⟨hi,rfl⟩:=map_atS hu
   have hc:=covers_ok (a:=s) (b:=ss.getD i []) (hl _ (memS hi))
   refine ⟨_,rfl,?_⟩
   exists hc
   refine po_if (fun h=>?_) (fun h=>?_)
   ·exists rp18
    rw [lif_t hi h]
   ·exists rp18
    refine ⟨_,rfl,fun k hk=>?_⟩
    by_cases e:k=i
    ·subst e; exact h
    ·exact hall k (by omega)
  ·rintro ρ ⟨_,rfl,hall⟩
   rw [List.length_map] at hall
   exists rp18
   rw [lif_f hall]
 obtain ⟨v,e,rfl⟩:=fin
 exact e
def srcL (g t p:List Int):List Int:=(List.range g.length).map fun k=>max (t.getD k 0) (g.getD k 0-p.getD k 0+t.getD k 0)
theorem srcL_len (g t p:List Int):(srcL g t p).length=g.length:=by simp [srcL]
theorem srcL_at {g t p:List Int} {k:Nat} (h:k<g.length):(srcL g t p).getD k 0=max (t.getD k 0) (g.getD k 0-p.getD k 0+t.getD k 0):=vec_getD h
theorem source_ok {g t p:List Int} (ht:t.length=g.length) (hp:p.length=g.length) (hg:g.length≤6):f_source [tI g,.tup [tI t,tI p]]=.ok (tI (srcL g t p)):=by
 have a0:L2.atI [tI t,tI p] 0=some (tI t):=rfl
 have a1:L2.atI [tI t,tI p] 1=some (tI p):=rfl
 have hz:=zipR_3 (tI g) (tI t) (tI p) _ _ _ rfl rfl rfl
 rw [zipW_I3 ht hp] at hz
 exists rpB,m_source,a0,a1,hz
 have e:∀ N mg me ρ (h:∀ k,k<g.length→∃ ρ1,mg (.tup [.int (g.getD k 0),.int (t.getD k 0),.int (p.getD k 0)]) (ρ++List.replicate (N-ρ.length) Sl.un)=some ρ1∧me ρ1=.ok (.int (max (t.getD k 0) (g.getD k 0-p.getD k 0+t.getD k 0)))),mComp N mg yes me ((List.range g.length).map fun k=>.tup [.int (g.getD k 0),.int (t.getD k 0),.int (p.getD k 0)]) ρ=.ok (lI (srcL g t p)):=fun N mg me ρ h=>by
  rw [mComp_all (fun k=>.int (max (t.getD k 0) (g.getD k 0-p.getD k 0+t.getD k 0))) _ _ ρ (by simpa using (by omega:g.length≤1000)) (fun k hk=>h k (by simpa using hk)),mapI]
  rfl
 rw [e]
 ·exists rp18
 ·intro k hk
  refine ⟨_,rfl,?_⟩
  exists rp18
abbrev Mv:=List Int×List Int
abbrev mW (m:Mv):W:=.tup [tI m.1,tI m.2]
abbrev lS (ss:List (List Int)):W:=.lst (ss.map tI)
abbrev tM_ (ms:List Mv):W:=.tup (ms.map mW)
theorem noL_mW (m:Mv):noL (mW m)=true:=by simp [noL,noLs,noLs_ints]
theorem noLs_M (ms:List Mv):noLs (ms.map mW)=true:=noLs_map mW noL_mW ms
theorem map_atM {ms:List Mv} {i:Nat} {w:W} (h:(ms.map mW)[i]?=some w):∃ m,m∈ms∧ms[i]?=some m∧w=mW m:=by
 rw [List.getElem?_map] at h
 cases q:ms[i]? with
 | none=>rw [q] at h; cases h
 | some m=>rw [q] at h; cases h; exact ⟨m,List.mem_of_getElem? q,rfl,rfl⟩
def okM (n:Nat) (m:Mv):Prop:=m.1.length=n∧m.2.length=n
def srcs (ms:List Mv) (ss:List (List Int)):List (List Int):=ms.flatMap fun m=>ss.map fun s=>srcL s m.1 m.2
theorem srcs_len {ms:List Mv} {ss:List (List Int)}:(srcs ms ss).length=ms.length*ss.length:=by
 unfold srcs
 induction ms with
 | nil=>simp
 | cons m ms ih=>rw [List.flatMap_cons,List.length_append,ih,List.length_map,List.length_cons,Nat.succ_mul,Nat.add_comm]
theorem srcs_mem {n:Nat} {ms:List Mv} {ss:List (List Int)} (hs:∀ x∈ss,x.length=n):∀ x∈srcs ms ss,x.length=n:=fun x hx=>by
 unfold srcs at hx
 obtain ⟨m,_,hx⟩:=List.mem_flatMap.mp hx
 obtain ⟨s,hs',rfl⟩:=List.mem_map.mp hx
 rw [srcL_len]; exact hs s hs'
theorem sources_ok {n:Nat} {ms:List Mv} {ss:List (List Int)} (h6:n≤6) (hm:∀ m∈ms,okM n m) (hs:∀ x∈ss,x.length=n) (hml:ms.length≤8) (hsl:ss.length≤100):f_sources [tM_ ms,lS ss]=.ok (lS (srcs ms ss)):=by
 have fin:Ok (f_sources [tM_ ms,lS ss]) fun v=>v=lS (srcs ms ss):=by
  exists rpB,m_sources
  refine ok_end (po_fors (fun i ρ=>∃ (u:Sl),ρ = [.par (tM_ ms),.par (lS ss),.own ((srcs (ms.take i) ss).map tI),u]∧i≤ms.length) ⟨_,rfl,Nat.zero_le _⟩ ?_ ?_)
  ·rintro i w ρ hw ⟨u,rfl,hi⟩
   obtain ⟨m,hmm,hmi,rfl⟩:=map_atM hw
   have hi':i<ms.length:=(List.getElem?_eq_some_iff.mp hmi).1
   refine ⟨_,rfl,?_⟩
   have e:∀ N mg me ρ (h:∀ s∈ss,∃ ρ1,mg (tI s) (ρ++List.replicate (N-ρ.length) Sl.un)=some ρ1∧me ρ1=.ok (tI (srcL s m.1 m.2))),mComp N mg yes me (ss.map tI) ρ=.ok (lS (ss.map fun s=>srcL s m.1 m.2)):=fun N mg me ρ h=>by
    rw [mComp_all (fun s=>tI (srcL s m.1 m.2)) _ _ ρ (by omega) h]; exact congrArg (fun l=>R.ok (W.lst l)) (by rw [List.map_map]; rfl)
   exists rp18
   rw [e]
   ·have hl:(srcs (ms.take i) ss).length+ss.length≤1000:=by
     rw [srcs_len,List.length_take,Nat.min_eq_left (by omega)]
     have:=Nat.mul_le_mul (show i≤8 by omega) hsl
     omega
    exists rp18
    refine ⟨.par (mW m),?_,hi'⟩
    have:srcs (ms.take (i+1)) ss=srcs (ms.take i) ss++ss.map fun s=>srcL s m.1 m.2:=by
     unfold srcs
     rw [List.take_succ,hmi]
     simp
    rw [this]
   ·intro s hss
    have hk:=source_ok (g:=s) (t:=m.1) (p:=m.2) (by rw [hs s hss,(hm m hmm).1]) (by rw [hs s hss,(hm m hmm).2]) (by rw [hs s hss]; exact h6)
    refine ⟨_,rfl,?_⟩
    exists hk
  ·rintro ρ ⟨u,rfl,hi⟩
   rw [List.length_map,List.take_length]
   exists rp18
 obtain ⟨v,e,rfl⟩:=fin
 exact e
theorem cell_ok {ns:List Int} {k:Int} (h0:0≤k):Ok (f__law_cell_at [.scr (ns.map W.int),.int k]) fun w=>∃ z:Int,w=.int z:=by
 by_cases h:k<(ns.length:Int)
 ·exists rpB,m__law_cell_at,decide_eq_true h
  exact ⟨_,rfl,_,rfl⟩
 ·exists rpB,m__law_cell_at,decide_eq_false h
  exact ⟨_,rfl,_,rfl⟩
theorem cov_iff {a b:List Int}:covB a b=true↔∀ k,k<a.length→b.getD k 0≤a.getD k 0:=by
 unfold covB
 rw [List.all_eq_true]
 exact ⟨fun h k hk=>of_decide_eq_true (h k (by simpa using hk)),fun h k hk=>decide_eq_true (h k (by simpa using hk))⟩
theorem cov_lex:∀ {a b:List Int},a.length=b.length→covB a b=true→TP.lexLt a b=false
 | [],[],_,_=>rfl
 | [],_::_,h,_=>by simp at h
 | _::_,[],h,_=>by simp at h
 | x::a,y::b,h,hc=>by
  have hc:=cov_iff.mp hc
  have h0:=hc 0 (by simp)
  have h0:y≤x:=h0
  unfold TP.lexLt
  by_cases e:x=y
  ·rw [if_pos e]
   refine cov_lex (by simpa using h) (cov_iff.mpr fun k hk=>?_)
   have:=hc (k+1) (by simpa using hk)
   simpa using this
  ·rw [if_neg e]
   exact decide_eq_false (by omega)
def bst (acc:List (List Int)) (s:List Int):List (List Int):=if lifB s acc then acc else acc ++ [s]
def minB (ss:List (List Int)):List (List Int):=(sortL ss).foldl bst []
theorem bst_ok:∀ (l acc:List (List Int)),(acc.Pairwise fun a b=>covB b a=false) →
  (∃ t,t.Sublist l∧l.foldl bst acc=acc++t)∧((l.foldl bst acc).Pairwise fun a b=>covB b a=false)∧∀ z∈l,∃ s∈l.foldl bst acc,covB z s=true
 | [],acc,h2=>⟨⟨[],.slnil,by simp⟩,h2,fun _ h=>nomatch h⟩
 | z::l,acc,h2=>by
  rw [List.foldl_cons]
  cases c:lifB z acc with
  | true=>
   have e:bst acc z=acc:=by unfold bst; rw [if_pos c]
   rw [e]
   obtain ⟨⟨t,ht,et⟩,i3,i4⟩:=bst_ok l acc h2
   refine ⟨⟨t,ht.cons z,et⟩,i3,fun y hy=>?_⟩
   rcases List.mem_cons.mp hy with rfl | hy
   ·unfold lifB at c
    obtain ⟨s,hs,hw⟩:=List.any_eq_true.mp c
    exact ⟨s,by rw [et]; exact List.mem_append_left _ hs,hw⟩
   ·exact i4 y hy
  | false=>
   have e:bst acc z=acc ++ [z]:=by unfold bst; rw [if_neg (by rw [c]; exact Bool.false_ne_true)]
   rw [e]
   have hno:∀ s∈acc,covB z s=false:=fun s hs=>by
    unfold lifB at c
    rw [List.any_eq_false] at c
    simpa using c s hs
   obtain ⟨⟨t,ht,et⟩,i3,i4⟩:=bst_ok l (acc ++ [z]) (by
    rw [List.pairwise_append]
    refine ⟨h2,List.pairwise_singleton _ _,fun a ha b hb=>?_⟩
    rw [List.mem_singleton.mp hb]; exact hno a ha)
   refine ⟨⟨z::t,ht.cons₂ z,by rw [et]; simp⟩,i3,fun y hy=>?_⟩
   rcases List.mem_cons.mp hy with rfl | hy
   ·refine ⟨y,?_,cov_t fun k hk=>Int.le_refl _⟩
    rw [et]; simp
   ·exact i4 y hy
structure Bas (n:Nat) (B:List (List Int)):Prop where
 len:∀ b∈B,b.length=n
 up:B.Pairwise fun a b=>TP.lexLt b a=false
 a1:B.Pairwise fun a b=>covB b a=false
theorem cov_self (a:List Int):covB a a=true:=cov_t fun k hk=>Int.le_refl _
theorem Bas.a2 {n:Nat} {B:List (List Int)} (h:Bas n B):B.Pairwise fun a b=>covB a b=false:=by
 refine List.Pairwise.imp_of_mem (fun {a b} ha hb q=>?_) (h.up.and h.a1)
 cases c:covB a b with
 | false=>rfl
 | true=>
  exfalso
  have l1:=cov_lex (by rw [h.len a ha,h.len b hb]) c
  have e:=lex_tot _ _ l1 q.1
  rw [e,cov_self] at q
  exact absurd q.2 (by decide)
theorem Bas.lt {n:Nat} {B:List (List Int)} (h:Bas n B):B.Pairwise fun a b=>TP.lexLt a b=true:=by
 refine List.Pairwise.imp_of_mem (fun {a b} ha hb q=>?_) (h.up.and h.a1)
 cases c:TP.lexLt a b with
 | true=>rfl
 | false=>
  exfalso
  have e:=lex_tot _ _ c q.1
  rw [e,cov_self] at q
  exact absurd q.2 (by decide)
theorem min_bas {n:Nat} {ss:List (List Int)} (h:∀ s∈ss,s.length=n):Bas n (minB ss)∧(∀ b∈minB ss,b∈ss)∧(∀ s∈ss,∃ b∈minB ss,covB s b=true)∧(minB ss).length≤ss.length:=by
 have hp:=sort_perm ss
 obtain ⟨⟨t,ht,et⟩,i3,i4⟩:=bst_ok (sortL ss) [] .nil
 rw [List.nil_append] at et
 have hs:(minB ss).Sublist (sortL ss):=by unfold minB; rw [et]; exact ht
 refine ⟨⟨fun b hb=>h b (hp.mem_iff.mp (hs.subset hb)),(sort_up ss).sublist hs,i3⟩,fun b hb=>hp.mem_iff.mp (hs.subset hb),fun s q=>i4 s (hp.mem_iff.mpr q),?_⟩
 have:=hs.length_le
 rw [hp.length_eq] at this
 exact this
theorem fold_self:∀ (l acc:List (List Int)),((acc++l).Pairwise fun a b=>covB b a=false)→l.foldl bst acc=acc++l
 | [],acc,_=>by simp
 | z::l,acc,h=>by
  rw [List.foldl_cons]
  have hz:lifB z acc=false:=by
   unfold lifB
   rw [List.any_eq_false]
   intro s hs
   have:=(List.pairwise_append.mp h).2.2 s hs z List.mem_cons_self
   rw [this]; exact Bool.false_ne_true
  have e:bst acc z=acc ++ [z]:=by unfold bst; rw [if_neg (by rw [hz]; exact Bool.false_ne_true)]
  rw [e,fold_self l (acc ++ [z]) (by simpa using h)]
  simp
theorem min_perm {n:Nat} {B ss:List (List Int)} (h:Bas n B) (hp:ss.Perm B):minB ss=B:=by
 have e:sortL ss=B:=List.Perm.eq_of_pairwise (le:=fun a b=>TP.lexLt b a=false) (fun a b _ _ x y=>lex_tot _ _ y x) (sort_up ss) h.up ((sort_perm ss).trans hp)
 unfold minB
 rw [e,fold_self B [] (by simpa using h.a1)]
 rfl
theorem fSort_S {ss:List (List Int)} (h:ss.length<64) (hne:∀ z∈ss,z ≠ []):fSort [lS ss]=.ok (lS (sortL ss)):=by
 have hall:ss.all (fun x=>!x.isEmpty)=true:=by
  rw [List.all_eq_true]
  intro x hx
  have:=hne x hx
  cases x with
  | nil=>exact absurd rfl this
  | cons _ _=>rfl
 show (match tupsW (ss.map fun x=>W.tup (x.map W.int)) with | some ss=>_ | none=>_)=_
 rw [tups_map]
 show (if _ then _ else _)=_
 rw [if_pos ⟨h,hall⟩]
theorem take_bst {l:List (List Int)} {i:Nat} (hi:i<l.length):(l.take (i+1)).foldl bst []=bst ((l.take i).foldl bst []) (l.getD i []):=by
 rw [List.take_succ,List.foldl_append,List.getD_eq_getElem?_getD]
 simp [List.getElem?_eq_getElem hi]
theorem fold_subB {l:List (List Int)}:(l.foldl bst []).Sublist l:=by
 obtain ⟨⟨t,ht,et⟩,_⟩:=bst_ok l [] .nil
 rw [List.nil_append] at et
 rw [et]; exact ht
theorem least_ok {n:Nat} {ss:List (List Int)} (h1:1≤n) (h:∀ s∈ss,s.length=n) (h64:ss.length<64):f_least [lS ss]=.ok (lS (minB ss)):=by
 have fin:Ok (f_least [lS ss]) fun v=>v=lS (minB ss):=by
  have k0:=fSort_S h64 fun z hz e=>by have:=h z hz; rw [e] at this; simp at this; omega
  have hp:=sort_perm ss
  have hlen:=hp.length_eq
  have hSl:∀ s∈sortL ss,s.length=n:=fun s hs=>h s (hp.mem_iff.mp hs)
  exists rpB,m_least,k0
  unfold minB
  generalize sortL ss=S at hlen hSl
  refine ok_end (po_fors (fun i ρ=>∃ a:Sl,ρ = [.par (lS ss),.own (((S.take i).foldl bst []).map tI),a]) ⟨_,rfl⟩ ?_ ?_)
  ·rintro i u ρ hu ⟨a,rfl⟩
   obtain ⟨hi,rfl⟩:=map_atS hu
   have hmem:=memS hi
   have etk:=take_bst hi
   have hsub:((S.take i).foldl bst []).Sublist S:=fold_subB.trans (List.take_sublist _ _)
   generalize (S.take i).foldl bst []=F at etk hsub
   generalize S.getD i []=z at hmem etk
   have hFl:F.length≤63:=by have:=hsub.length_le; omega
   have k1:=lifted_ok (s:=z) (ss:=F) fun x hx=>by rw [hSl x (hsub.subset hx),hSl z hmem]
   refine ⟨_,rfl,?_⟩
   exists k1
   refine po_if (fun h=>?_) (fun h=>?_)
   ·exists chk_no (noL_tI z)
    refine ⟨.par (tI z),?_⟩
    rw [etk]
    unfold bst
    rw [if_neg (by simpa using h),List.map_append]
   ·exists rp18
    refine ⟨.par (tI z),?_⟩
    rw [etk]
    unfold bst
    rw [if_pos (by simpa using h)]
  ·rintro ρ ⟨a,rfl⟩
   rw [List.length_map,List.take_length]
   exists rp18
 obtain ⟨v,e,rfl⟩:=fin
 exact e
def behL (s:List Int) (m:Mv):List Int:=(List.range s.length).map fun k=>s.getD k 0-m.1.getD k 0+m.2.getD k 0
theorem behL_len (s:List Int) (m:Mv):(behL s m).length=s.length:=by simp [behL]
def stepB (ss:List (List Int)) (s:List Int) (m:Mv):Bool:=covB s m.1&&lifB (behL s m) ss
def leadB (ms:List Mv) (ss:List (List Int)) (s:List Int):Bool:=lifB s ss||ms.any (stepB ss s)
theorem lif_1 (s t:List Int):lifB s [t]=covB s t:=by unfold lifB; simp
theorem cov_trans {a b c:List Int} (h1:a.length=b.length) (x:covB a b=true) (y:covB b c=true):covB a c=true:=cov_iff.mpr fun k hk=>by
 have p:=cov_iff.mp x k hk
 have q:=cov_iff.mp y k (by omega)
 omega
theorem src_cov {n:Nat} {s z:List Int} {m:Mv} (hz:z.length=n) (hs:s.length=n):covB z (srcL s m.1 m.2)=true↔covB z m.1=true∧covB (behL z m) s=true:=by
 constructor
 ·intro h
  have h:=cov_iff.mp h
  refine ⟨cov_iff.mpr fun k hk=>?_,cov_iff.mpr fun k hk=>?_⟩
  ·have:=h k hk
   rw [srcL_at (by omega)] at this
   omega
  ·rw [behL_len] at hk
   have:=h k hk
   rw [srcL_at (by omega)] at this
   rw [show (behL z m).getD k 0=_ from vec_getD hk]
   omega
 ·rintro ⟨h,h'⟩
  have h:=cov_iff.mp h
  have h':=cov_iff.mp h'
  refine cov_iff.mpr fun k hk=>?_
  have p:=h k hk
  have q:=h' k (by rw [behL_len]; exact hk)
  rw [show (behL z m).getD k 0=_ from vec_getD hk] at q
  rw [srcL_at (by omega)]
  omega
section
variable {n:Nat} {ms:List Mv} {ss:List (List Int)} (hs:∀ x∈ss,x.length=n)
include hs
theorem D_len:∀ x∈ss++srcs ms ss,x.length=n:=fun x hx=>by
 rcases List.mem_append.mp hx with q | q
 ·exact hs x q
 ·exact srcs_mem hs x q
theorem lead_iff {z:List Int} (hz:z.length=n):leadB ms ss z=true↔∃ d∈ss++srcs ms ss,covB z d=true:=by
 unfold leadB
 rw [Bool.or_eq_true]
 constructor
 ·rintro (h | h)
  ·unfold lifB at h
   obtain ⟨s,h1,h2⟩:=List.any_eq_true.mp h
   exact ⟨s,List.mem_append_left _ h1,h2⟩
  ·obtain ⟨m,h1,h2⟩:=List.any_eq_true.mp h
   unfold stepB at h2
   rw [Bool.and_eq_true] at h2
   unfold lifB at h2
   obtain ⟨s,h3,h4⟩:=List.any_eq_true.mp h2.2
   refine ⟨srcL s m.1 m.2,List.mem_append_right _ ?_,(src_cov hz (hs s h3)).mpr ⟨h2.1,h4⟩⟩
   unfold srcs
   exact List.mem_flatMap.mpr ⟨m,h1,List.mem_map.mpr ⟨s,h3,rfl⟩⟩
 ·rintro ⟨d,hd,hc⟩
  rcases List.mem_append.mp hd with q | q
  ·exact .inl (List.any_eq_true.mpr ⟨d,q,hc⟩)
  ·unfold srcs at q
   obtain ⟨m,h1,q⟩:=List.mem_flatMap.mp q
   obtain ⟨s,h3,rfl⟩:=List.mem_map.mp q
   have:=(src_cov hz (hs s h3)).mp hc
   refine .inr (List.any_eq_true.mpr ⟨m,h1,?_⟩)
   unfold stepB
   rw [this.1,Bool.true_and]
   exact List.any_eq_true.mpr ⟨s,h3,this.2⟩
end
theorem step_ok {n:Nat} {ms:List Mv} {ss:List (List Int)} (h1:1≤n) (h6:n≤6) (hm:∀ m∈ms,okM n m) (hs:∀ x∈ss,x.length=n) (hml:ms.length≤8) (hsl:ss.length≤100) (h64:ss.length+ms.length*ss.length<64):f_step_back [tM_ ms,lS ss]=.ok (lS (minB (ss++srcs ms ss))):=by
 have k1:=sources_ok h6 hm hs hml hsl
 have k2:=least_ok (ss:=ss++srcs ms ss) h1 (D_len hs) (by rw [List.length_append,srcs_len]; exact h64)
 have k3:fCat true (.lst (ss.map tI)) (lS (srcs ms ss))=.ok (lS (ss++srcs ms ss)):=by
  rw [fCat_c (by simp [srcs_len]; omega),← List.map_append]; rfl
 exists rpB,m_step_back,k1,k3,k2
def shutB (ms:List Mv) (ss:List (List Int)):Bool:=(srcs ms ss).all fun s=>lifB s ss
theorem shut_ok {n:Nat} {ms:List Mv} {ss:List (List Int)} (h6:n≤6) (hm:∀ m∈ms,okM n m) (hs:∀ x∈ss,x.length=n) (hml:ms.length≤8) (hsl:ss.length≤100):f_is_shut [tM_ ms,lS ss]=.ok (.bl (shutB ms ss)):=by
 have k1:=sources_ok h6 hm hs hml hsl
 have e:∀ N mg me ρ (h:∀ s∈srcs ms ss,∃ ρ1,mg (tI s) (ρ++List.replicate (N-ρ.length) Sl.un)=some ρ1∧me ρ1=.ok (.bl (lifB s ss))),mComp N mg yes me ((srcs ms ss).map tI) ρ=.ok (.lst (((srcs ms ss).map fun s=>lifB s ss).map W.bl)):=fun N mg me ρ h=>by
  rw [mComp_all (fun s=>W.bl (lifB s ss)) _ _ ρ (by rw [srcs_len]; have:=Nat.mul_le_mul hml hsl; omega) h,List.map_map]; rfl
 exists rpB,m_is_shut,k1
 rw [e]
 ·exists rp18
  unfold gAll shutB
  rw [List.all_map]; rfl
 ·intro s hss
  have hk:=lifted_ok (s:=s) (ss:=ss) (fun x hx=>by rw [hs x hx,srcs_mem hs s hss])
  refine ⟨_,rfl,?_⟩
  exists hk
def Bk (ms:List Mv) (t:List Int):Nat→List (List Int)
 | 0=>[t]
 | k+1=>minB (Bk ms t k++srcs ms (Bk ms t k))
theorem Bk_bas {n:Nat} {ms:List Mv} {t:List Int} (ht:t.length=n):∀ k,Bas n (Bk ms t k)
 | 0=>⟨fun b hb=>by rw [List.mem_singleton.mp hb]; exact ht,List.pairwise_singleton _ _,List.pairwise_singleton _ _⟩
 | k+1=>(min_bas (D_len (ms:=ms) (Bk_bas ht k).len)).1
section
variable {n:Nat} {ms:List Mv} {t:List Int} (ht:t.length=n)
include ht
theorem lif_succ (k:Nat) {s:List Int} (hs:s.length=n):lifB s (Bk ms t (k+1))=(lifB s (Bk ms t k)||ms.any (stepB (Bk ms t k) s)):=by
 have hB:=Bk_bas (ms:=ms) ht k
 have hm:=min_bas (D_len (ms:=ms) hB.len)
 have e:lifB s (Bk ms t (k+1))=true↔leadB ms (Bk ms t k) s=true:=by
  rw [lead_iff hB.len hs]
  unfold lifB
  rw [List.any_eq_true]
  constructor
  ·rintro ⟨b,hb,hc⟩
   exact ⟨b,hm.2.1 b hb,hc⟩
  ·rintro ⟨d,hd,hc⟩
   obtain ⟨b,hb,hc'⟩:=hm.2.2.1 d hd
   exact ⟨b,hb,cov_trans (by rw [hs,D_len (ms:=ms) hB.len d hd]) hc hc'⟩
 exact Bool.eq_iff_iff.mpr e
theorem lif_mono (k:Nat) {s:List Int} (hs:s.length=n) (h:lifB s (Bk ms t k)=true):lifB s (Bk ms t (k+1))=true:=by
 rw [lif_succ ht k hs,h]; rfl
theorem lif_cov:∀ (k:Nat) {s:List Int},s.length=n→covB s t=true→lifB s (Bk ms t k)=true
 | 0,s,_,h=>by show lifB s [t]=true; rw [lif_1]; exact h
 | k+1,s,hs,h=>lif_mono ht k hs (lif_cov k hs h)
end
theorem able_ok {s:List Int} {m:Mv} (h:m.1.length=s.length):f_able [tI s,mW m]=.ok (.bl (covB s m.1)):=by
 have a0:L2.atI [tI m.1,tI m.2] 0=some (tI m.1):=rfl
 have k:=covers_ok (a:=s) (b:=m.1) h
 exists rpB,m_able,a0,k
theorem change_ok {n:Nat} {m:Mv} (h6:n≤6) (h:okM n m):f_change [mW m]=.ok (tI ((List.range n).map fun k=>m.2.getD k 0-m.1.getD k 0)):=by
 have a0:L2.atI [tI m.1,tI m.2] 0=some (tI m.1):=rfl
 have a1:L2.atI [tI m.1,tI m.2] 1=some (tI m.2):=rfl
 have hz:=zipR_2 (tI m.1) (tI m.2) _ _ rfl rfl
 rw [zipW_I2 (by rw [h.1,h.2]),h.1] at hz
 exists rpB,m_change,a0,a1,hz
 have e:∀ N mg me ρ (h:∀ k,k<n→∃ ρ1,mg (.tup [.int (m.1.getD k 0),.int (m.2.getD k 0)]) (ρ++List.replicate (N-ρ.length) Sl.un)=some ρ1∧me ρ1=.ok (.int (m.2.getD k 0-m.1.getD k 0))),mComp N mg yes me ((List.range n).map fun k=>W.tup [.int (m.1.getD k 0),.int (m.2.getD k 0)]) ρ=.ok (lI ((List.range n).map fun k=>m.2.getD k 0-m.1.getD k 0)):=fun N mg me ρ h=>by
  rw [mComp_all (fun k=>.int (m.2.getD k 0-m.1.getD k 0)) _ _ ρ (by simpa using (by omega:n≤1000)) (fun k hk=>h k (by simpa using hk)),mapI]
 rw [e]
 ·exists rp18
 ·intro k hk
  refine ⟨_,rfl,?_⟩
  exists rp18
theorem after_gen {n:Nat} {s:List Int} {m:Mv} (h6:n≤6) (h:okM n m) (hs:s.length=n) (hc:covB s m.1=true):f_after [tI s,mW m]=.ok (tI ((List.range n).map fun k=>s.getD k 0+(m.2.getD k 0-m.1.getD k 0))):=by
 have k1:=able_ok (s:=s) (m:=m) (by rw [hs,h.1])
 rw [hc] at k1
 have k2:=change_ok h6 h
 have hz:=zipR_2 (tI s) (tI ((List.range n).map fun k=>m.2.getD k 0-m.1.getD k 0)) _ _ rfl rfl
 rw [zipW_I2 (by simp [hs]),hs] at hz
 exists rpB,m_after,k1,k2,hz
 have e:∀ N mg me ρ (h:∀ k,k<n→∃ ρ1,mg (.tup [.int (s.getD k 0),.int (((List.range n).map fun k=>m.2.getD k 0-m.1.getD k 0).getD k 0)]) (ρ++List.replicate (N-ρ.length) Sl.un)=some ρ1∧me ρ1=.ok (.int (s.getD k 0+(m.2.getD k 0-m.1.getD k 0)))),mComp N mg yes me ((List.range n).map fun k=>W.tup [.int (s.getD k 0),.int (((List.range n).map fun k=>m.2.getD k 0-m.1.getD k 0).getD k 0)]) ρ=.ok (lI ((List.range n).map fun k=>s.getD k 0+(m.2.getD k 0-m.1.getD k 0))):=fun N mg me ρ h=>by
  rw [mComp_all (fun k=>.int (s.getD k 0+(m.2.getD k 0-m.1.getD k 0))) _ _ ρ (by simpa using (by omega:n≤1000)) (fun k hk=>h k (by simpa using hk)),mapI]
 rw [e]
 ·exists rp18
 ·intro k hk
  refine ⟨_,rfl,?_⟩
  exists rp18
  rw [vec_getD hk]
theorem cov_anti {a b:List Int} (h:a.length=b.length) (h1:covB a b=true) (h2:covB b a=true):a=b:=by
 apply List.ext_getElem h
 intro k ha hb
 have p:=cov_iff.mp h1 k ha
 have q:=cov_iff.mp h2 k hb
 have ea:a.getD k 0=a[k]:=by rw [List.getD_eq_getElem?_getD]; simp [ha]
 have eb:b.getD k 0=b[k]:=by rw [List.getD_eq_getElem?_getD]; simp [hb]
 rw [ea,eb] at p q
 omega
theorem Bas.one {n:Nat} {B:List (List Int)} (hB:Bas n B) {b b':List Int} (hb:b∈B) (hb':b'∈B) (h2:covB b b'=true):b=b':=by
 obtain ⟨i,hi,e1⟩:=List.mem_iff_getElem.mp hb
 obtain ⟨i',hi',e2⟩:=List.mem_iff_getElem.mp hb'
 rcases Nat.lt_trichotomy i i' with q | q | q
 ·have:=List.pairwise_iff_getElem.mp hB.a2 i i' hi hi' q
  rw [e1,e2,h2] at this; cases this
 ·subst q; rw [← e1,← e2]
 ·have:=List.pairwise_iff_getElem.mp hB.a1 i' i hi' hi q
  rw [e1,e2,h2] at this; cases this
theorem bas_sub {n:Nat} {A B:List (List Int)} (hA:Bas n A) (hB:Bas n B) (h1:∀ a∈A,∃ b∈B,covB a b=true) (h2:∀ b∈B,∃ a∈A,covB b a=true):∀ a∈A,a∈B:=fun a ha=>by
 obtain ⟨b,hb,c1⟩:=h1 a ha
 obtain ⟨a',ha',c2⟩:=h2 b hb
 have la:=hA.len a ha
 have lb:=hB.len b hb
 have e:=hA.one ha ha' (cov_trans (by omega) c1 c2)
 rw [← e] at c2
 rw [cov_anti (by omega) c1 c2]; exact hb
theorem bas_eq {n:Nat} {A B:List (List Int)} (hA:Bas n A) (hB:Bas n B) (h1:∀ a∈A,∃ b∈B,covB a b=true) (h2:∀ b∈B,∃ a∈A,covB b a=true):A=B:=by
 have s1:=bas_sub hA hB h1 h2
 have s2:=bas_sub hB hA h2 h1
 have nd:∀ {L:List (List Int)},Bas n L→L.Nodup:=fun h=>h.lt.imp fun q e=>by subst e; rw [TP.lex_irr] at q; cases q
 have hp:A.Perm B:=(List.perm_ext_iff_of_nodup (nd hA) (nd hB)).mpr fun x=>⟨s1 x,s2 x⟩
 exact List.Perm.eq_of_pairwise (le:=fun a b=>TP.lexLt a b=true) (fun a b _ _ x y=>by have:=TP.lex_tr _ _ _ x y; rw [TP.lex_irr] at this; cases this) hA.lt hB.lt hp
theorem runX_ap {n N:Nat} {m:Rho→R Fl} {ws:List W} (h:ws.length=n):runX n N m ws=endB (m (ws.map Sl.val++List.replicate (N-n) Sl.un)):=by unfold runX; rw [if_pos h]; rfl
theorem runX_2 {N:Nat} {m:Rho→R Fl} (a b:W):runX 2 N m [a,b]=endB (m (Sl.val a::Sl.val b::List.replicate (N-2) Sl.un)):=runX_ap rfl
theorem runX_4 {N:Nat} {m:Rho→R Fl} (a b c d:W):runX 4 N m [a,b,c,d]=endB (m (Sl.val a::Sl.val b::Sl.val c::Sl.val d::List.replicate (N-4) Sl.un)):=runX_ap rfl
def rgW (ms:List Mv) (t:List Int) (j:Nat):List W:=(List.range (j+1)).map fun i=>lS (Bk ms t i)
theorem rg_len (ms:List Mv) (t:List Int) (j:Nat):(rgW ms t j).length=j+1:=by simp [rgW]
theorem rg_suc (ms:List Mv) (t:List Int) (j:Nat):rgW ms t (j+1)=rgW ms t j ++ [lS (Bk ms t (j+1))]:=by
 unfold rgW
 rw [List.range_succ,List.map_append]; rfl
theorem rg_at (ms:List Mv) (t:List Int) (j:Nat):L2.atI (rgW ms t j) (-1)=some (lS (Bk ms t j)):=by
 unfold L2.atI
 have:L2.ixN (rgW ms t j).length (-1)=some j:=by
  unfold L2.ixN
  rw [rg_len]
  simp
  omega
 rw [this]
 show (rgW ms t j)[j]?=_
 unfold rgW
 simp
def endW (ms:List Mv) (t:List Int) (most:Nat) (word:String) (j:Nat):W:=if decide ((most:Int)<((Bk ms t j).length:Int))=true then .tup [.str "open",.int (j:Int)] else if shutB ms (Bk ms t j)=true then .tup [.str word,lS (Bk ms t j)] else if decide ((j:Int)=(most:Int))=true then .tup [.str "open",.int (j:Int)] else .non
theorem end_non {ms:List Mv} {t:List Int} {most:Nat} {word:String} {j:Nat}:endW ms t most word j=.non↔((Bk ms t j).length≤most∧shutB ms (Bk ms t j)=false∧j≠most):=by
 unfold endW
 constructor
 ·intro h
  split at h
  ·cases h
  ·rename_i h1
   split at h
   ·cases h
   ·rename_i h2
    split at h
    ·cases h
    ·rename_i h3
     simp at h1 h2 h3
     exact ⟨by omega,h2,by omega⟩
 ·rintro ⟨h1,h2,h3⟩
  rw [if_neg (by simp; omega),h2,if_neg Bool.false_ne_true,if_neg (by simp; omega)]
theorem ending_ok {n:Nat} {ms:List Mv} {t:List Int} {most j:Nat} {word:String} (h6:n≤6) (hm:∀ m∈ms,okM n m) (hml:ms.length≤8) (ht:t.length=n) (hmo:most≤6):f_ending [tM_ ms,.lst (rgW ms t j),.int (most:Int),.str word]=.ok (endW ms t most word j):=by
 have fin:Ok (f_ending [tM_ ms,.lst (rgW ms t j),.int (most:Int),.str word]) fun v=>v=endW ms t most word j:=by
  have a1:=rg_at ms t j
  have l1:=rg_len ms t j
  have hB:=Bk_bas (ms:=ms) ht j
  have hnum:(((j+1:Nat):Int))-1=(j:Int):=by omega
  have ee:fEq false (.int (j:Int)) (.int (most:Int))=.ok (.bl (decide ((j:Int)=(most:Int)))):=fEq_ii false _ _
  have n1:noLs ((Bk ms t j).map tI)=true:=noLs_S _
  exists runX_4,m_ending,a1,l1,hnum
  refine ok_end (po_ifs (fun h=>?_) (fun h=>?_))
  ·exists rp18
   unfold endW
   rw [if_pos h]
  have hle:(Bk ms t j).length≤most:=by have:=of_decide_eq_false h; omega
  have k1:=shut_ok h6 hm hB.len hml (by omega)
  exists k1
  refine po_ifs (fun h2=>?_) (fun h2=>?_)
  ·exists rp18
   unfold endW
   rw [if_neg (by rw [h]; exact Bool.false_ne_true),if_pos h2]
  exists ee
  refine po_ifs (fun h3=>?_) (fun h3=>?_)
  ·exists rp18
   unfold endW
   rw [if_neg (by rw [h]; exact Bool.false_ne_true),if_neg (by rw [h2]; exact Bool.false_ne_true),if_pos h3]
  ·exists rp18
   unfold endW
   rw [if_neg (by rw [h]; exact Bool.false_ne_true),if_neg (by rw [h2]; exact Bool.false_ne_true),if_neg (by rw [h3]; exact Bool.false_ne_true)]
 obtain ⟨v,e,rfl⟩:=fin
 exact e
theorem setX_4 {a b c x:Sl} {R:List W} {w:W}:setX 4 [3] w [a,b,c,.own R,x] = [a,b,c,if noL w=true then .own R else .val (.lst R),.val w]:=by
 unfold setX
 split <;> rfl
theorem room_j {n:Nat} {ms:List Mv} {t:List Int} {most j:Nat} {word:String} (hml:ms.length≤8) (hmo:most≤6) (h:endW ms t most word j=.non):(Bk ms t j).length≤100∧(Bk ms t j).length+ms.length*(Bk ms t j).length<64:=by
 have h:=(end_non.mp h).1
 have:=Nat.mul_le_mul hml (show (Bk ms t j).length≤6 by omega)
 omega
theorem cut_m1 (ws:List W) (w:W):cutW (ws ++ [w]) none (some (-1))=ws:=by
 unfold cutW
 rw [HT.sIx_none]
 have:HT.sIx (ws ++ [w]).length (ws ++ [w]).length (some (-1))=ws.length:=by
  show (if (-1:Int)<0 then ((-1:Int)+(((ws ++ [w]).length:Nat):Int)).toNat else min (-1:Int).toNat (ws ++ [w]).length)=_
  rw [if_pos (by omega),List.length_append,List.length_singleton]
  omega
 rw [this]
 simp
theorem beh_eq {n:Nat} {s:List Int} {m:Mv} (hs:s.length=n):(List.range n).map (fun k=>s.getD k 0+(m.2.getD k 0-m.1.getD k 0))=behL s m:=by
 unfold behL
 rw [hs]
 refine List.map_congr_left fun k _=>?_
 omega
theorem after2 {n:Nat} {s:List Int} {m:Mv} (h6:n≤6) (h:okM n m) (hs:s.length=n) (hc:covB s m.1=true):f_after [tI s,mW m]=.ok (tI (behL s m)):=by
 rw [after_gen h6 h hs hc,beh_eq hs]
def intoN (ms:List Mv) (B:List (List Int)) (s:List Int):List Nat:=(List.range ms.length).filter fun k=>stepB B s (ms.getD k ([],[]))
theorem enu_rng (ms:List Mv):((ms.map mW).mapIdx fun i x=>W.tup [.int (i:Int),x])=(List.range ms.length).map fun (k:Nat)=>W.tup [.int (k:Int),mW (ms.getD k ([],[]))]:=by
 apply List.ext_getElem
 ·simp
 ·intro i h1 h2
  have hi:i<ms.length:=by simpa using h1
  simp [hi]
theorem into_ok {n:Nat} {ms:List Mv} {B:List (List Int)} {s:List Int} (h6:n≤6) (hm:∀ m∈ms,okM n m) (hml:ms.length≤8) (hB:∀ x∈B,x.length=n) (hs:s.length=n):f_moves_into [tI s,tM_ ms,lS B]=.ok (lI ((intoN ms B s).map fun (k:Nat)=>(k:Int))):=by
 have he:enuW [tM_ ms]=.ok ((List.range ms.length).map fun (k:Nat)=>W.tup [.int (k:Int),mW (ms.getD k ([],[]))]):=congrArg R.ok (enu_rng ms)
 have e:∀ N mg mc me ρ,(∀ k:Nat,k<ms.length→∃ ρ1,mg (.tup [.int (k:Int),mW (ms.getD k ([],[]))]) (ρ++List.replicate (N-ρ.length) Sl.un)=some ρ1∧mc ρ1=.ok (stepB B s (ms.getD k ([],[])))∧me ρ1=.ok (.int (k:Int))) →
   mComp N mg mc me ((List.range ms.length).map fun (k:Nat)=>W.tup [.int (k:Int),mW (ms.getD k ([],[]))]) ρ=.ok (lI ((intoN ms B s).map fun (k:Nat)=>(k:Int))):=fun N mg mc me ρ h=>by
  have:=mComp_filter (N':=N) (mg:=mg) (mc:=mc) (me:=me) (fun k:Nat=>W.int (k:Int)) (fun k:Nat=>W.tup [.int (k:Int),mW (ms.getD k ([],[]))]) (fun k=>stepB B s (ms.getD k ([],[]))) (List.range ms.length) ρ (by simp; omega) fun k hk=>by
   obtain ⟨ρ1,e1,e2,e3⟩:=h k (by simpa using hk)
   exact ⟨ρ1,e1,e2,fun _=>e3⟩
  rw [this]
  unfold lI intoN
  rw [List.map_map]; rfl
 exists rpB,m_moves_into,he
 rw [e]
 ·exists rp18
 intro k hk
 have hmm:ms.getD k ([],[])∈ms:=by rw [List.getD_eq_getElem?_getD]; simp [hk]
 have hok:=hm _ hmm
 generalize ms.getD k ([],[])=m at hok
 have k1:=able_ok (s:=s) (m:=m) (by rw [hs]; exact hok.1)
 refine ⟨_,rfl,?_⟩
 cases q:covB s m.1 with
 | false=>
  have a0:∀ r:R Bool,TP.rAnd (.ok false) r=.ok false:=fun r=>rfl
  have st:stepB B s m=false:=by unfold stepB; rw [q]; rfl
  rw [q] at k1
  exists k1,a0,st
 | true=>
  have k2:=after2 h6 hok hs q
  have k3:=lifted_ok (s:=behL s m) (ss:=B) fun x hx=>by rw [hB x hx,behL_len,hs]
  have st:stepB B s m=lifB (behL s m) B:=by unfold stepB; rw [q]; rfl
  rw [q] at k1
  exists k1,k2,k3,st
def rowF (ms:List Mv) (t:List Int):Nat→List Int→List Int
 | 0,_=>[]
 | k+1,s=>(((intoN ms (Bk ms t k) s).getD 0 0:Nat):Int)::rowF ms t k (behL s (ms.getD ((intoN ms (Bk ms t k) s).getD 0 0) ([],[])))
theorem into_some {n:Nat} {ms:List Mv} {t s:List Int} {k:Nat} (ht:t.length=n) (hs:s.length=n) (h1:lifB s (Bk ms t (k+1))=true) (h0:lifB s (Bk ms t k)=false):∃ r tl,intoN ms (Bk ms t k) s=r::tl∧r<ms.length∧stepB (Bk ms t k) s (ms.getD r ([],[]))=true:=by
 rw [lif_succ ht k hs,h0,Bool.false_or] at h1
 obtain ⟨m,hm,hq⟩:=List.any_eq_true.mp h1
 obtain ⟨i,hi,e⟩:=List.mem_iff_getElem.mp hm
 have hin:i∈intoN ms (Bk ms t k) s:=List.mem_filter.mpr ⟨List.mem_range.mpr hi,by
  rw [List.getD_eq_getElem?_getD,List.getElem?_eq_getElem hi]
  show stepB _ s ms[i]=true
  rw [e]; exact hq⟩
 cases q:intoN ms (Bk ms t k) s with
 | nil=>rw [q] at hin; cases hin
 | cons r tl=>
  have hr:r∈intoN ms (Bk ms t k) s:=by rw [q]; exact List.mem_cons_self
  obtain ⟨g1,g2⟩:=List.mem_filter.mp hr
  exact ⟨r,tl,rfl,List.mem_range.mp g1,g2⟩
theorem rev_at {f:Nat→W} {j i:Nat} {w:W} (h:((List.range j).map f).reverse[i]?=some w):i<j∧w=f (j-1-i):=by
 have hi:i<j:=by have:=(List.getElem?_eq_some_iff.mp h).1; simpa using this
 rw [List.getElem?_reverse (by simpa using hi)] at h
 simp at h
 obtain ⟨a,ha,e⟩:=h
 rw [List.getElem?_range (by omega)] at ha
 cases ha
 exact ⟨hi,e.symm⟩
theorem row_ok {n:Nat} {ms:List Mv} {b t:List Int} {j:Nat} (h6:n≤6) (hm:∀ m∈ms,okM n m) (hml:ms.length≤8) (hb:b.length=n) (ht:t.length=n) (hj:j≤100) (hl:lifB b (Bk ms t j)=true) (hn:∀ i,i<j→lifB b (Bk ms t i)=false):f_row_inward [.tup [tI b,tM_ ms],.lst (rgW ms t j)]=.ok (lI (rowF ms t j b)):=by
 have fin:Ok (f_row_inward [.tup [tI b,tM_ ms],.lst (rgW ms t j)]) fun w=>w=lI (rowF ms t j b):=by
  have a0:L2.atI [tI b,tM_ ms] 0=some (tI b):=rfl
  have a1:L2.atI [tI b,tM_ ms] 1=some (tM_ ms):=rfl
  have cut:cutW (rgW ms t j) none (some (-1))=(List.range j).map fun i=>lS (Bk ms t i):=by
   have:rgW ms t j=((List.range j).map fun i=>lS (Bk ms t i)) ++ [lS (Bk ms t j)]:=by
    unfold rgW
    rw [List.range_succ,List.map_append]; rfl
   rw [this,cut_m1]
  exists runX_2,m_row_inward,a0,cut
  refine ok_end (po_fors (fun i ρ=>∃ (R s:List Int) (a4 a5:Sl),ρ = [.val (.tup [tI b,tM_ ms]),.val (.lst (rgW ms t j)),.own (R.map W.int),.val (tI s),a4,a5]∧R.length=i∧i≤j∧rowF ms t j b=R++rowF ms t (j-i) s∧s.length=n∧lifB s (Bk ms t (j-i))=true∧(i<j→lifB s (Bk ms t (j-1-i))=false)) ⟨[],b,_,_,rfl,rfl,Nat.zero_le _,rfl,hb,hl,fun h=>hn _ (by omega)⟩ ?_ ?_)
  ·rintro i w ρ hw ⟨R,s,a4,a5,rfl,hR,hij,hrow,hs,hl1,hl0⟩
   obtain ⟨hi,rfl⟩:=rev_at hw
   obtain ⟨k,hk⟩:∃ k,j-i=k+1:=⟨j-i-1,by omega⟩
   have hk2:j-1-i=k:=by omega
   have hk3:j-(i+1)=k:=by omega
   have hl0:=hl0 hi
   rw [hk] at hrow hl1
   rw [hk2] at hl0
   obtain ⟨r,tl,er,hr,hst⟩:=into_some ht hs hl1 hl0
   have k1:=into_ok h6 hm hml (Bk_bas (ms:=ms) ht k).len hs
   rw [er] at k1
   have b0:L2.atI ((((r::tl).map fun (k:Nat)=>(k:Int))).map W.int) 0=some (.int (r:Int)):=at_map W.int (as:=(r::tl).map fun (k:Nat)=>(k:Int)) (d:=0) (i:=0) ⟨by omega,by simp⟩
   have b1:L2.atI (ms.map mW) (r:Int)=some (mW (ms.getD r ([],[]))):=by
    have:=at_map mW (as:=ms) (d:=([],[])) (i:=(r:Int)) (by omega)
    rw [Int.toNat_natCast] at this
    exact this
   have hok:=hm (ms.getD r ([],[])) (by rw [List.getD_eq_getElem?_getD]; simp [hr])
   have hr2:rowF ms t (k+1) s=(r:Int)::rowF ms t k (behL s (ms.getD r ([],[]))):=by
    show (((intoN ms (Bk ms t k) s).getD 0 0:Nat):Int)::_=_
    rw [er]; rfl
   have hmem:ms.getD r ([],[])∈ms:=by rw [List.getD_eq_getElem?_getD]; simp [hr]
   generalize ms.getD r ([],[])=m at hst b1 hok hr2 hmem
   have hst':=hst
   unfold stepB at hst
   rw [Bool.and_eq_true] at hst
   have k2:=after2 h6 hok hs hst.1
   refine ⟨_,rfl,?_⟩
   rw [hk2]
   generalize ((r::tl).map fun (k:Nat)=>(k:Int))=ql at k1 b0
   exists a1,k1,b0,b1,k2
   refine ⟨R ++ [(r:Int)],behL s m,_,_,by rw [List.map_append],by simp [hR],hi,?_,by rw [behL_len]; exact hs,by rw [hk3]; exact hst.2,fun h=>?_⟩
   ·rw [hk3,hrow,hr2,List.append_assoc]; rfl
   ·obtain ⟨k',hk'⟩:∃ k',k=k'+1:=⟨k-1,by omega⟩
    rw [show j-1-(i+1)=k' by omega]
    cases q:lifB (behL s m) (Bk ms t k') with
    | false=>rfl
    | true=>
     exfalso
     have:stepB (Bk ms t k') s m=true:=by unfold stepB; rw [hst.1,q]; rfl
     have l2:lifB s (Bk ms t (k'+1))=true:=by
      rw [lif_succ ht k' hs,List.any_eq_true.mpr ⟨m,hmem,this⟩,Bool.or_true]
     rw [hk'] at hl0
     rw [l2] at hl0; cases hl0
  ·rintro ρ ⟨R,s,a4,a5,rfl,hR,hij,hrow,hs,hl1,hl0⟩
   rw [List.length_reverse,List.length_map,List.length_range] at hrow
   exists rp18
   rw [hrow,Nat.sub_self]
   show lI R=lI (R ++ [])
   rw [List.append_nil]
 obtain ⟨v,e,rfl⟩:=fin
 exact e
theorem cover_ok {n:Nat} {ms:List Mv} {b t:List Int} {most:Nat} (h1:1≤n) (h6:n≤6) (hm:∀ m∈ms,okM n m) (hml:ms.length≤8) (hb:b.length=n) (ht:t.length=n) (hmo:most≤6):Ok (f_cover [.tup [tI b,tM_ ms],tI t,.int (most:Int)]) fun w=>∃ j,(∀ i,i<j→lifB b (Bk ms t i)=false∧endW ms t most "wall" i=.non)∧((lifB b (Bk ms t j)=true∧w=.tup [.str "row",lI (rowF ms t j b)])∨(lifB b (Bk ms t j)=false∧endW ms t most "wall" j≠.non∧w=endW ms t most "wall" j)):=by
 have isn:∀ w:W,isN w=true↔w=.non:=fun w=>by cases w <;> simp [isN]
 have a0:L2.atI [tI b,tM_ ms] 0=some (tI b):=rfl
 have a1:L2.atI [tI b,tM_ ms] 1=some (tM_ ms):=rfl
 have cm:chk (tM_ ms)=.ok (tM_ ms):=chk_no (noLs_M ms)
 have ct:=chk_no (noL_tI t)
 have cb:chk (.tup [tI b,tM_ ms])=.ok (.tup [tI b,tM_ ms]):=chk_no (by
  show noLs [tI b,tM_ ms]=true
  simp only [noLs,noL_tI,Bool.true_and,Bool.and_true]
  exact noLs_M ms)
 exists rpB,m_cover,ct
 refine ok_end (po_seq ?_)
 refine po_while (fun k ρ=>∃ (j:Nat) (x:Sl),ρ = [.par (.tup [tI b,tM_ ms]),.par (tI t),.par (.int (most:Int)),.own (rgW ms t j),x]∧k=most-j∧j≤most∧∀ i,i<j→lifB b (Bk ms t i)=false∧endW ms t most "wall" i=.non) ?_ most _ ⟨0,_,rfl,rfl,Nat.zero_le _,fun i hi=>absurd hi (Nat.not_lt_zero _)⟩
 rintro k ρ ⟨j,x,rfl,hk,hjm,hall⟩
 have r0:=rg_at ms t j
 have l1:=rg_len ms t j
 have hB:=Bk_bas (ms:=ms) ht j
 have k1:=lifted_ok (s:=b) (ss:=Bk ms t j) fun y hy=>by rw [hB.len y hy,hb]
 cases q:lifB b (Bk ms t j) with
 | true=>
  rw [q] at k1
  have k2:=row_ok h6 hm (by omega) hb ht (by omega) q fun i hi=>(hall i hi).1
  refine ⟨false,?_,?_⟩
  ·exists a0,r0,k1
  rw [if_neg Bool.false_ne_true]
  exists cb,k2
  exact ⟨j,hall,.inl ⟨q,rfl⟩⟩
 | false=>
  rw [q] at k1
  refine ⟨true,?_,?_⟩
  ·exists a0,r0,k1
  rw [if_pos rfl]
  have e1:=ending_ok (j:=j) (word := "wall") h6 hm (by omega) ht hmo
  exists sCX_ap,frzL_cons,frzL_nil,RcX_ok,a1,cm,e1,setX_4
  by_cases hw:endW ms t most "wall" j=.non
  ·have rm:=room_j (n:=n) hml hmo hw
   have hj:=(end_non.mp hw).2.2
   have k3:=step_ok h1 h6 hm hB.len (by omega) rm.1 rm.2
   have k3':f_step_back [tM_ ms,lS (Bk ms t j)]=.ok (lS (Bk ms t (j+1))):=k3
   have r1:=rg_suc ms t j
   have nn0:noL W.non=true:=rfl
   rw [hw]
   exists nn0,a1,r0,k3'
   refine ⟨most-(j+1),by omega,j+1,_,by rw [← r1],rfl,by omega,fun i hi=>?_⟩
   by_cases e:i=j
   ·rw [e]; exact ⟨q,hw⟩
   ·exact hall i (by omega)
  ·have hbn:isN (endW ms t most "wall" j)=false:=by
    cases q:isN (endW ms t most "wall" j) with
    | false=>rfl
    | true=>exact absurd ((isn _).mp q) hw
   generalize hE:endW ms t most "wall" j=w at hw hbn
   exists hbn
   exact ⟨j,hall,.inr ⟨q,by rw [hE]; exact hw,hE.symm⟩⟩
theorem end_cases (ms:List Mv) (t:List Int) (most:Nat) (word:String) (j:Nat):endW ms t most word j=.non∨endW ms t most word j=.tup [.str "open",.int (j:Int)]∨(endW ms t most word j=.tup [.str word,lS (Bk ms t j)]∧(Bk ms t j).length≤most∧shutB ms (Bk ms t j)=true):=by
 unfold endW
 split
 ·exact .inr (.inl rfl)
 ·rename_i h1
  split
  ·rename_i h2
   exact .inr (.inr ⟨rfl,by simp at h1; omega,h2⟩)
  ·split
   ·exact .inr (.inl rfl)
   ·exact .inl rfl
theorem ok_row:PyData.strOk "row" = true:=by decide +kernel
theorem ok_wall:PyData.strOk "wall" = true:=by decide +kernel
theorem ok_basis:PyData.strOk "basis" = true:=by decide +kernel
theorem ok_open:PyData.strOk "open" = true:=by decide +kernel
def covP (ms:List Mv) (b t:List Int) (most:Nat) (w:W):Prop:=∃ j,(∀ i,i<j→lifB b (Bk ms t i)=false∧endW ms t most "wall" i=.non)∧((lifB b (Bk ms t j)=true∧w=.tup [.str "row",lI (rowF ms t j b)])∨(lifB b (Bk ms t j)=false∧endW ms t most "wall" j≠.non∧w=endW ms t most "wall" j))
theorem keep_out {n:Nat} {ms:List Mv} {ss:List (List Int)} (hs:∀ x∈ss,x.length=n) (hsh:shutB ms ss=true) {s:List Int} {m:Mv} (hm:m∈ms) (hl:s.length=n) (hc:covB s m.1=true) (h0:lifB s ss=false):lifB (behL s m) ss=false:=by
 cases q:lifB (behL s m) ss with
 | false=>rfl
 | true=>
  exfalso
  unfold lifB at q
  obtain ⟨b,hb,cb⟩:=List.any_eq_true.mp q
  have c1:=(src_cov (m:=m) hl (hs b hb)).mpr ⟨hc,cb⟩
  have hin:srcL b m.1 m.2∈srcs ms ss:=List.mem_flatMap.mpr ⟨m,hm,List.mem_map.mpr ⟨b,hb,rfl⟩⟩
  unfold shutB at hsh
  have c2:=List.all_eq_true.mp hsh _ hin
  unfold lifB at c2
  obtain ⟨d,hd,cd⟩:=List.any_eq_true.mp c2
  have:lifB s ss=true:=List.any_eq_true.mpr ⟨d,hd,cov_trans (by rw [hl]; exact (srcs_mem hs _ hin).symm) c1 cd⟩
  rw [this] at h0; cases h0
inductive Rch (ms:List Mv) (b:List Int):List Int→Prop where
 | beg:Rch ms b b
 | go {s:List Int} {m:Mv}:Rch ms b s→m∈ms→covB s m.1=true→Rch ms b (behL s m)
theorem Rch.len {ms:List Mv} {b s:List Int} (h:Rch ms b s):s.length=b.length:=by
 induction h with
 | beg=>rfl
 | go _ _ _ ih=>rw [behL_len]; exact ih
theorem Rch.out {n:Nat} {ms:List Mv} {b s:List Int} {ss:List (List Int)} (hs:∀ x∈ss,x.length=n) (hsh:shutB ms ss=true) (hb:b.length=n) (h0:lifB b ss=false) (h:Rch ms b s):lifB s ss=false:=by
 induction h with
 | beg=>exact h0
 | go r hm hc ih=>exact keep_out hs hsh hm (by rw [r.len]; exact hb) hc ih
theorem cov_class {n:Nat} {ms:List Mv} {b t:List Int} {most:Nat} {w:W} (hb:b.length=n) (ht:t.length=n) (h:covP ms b t most w):(∃ j,w=.tup [.str "row",lI (rowF ms t j b)]∧lifB b (Bk ms t j)=true∧∀ i,i<j→lifB b (Bk ms t i)=false)∨(∃ L:List (List Int),w=.tup [.str "wall",lS L]∧(∀ s,Rch ms b s→covB s t=false))∨∃ z,w=.tup [.str "open",.int z]∧covB b t=false:=by
 obtain ⟨j,a,⟨l,rfl⟩ | ⟨l,ne,rfl⟩⟩:=h
 ·exact .inl ⟨j,rfl,l,fun i hi=>(a i hi).1⟩
 ·rcases end_cases ms t most "wall" j with q | q | ⟨q,_,hsh⟩
  ·exact absurd q ne
  ·refine .inr (.inr ⟨_,q,?_⟩)
   have:lifB b (Bk ms t 0)=false:=by
    cases j with
    | zero=>exact l
    | succ j=>exact (a 0 (by omega)).1
   rw [show Bk ms t 0 = [t] from rfl,lif_1] at this
   exact this
  ·refine .inr (.inl ⟨_,q,fun s hs=>?_⟩)
   have:=hs.out (Bk_bas (ms:=ms) ht j).len hsh hb l
   cases c:covB s t with
   | false=>rfl
   | true=>
    rw [lif_cov ht j (by rw [hs.len]; exact hb) c] at this; cases this
theorem enough_ok {n:Nat} {ms:List Mv} {t:List Int} {most:Nat} (h1:1≤n) (h6:n≤6) (hm:∀ m∈ms,okM n m) (hml:ms.length≤8) (ht:t.length=n) (hmo:most≤6):Ok (f_enough [tM_ ms,tI t,.int (most:Int)]) fun w=>∃ j,w=endW ms t most "basis" j∧w≠.non∧∀ i,i<j→endW ms t most "basis" i=.non:=by
 have e0:=ending_ok (j:=0) (word := "basis") h6 hm (by omega) ht hmo
 have e0':f_ending [tM_ ms,.lst [.lst [tI t]],.int (most:Int),.str "basis"]=.ok (endW ms t most "basis" 0):=e0
 have isn:∀ w:W,isN w=true↔w=.non:=fun w=>by cases w <;> simp [isN]
 have cm:chk (tM_ ms)=.ok (tM_ ms):=chk_no (noLs_M ms)
 have ct:=chk_no (noL_tI t)
 exists rpB,m_enough,sCX_ap,frzL_cons,frzL_nil,RcX_ok,ct,cm,e0',setX_4
 refine ok_end (po_seq ?_)
 refine po_while (fun k ρ=>∃ (j:Nat) (x:Sl),ρ = [.par (tM_ ms),.par (tI t),.par (.int (most:Int)),x,.val (endW ms t most "basis" j)]∧(noL (endW ms t most "basis" j)=true→x=.own (rgW ms t j))∧k=most-j∧∀ i,i<j→endW ms t most "basis" i=.non) ?_ most _ ⟨0,_,rfl,fun h=>by rw [if_pos h]; rfl,rfl,fun i hi=>absurd hi (Nat.not_lt_zero _)⟩
 rintro k ρ ⟨j,x,rfl,hx,hk,hall⟩
 by_cases hw:endW ms t most "basis" j=.non
 ·refine ⟨true,?_,?_⟩
  ·rw [hw]
   exists rp18
  rw [if_pos rfl]
  rw [hx (by rw [hw]; rfl)]
  have rm:=room_j (n:=n) hml hmo hw
  have hj:=(end_non.mp hw).2.2
  have a1:=rg_at ms t j
  have l1:=rg_len ms t j
  have k1:=step_ok h1 h6 hm (Bk_bas (ms:=ms) ht j).len (by omega) rm.1 rm.2
  have k1':f_step_back [tM_ ms,lS (Bk ms t j)]=.ok (lS (Bk ms t (j+1))):=k1
  have e1:=ending_ok (j:=j+1) (word := "basis") h6 hm (by omega) ht hmo
  have hjm:j<most:=by
   by_cases q:j<most
   ·exact q
   ·exfalso
    have:=hall most
    have hm2:most<j:=by omega
    exact (end_non.mp (this hm2)).2.2 rfl
  have r1:=rg_suc ms t j
  exists a1,k1',sCX_ap,frzL_cons,frzL_nil,RcX_ok,ct,cm
  rw [← r1]
  exists e1,setX_4
  refine ⟨most-(j+1),by omega,j+1,_,rfl,fun h=>by rw [if_pos h],rfl,fun i hi=>?_⟩
  by_cases q:i=j
  ·rw [q]; exact hw
  ·exact hall i (by omega)
 ·have hb:isN (endW ms t most "basis" j)=false:=by
   cases q:isN (endW ms t most "basis" j) with
   | false=>rfl
   | true=>exact absurd ((isn _).mp q) hw
  generalize hE:endW ms t most "basis" j=w at hw hb
  refine ⟨false,?_,?_⟩
  ·exists hb
  ·rw [if_neg Bool.false_ne_true]
   exists rp18
   exact ⟨j,hE.symm,hw,hall⟩
structure Equi (n:Nat) (φ:List Int→List Int):Prop where
 len:∀ a,a.length=n→(φ a).length=n
 cov:∀ a b,a.length=n→b.length=n→covB (φ a) (φ b)=covB a b
 src:∀ s t p,s.length=n→t.length=n→p.length=n→srcL (φ s) (φ t) (φ p)=φ (srcL s t p)
 beh:∀ s t p,s.length=n→t.length=n→p.length=n→behL (φ s) (φ t,φ p)=φ (behL s (t,p))
abbrev mvF (φ:List Int→List Int) (m:Mv):Mv:=(φ m.1,φ m.2)
theorem Bas.nodup {n:Nat} {B:List (List Int)} (h:Bas n B):B.Nodup:=h.lt.imp fun q e=>by subst e; rw [TP.lex_irr] at q; cases q
theorem mem_srcs {ms:List Mv} {ss:List (List Int)} {x:List Int}:x∈srcs ms ss↔∃ m∈ms,∃ s∈ss,x=srcL s m.1 m.2:=by
 unfold srcs
 rw [List.mem_flatMap]
 constructor
 ·rintro ⟨m,hm,hx⟩
  obtain ⟨s,hs,rfl⟩:=List.mem_map.mp hx
  exact ⟨m,hm,s,hs,rfl⟩
 ·rintro ⟨m,hm,s,hs,rfl⟩
  exact ⟨m,hm,List.mem_map.mpr ⟨s,hs,rfl⟩⟩
section
variable {n:Nat} {φ:List Int→List Int} (E:Equi n φ)
include E
theorem map_len {B:List (List Int)} (h:∀ b∈B,b.length=n):∀ b∈B.map φ,b.length=n:=fun b hb=>by
 obtain ⟨y,hy,rfl⟩:=List.mem_map.mp hb
 exact E.len y (h y hy)
theorem inj_bas {B:List (List Int)} (h:Bas n B) {y z:List Int} (hy:y∈B) (hz:z∈B) (e:φ y=φ z):y=z:=by
 refine h.one hy hz ?_
 rw [← E.cov y z (h.len y hy) (h.len z hz),e]; exact cov_self _
theorem mem_mapB {B:List (List Int)} (h:Bas n B) {x:List Int}:x∈minB (B.map φ)↔∃ y∈B,x=φ y:=by
 obtain ⟨_,m2,m3,_⟩:=min_bas (map_len E h.len)
 constructor
 ·intro hx
  obtain ⟨y,hy,rfl⟩:=List.mem_map.mp (m2 x hx)
  exact ⟨y,hy,rfl⟩
 ·rintro ⟨y,hy,rfl⟩
  obtain ⟨b,hb,c⟩:=m3 (φ y) (List.mem_map.mpr ⟨y,hy,rfl⟩)
  obtain ⟨z,hz,rfl⟩:=List.mem_map.mp (m2 b hb)
  rw [E.cov y z (h.len y hy) (h.len z hz)] at c
  rw [h.one hy hz c]; exact hb
theorem perm_mapB {B:List (List Int)} (h:Bas n B):(B.map φ).Perm (minB (B.map φ)):=by
 have nd:(B.map φ).Nodup:=List.pairwise_map.mpr (List.Pairwise.imp_of_mem (fun {a b} ha hb hne e=>hne (inj_bas E h ha hb e)) h.nodup)
 refine (List.perm_ext_iff_of_nodup nd (min_bas (map_len E h.len)).1.nodup).mpr fun x=>?_
 rw [mem_mapB E h,List.mem_map]
 exact ⟨fun ⟨y,hy,e⟩=>⟨y,hy,e.symm⟩,fun ⟨y,hy,e⟩=>⟨y,hy,e.symm⟩⟩
variable {ms:List Mv} {t:List Int} (hm:∀ m∈ms,okM n m) (ht:t.length=n)
include hm ht
theorem Bk_map:∀ k,Bk (ms.map (mvF φ)) (φ t) k=minB ((Bk ms t k).map φ)
 | 0=>by
  have b0:Bas n [φ t]:=⟨fun b hb=>by rw [List.mem_singleton.mp hb]; exact E.len t ht,List.pairwise_singleton _ _,List.pairwise_singleton _ _⟩
  exact (min_perm b0 (List.Perm.refl _)).symm
 | k+1=>by
  have ih:=Bk_map k
  have hB:=Bk_bas (ms:=ms) ht k
  have hB1:=Bk_bas (ms:=ms) ht (k+1)
  have hD:=D_len (ms:=ms) hB.len
  have hmem:∀ x,x∈Bk (ms.map (mvF φ)) (φ t) k++srcs (ms.map (mvF φ)) (Bk (ms.map (mvF φ)) (φ t) k)↔∃ d∈Bk ms t k++srcs ms (Bk ms t k),x=φ d:=fun x=>by
   rw [ih,List.mem_append,mem_mapB E hB,mem_srcs]
   constructor
   ·rintro (⟨y,hy,rfl⟩ | ⟨m',hm',s',hs',rfl⟩)
    ·exact ⟨y,List.mem_append_left _ hy,rfl⟩
    ·obtain ⟨m,hmm,rfl⟩:=List.mem_map.mp hm'
     obtain ⟨s,hs,rfl⟩:=(mem_mapB E hB).mp hs'
     refine ⟨srcL s m.1 m.2,List.mem_append_right _ (mem_srcs.mpr ⟨m,hmm,s,hs,rfl⟩),?_⟩
     exact E.src s m.1 m.2 (hB.len s hs) (hm m hmm).1 (hm m hmm).2
   ·rintro ⟨d,hd,rfl⟩
    rcases List.mem_append.mp hd with h | h
    ·exact .inl ⟨d,h,rfl⟩
    ·obtain ⟨m,hmm,s,hs,rfl⟩:=mem_srcs.mp h
     refine .inr ⟨mvF φ m,List.mem_map.mpr ⟨m,hmm,rfl⟩,φ s,(mem_mapB E hB).mpr ⟨s,hs,rfl⟩,?_⟩
     exact (E.src s m.1 m.2 (hB.len s hs) (hm m hmm).1 (hm m hmm).2).symm
  obtain ⟨_,p2,p3,_⟩:=min_bas hD
  have hD':∀ x∈Bk (ms.map (mvF φ)) (φ t) k++srcs (ms.map (mvF φ)) (Bk (ms.map (mvF φ)) (φ t) k),x.length=n:=fun x hx=>by
   obtain ⟨d,hd,rfl⟩:=(hmem x).mp hx
   exact E.len d (hD d hd)
  obtain ⟨q1,q2,q3,_⟩:=min_bas hD'
  refine bas_eq q1 (min_bas (map_len E hB1.len)).1 (fun a ha=>?_) fun b hb=>?_
  ·obtain ⟨d,hd,rfl⟩:=(hmem a).mp (q2 a ha)
   obtain ⟨y,hy,c⟩:=p3 d hd
   exact ⟨φ y,(mem_mapB E hB1).mpr ⟨y,hy,rfl⟩,by rw [E.cov d y (hD d hd) (hB1.len y hy)]; exact c⟩
  ·obtain ⟨y,hy,rfl⟩:=(mem_mapB E hB1).mp hb
   exact q3 (φ y) ((hmem (φ y)).mpr ⟨y,p2 y hy,rfl⟩)
theorem Bk_mem {k:Nat} {x:List Int}:x∈Bk (ms.map (mvF φ)) (φ t) k↔∃ y∈Bk ms t k,x=φ y:=by
 rw [Bk_map E hm ht,mem_mapB E (Bk_bas ht k)]
theorem Bk_lenF (k:Nat):(Bk (ms.map (mvF φ)) (φ t) k).length=(Bk ms t k).length:=by
 rw [Bk_map E hm ht,← (perm_mapB E (Bk_bas ht k)).length_eq,List.length_map]
theorem lif_F {k:Nat} {s:List Int} (hs:s.length=n):lifB (φ s) (Bk (ms.map (mvF φ)) (φ t) k)=lifB s (Bk ms t k):=by
 unfold lifB
 rw [Bool.eq_iff_iff,List.any_eq_true,List.any_eq_true]
 constructor
 ·rintro ⟨x,hx,c⟩
  obtain ⟨y,hy,rfl⟩:=(Bk_mem E hm ht).mp hx
  exact ⟨y,hy,by rw [← E.cov s y hs ((Bk_bas ht k).len y hy)]; exact c⟩
 ·rintro ⟨y,hy,c⟩
  exact ⟨φ y,(Bk_mem E hm ht).mpr ⟨y,hy,rfl⟩,by rw [E.cov s y hs ((Bk_bas ht k).len y hy)]; exact c⟩
theorem shut_F (k:Nat):shutB (ms.map (mvF φ)) (Bk (ms.map (mvF φ)) (φ t) k)=shutB ms (Bk ms t k):=by
 have hB:=Bk_bas (ms:=ms) ht k
 unfold shutB
 rw [Bool.eq_iff_iff,List.all_eq_true,List.all_eq_true]
 constructor
 ·intro h x hx
  obtain ⟨m,hmm,s,hs,rfl⟩:=mem_srcs.mp hx
  have:=h (φ (srcL s m.1 m.2)) (mem_srcs.mpr ⟨mvF φ m,List.mem_map.mpr ⟨m,hmm,rfl⟩,φ s,(Bk_mem E hm ht).mpr ⟨s,hs,rfl⟩,(E.src s m.1 m.2 (hB.len s hs) (hm m hmm).1 (hm m hmm).2).symm⟩)
  rw [lif_F E hm ht (by rw [srcL_len]; exact hB.len s hs)] at this
  exact this
 ·intro h x hx
  obtain ⟨m',hm',s',hs',rfl⟩:=mem_srcs.mp hx
  obtain ⟨m,hmm,rfl⟩:=List.mem_map.mp hm'
  obtain ⟨s,hs,rfl⟩:=(Bk_mem E hm ht).mp hs'
  show lifB (srcL (φ s) (φ m.1) (φ m.2)) _=true
  rw [E.src s m.1 m.2 (hB.len s hs) (hm m hmm).1 (hm m hmm).2,lif_F E hm ht (by rw [srcL_len]; exact hB.len s hs)]
  exact h _ (mem_srcs.mpr ⟨m,hmm,s,hs,rfl⟩)
theorem end_F (most:Nat) (word:String) (j:Nat):endW (ms.map (mvF φ)) (φ t) most word j=if decide ((most:Int)<((Bk ms t j).length:Int))=true then .tup [.str "open",.int (j:Int)] else if shutB ms (Bk ms t j)=true then .tup [.str word,lS (minB ((Bk ms t j).map φ))] else if decide ((j:Int)=(most:Int))=true then .tup [.str "open",.int (j:Int)] else .non:=by
 unfold endW
 rw [Bk_lenF E hm ht,shut_F E hm ht,Bk_map E hm ht]
theorem endN_F (most:Nat) (word:String) (j:Nat):endW (ms.map (mvF φ)) (φ t) most word j=.non↔endW ms t most word j=.non:=by
 rw [end_non,end_non,Bk_lenF E hm ht,shut_F E hm ht]
theorem step_F {k:Nat} {s:List Int} {m:Mv} (hs:s.length=n) (hmm:m∈ms):stepB (Bk (ms.map (mvF φ)) (φ t) k) (φ s) (mvF φ m)=stepB (Bk ms t k) s m:=by
 unfold stepB
 rw [E.cov s m.1 hs (hm m hmm).1,show behL (φ s) (mvF φ m)=φ (behL s m) from E.beh s m.1 m.2 hs (hm m hmm).1 (hm m hmm).2,lif_F E hm ht (by rw [behL_len]; exact hs)]
theorem into_F {k:Nat} {s:List Int} (hs:s.length=n):intoN (ms.map (mvF φ)) (Bk (ms.map (mvF φ)) (φ t) k) (φ s)=intoN ms (Bk ms t k) s:=by
 unfold intoN
 rw [List.length_map]
 refine List.filter_congr fun i hi=>?_
 have hi:i<ms.length:=by simpa using hi
 have e:(ms.map (mvF φ)).getD i ([],[])=mvF φ (ms.getD i ([],[])):=by
  rw [List.getD_eq_getElem?_getD,List.getD_eq_getElem?_getD,List.getElem?_map]; simp [hi]
 rw [e,step_F E hm ht hs (by rw [List.getD_eq_getElem?_getD]; simp [hi])]
theorem row_F (h0:1≤ms.length):∀ (k:Nat) (s:List Int),s.length=n→rowF (ms.map (mvF φ)) (φ t) k (φ s)=rowF ms t k s
 | 0,_,_=>rfl
 | k+1,s,hs=>by
  unfold rowF
  rw [into_F E hm ht hs]
  have hr:(intoN ms (Bk ms t k) s).getD 0 0<ms.length:=by
   cases e:intoN ms (Bk ms t k) s with
   | nil=>show 0<ms.length; omega
   | cons r tl=>
    have:r∈intoN ms (Bk ms t k) s:=by rw [e]; exact List.mem_cons_self
    unfold intoN at this
    have:=(List.mem_filter.mp this).1
    simpa using this
  generalize (intoN ms (Bk ms t k) s).getD 0 0=r at hr
  have e:(ms.map (mvF φ)).getD r ([],[])=mvF φ (ms.getD r ([],[])):=by
   rw [List.getD_eq_getElem?_getD,List.getD_eq_getElem?_getD,List.getElem?_map]; simp [hr]
  have hmm:ms.getD r ([],[])∈ms:=by rw [List.getD_eq_getElem?_getD]; simp [hr]
  rw [e,show behL (φ s) (mvF φ (ms.getD r ([],[])))=φ (behL s (ms.getD r ([],[]))) from E.beh s _ _ hs (hm _ hmm).1 (hm _ hmm).2,row_F h0 k _ (by rw [behL_len]; exact hs)]
end
def RelA (n:Nat) (φ:List Int→List Int) (most:Nat) (word:String) (w w':W):Prop:=(∃ rs:List Int,w=.tup [.str "row",lI rs]∧w'=w)∨(∃ j:Nat,w=.tup [.str "open",.int (j:Int)]∧w'=w)∨(∃ B:List (List Int),Bas n B∧B.length≤most∧w=.tup [.str word,lS B]∧w'=.tup [.str word,lS (minB (B.map φ))])
theorem end_rel {n:Nat} {φ:List Int→List Int} (E:Equi n φ) {ms:List Mv} {t:List Int} (hm:∀ m∈ms,okM n m) (ht:t.length=n) {most:Nat} {word:String} {j:Nat} (h:endW ms t most word j≠.non):RelA n φ most word (endW ms t most word j) (endW (ms.map (mvF φ)) (φ t) most word j)∧((endW ms t most word j=.tup [.str "open",.int (j:Int)])∨endW ms t most word j=.tup [.str word,lS (Bk ms t j)]):=by
 rw [end_F E hm ht]
 revert h
 unfold endW
 by_cases c1:decide ((most:Int)<((Bk ms t j).length:Int))=true
 ·rw [if_pos c1,if_pos c1]
  exact fun _=>⟨.inr (.inl ⟨j,rfl,rfl⟩),.inl rfl⟩
 ·rw [if_neg c1,if_neg c1]
  by_cases c2:shutB ms (Bk ms t j)=true
  ·rw [if_pos c2,if_pos c2]
   exact fun _=>⟨.inr (.inr ⟨_,Bk_bas ht j,by simp only [decide_eq_true_eq] at c1; omega,rfl,rfl⟩),.inr rfl⟩
  ·rw [if_neg c2,if_neg c2]
   by_cases c3:decide ((j:Int)=(most:Int))=true
   ·rw [if_pos c3]
    exact fun _=>⟨.inr (.inl ⟨j,rfl,rfl⟩),.inl rfl⟩
   ·rw [if_neg c3]
    exact fun h=>absurd rfl h
theorem cov_rel {n:Nat} {φ:List Int→List Int} (E:Equi n φ) {ms:List Mv} {b t:List Int} (hm:∀ m∈ms,okM n m) (h0:1≤ms.length) (hb:b.length=n) (ht:t.length=n) {most:Nat} {w w':W} (h:covP ms b t most w) (h':covP (ms.map (mvF φ)) (φ b) (φ t) most w'):RelA n φ most "wall" w w':=by
 obtain ⟨j,a,c⟩:=h
 obtain ⟨j',a',c'⟩:=h'
 have hl:∀ i,lifB (φ b) (Bk (ms.map (mvF φ)) (φ t) i)=lifB b (Bk ms t i):=fun i=>lif_F E hm ht hb
 have hj:j=j':=by
  rcases Nat.lt_trichotomy j j' with q | q | q
  ·obtain ⟨x,y⟩:=a' j q
   rw [hl] at x
   rw [endN_F E hm ht] at y
   rcases c with ⟨p,_⟩ | ⟨_,p,_⟩
   ·rw [x] at p; cases p
   ·exact absurd y p
  ·exact q
  ·obtain ⟨x,y⟩:=a j' q
   rcases c' with ⟨p,_⟩ | ⟨_,p,_⟩
   ·rw [hl,x] at p; cases p
   ·exact absurd ((endN_F E hm ht most "wall" j').mpr y) p
 subst hj
 rcases c with ⟨p,e⟩ | ⟨p,q,e⟩
 ·rcases c' with ⟨p',e'⟩ | ⟨p',_,_⟩
  ·rw [row_F E hm ht h0 j b hb] at e'
   exact .inl ⟨_,e,by rw [e',e]⟩
  ·rw [hl,p] at p'; cases p'
 ·rcases c' with ⟨p',_⟩ | ⟨p',q',e'⟩
  ·rw [hl,p] at p'; cases p'
  ·rw [e,e']
   exact (end_rel E hm ht q).1
theorem eno_rel {n:Nat} {φ:List Int→List Int} (E:Equi n φ) {ms:List Mv} {t:List Int} (hm:∀ m∈ms,okM n m) (ht:t.length=n) {most:Nat} {w w':W} (h:∃ j,w=endW ms t most "basis" j∧w≠.non∧∀ i,i<j→endW ms t most "basis" i=.non) (h':∃ j,w'=endW (ms.map (mvF φ)) (φ t) most "basis" j∧w'≠.non∧∀ i,i<j→endW (ms.map (mvF φ)) (φ t) most "basis" i=.non):RelA n φ most "basis" w w':=by
 obtain ⟨j,e,a,c⟩:=h
 obtain ⟨j',e',a',c'⟩:=h'
 have hj:j=j':=by
  rcases Nat.lt_trichotomy j j' with q | q | q
  ·have:=(endN_F E hm ht most "basis" j).mp (c' j q)
   rw [← e] at this; exact absurd this a
  ·exact q
  ·have:=(endN_F E hm ht most "basis" j').mpr (c j' q)
   rw [← e'] at this; exact absurd this a'
 subst hj
 rw [e] at a ⊢
 rw [e']
 exact (end_rel E hm ht a).1
def scl (f:Int) (a:List Int):List Int:=a.map fun x=>x*f
theorem scl_at (f:Int) (a:List Int) (k:Nat):(scl f a).getD k 0=a.getD k 0*f:=by
 unfold scl
 rw [List.getD_eq_getElem?_getD,List.getD_eq_getElem?_getD,List.getElem?_map]
 cases a[k]? <;> simp
theorem scl_len (f:Int) (a:List Int):(scl f a).length=a.length:=by simp [scl]
theorem ext_getD {a b:List Int} (hl:a.length=b.length) (h:∀ k,k<a.length→a.getD k 0=b.getD k 0):a=b:=by
 apply List.ext_getElem hl
 intro i h1 h2
 have:=h i h1
 simpa [List.getD_eq_getElem?_getD,h1,h2] using this
theorem beh_at {s:List Int} {m:Mv} {k:Nat} (h:k<s.length):(behL s m).getD k 0=s.getD k 0-m.1.getD k 0+m.2.getD k 0:=vec_getD h
theorem scl_equi {n:Nat} {f:Int} (hf:0<f):Equi n (scl f) where
 len a h:=by rw [scl_len,h]
 cov a b ha hb:=by
  rw [Bool.eq_iff_iff,cov_iff,cov_iff,scl_len]
  constructor
  ·intro h k hk
   have:=h k hk
   rw [scl_at,scl_at] at this
   exact Int.le_of_mul_le_mul_right this hf
  ·intro h k hk
   rw [scl_at,scl_at]
   exact Int.mul_le_mul_of_nonneg_right (h k hk) (by omega)
 src s t p hs ht hp:=by
  refine ext_getD (by rw [srcL_len,scl_len,scl_len,srcL_len]) fun k hk=>?_
  rw [srcL_len,scl_len] at hk
  rw [srcL_at (by rw [scl_len]; exact hk),scl_at,scl_at,scl_at,scl_at,srcL_at hk]
  have e:s.getD k 0*f-p.getD k 0*f+t.getD k 0*f=(s.getD k 0-p.getD k 0+t.getD k 0)*f:=by rw [Int.add_mul,Int.sub_mul]
  rw [e]
  generalize s.getD k 0-p.getD k 0+t.getD k 0=x
  generalize t.getD k 0=y
  rcases Int.le_total y x with h | h
  ·rw [Int.max_eq_right h,Int.max_eq_right (Int.mul_le_mul_of_nonneg_right h (by omega))]
  ·rw [Int.max_eq_left h,Int.max_eq_left (Int.mul_le_mul_of_nonneg_right h (by omega))]
 beh s t p hs ht hp:=by
  refine ext_getD (by rw [behL_len,scl_len,scl_len,behL_len]) fun k hk=>?_
  rw [behL_len,scl_len] at hk
  rw [beh_at (by rw [scl_len]; exact hk)]
  show (scl f s).getD k 0-(scl f t).getD k 0+(scl f p).getD k 0=(scl f (behL s (t,p))).getD k 0
  rw [scl_at,scl_at,scl_at,scl_at,beh_at hk,Int.add_mul,Int.sub_mul]
def pms (os:List Nat) (a:List Int):List Int:=os.map fun k=>a.getD k 0
theorem pms_len (os:List Nat) (a:List Int):(pms os a).length=os.length:=by simp [pms]
theorem pms_at {os:List Nat} {a:List Int} {i:Nat} (h:i<os.length):(pms os a).getD i 0=a.getD (os.getD i 0) 0:=by
 unfold pms
 rw [List.getD_eq_getElem?_getD,List.getElem?_map,List.getElem?_eq_getElem h]
 simp [List.getD_eq_getElem?_getD,h]
theorem pms_equi {n:Nat} {os:List Nat} (hp:os.Perm (List.range n)):Equi n (pms os):=by
 have hl:os.length=n:=by rw [hp.length_eq,List.length_range]
 have hlt:∀ i,i<n→os.getD i 0<n:=fun i hi=>by
  have:os.getD i 0∈os:=by rw [List.getD_eq_getElem?_getD]; simp [show i<os.length by omega]
  exact List.mem_range.mp (hp.mem_iff.mp this)
 have hsur:∀ k,k<n→∃ i,i<n∧os.getD i 0=k:=fun k hk=>by
  have:k∈os:=hp.mem_iff.mpr (List.mem_range.mpr hk)
  obtain ⟨i,hi,e⟩:=List.getElem_of_mem this
  exact ⟨i,by omega,by rw [List.getD_eq_getElem?_getD]; simp [hi,e]⟩
 refine ⟨fun a h=>by rw [pms_len,hl],fun a b ha hb=>?_,fun s t p hs ht hpp=>?_,fun s t p hs ht hpp=>?_⟩
 ·rw [Bool.eq_iff_iff,cov_iff,cov_iff,pms_len]
  constructor
  ·intro h k hk
   obtain ⟨i,hi,rfl⟩:=hsur k (by omega)
   have:=h i (by omega)
   rw [pms_at (by omega),pms_at (by omega)] at this
   exact this
  ·intro h i hi
   rw [pms_at hi,pms_at hi]
   exact h _ (by have:=hlt i (by omega); omega)
 ·refine ext_getD (by rw [srcL_len,pms_len,pms_len]) fun i hi=>?_
  rw [srcL_len,pms_len] at hi
  rw [srcL_at (by rw [pms_len]; exact hi),pms_at hi,pms_at hi,pms_at hi,pms_at hi,srcL_at (by have:=hlt i (by omega); omega)]
 ·refine ext_getD (by rw [behL_len,pms_len,pms_len]) fun i hi=>?_
  rw [behL_len,pms_len] at hi
  rw [beh_at (by rw [pms_len]; exact hi)]
  show (pms os s).getD i 0-(pms os t).getD i 0+(pms os p).getD i 0=(pms os (behL s (t,p))).getD i 0
  rw [pms_at hi,pms_at hi,pms_at hi,pms_at hi,beh_at (by have:=hlt i (by omega); omega)]
theorem lex_scl {f:Int} (hf:0<f):∀ a b:List Int,TP.lexLt (scl f a) (scl f b)=TP.lexLt a b
 | [],[]=>rfl
 | [],_::_=>rfl
 | _::_,[]=>rfl
 | x::a,y::b=>by
  have ih:=lex_scl hf a b
  show (if x*f=y*f then TP.lexLt (scl f a) (scl f b) else decide (x*f<y*f))=if x=y then TP.lexLt a b else decide (x<y)
  by_cases e:x=y
  ·rw [if_pos e,if_pos (by rw [e]),ih]
  ·rw [if_neg e,if_neg fun z=>e (Int.eq_of_mul_eq_mul_right (by omega) z)]
   rw [decide_eq_decide]
   exact ⟨fun h=>Int.lt_of_mul_lt_mul_right h (by omega),fun h=>Int.mul_lt_mul_of_pos_right h hf⟩
theorem min_scl {n:Nat} {f:Int} (hf:0<f) {B:List (List Int)} (h:Bas n B):minB (B.map (scl f))=B.map (scl f):=by
 have E:Equi n (scl f):=scl_equi hf
 refine min_perm (n:=n) ⟨map_len E h.len,?_,?_⟩ (List.Perm.refl _)
 ·exact List.pairwise_map.mpr (h.up.imp fun {a b} q=>by rw [lex_scl hf]; exact q)
 ·exact List.pairwise_map.mpr (List.Pairwise.imp_of_mem (fun {a b} ha hb q=>by rw [E.cov b a (h.len b hb) (h.len a ha)]; exact q) h.a1)
theorem sort_pms {n:Nat} {φ:List Int→List Int} (E:Equi n φ) {B:List (List Int)} (h:Bas n B):sortL (B.map φ)=minB (B.map φ):=by
 have hB:=(min_bas (map_len E h.len)).1
 exact List.Perm.eq_of_pairwise (le:=fun a b=>TP.lexLt b a=false) (fun a b _ _ x y=>lex_tot _ _ y x) (sort_up _) hB.up ((sort_perm _).trans (perm_mapB E h))
section
variable {n:Nat} {ms ex:List Mv} {t:List Int} (hm:∀ m∈ms,okM n m) (hx:∀ m∈ex,okM n m) (ht:t.length=n) (htn:∀ k,0≤t.getD k 0) (hmn:∀ m∈ms,∀ k,0≤m.1.getD k 0) (hex:∀ m∈ex,m∈ms∨∀ k,m.1.getD k 0=0∧m.2.getD k 0=0)
include hm ht htn hmn
theorem Bk_nn:∀ k,∀ b∈Bk ms t k,∀ i,0≤b.getD i 0
 | 0,b,hb,i=>by rw [List.mem_singleton.mp hb]; exact htn i
 | k+1,b,hb,i=>by
  have hB:=Bk_bas (ms:=ms) ht k
  rcases List.mem_append.mp ((min_bas (D_len (ms:=ms) hB.len)).2.1 b hb) with h | h
  ·exact Bk_nn k b h i
  ·obtain ⟨m,hmm,s,hs,rfl⟩:=mem_srcs.mp h
   by_cases hi:i<s.length
   ·rw [srcL_at hi]
    have:=hmn m hmm i
    omega
   ·rw [List.getD_eq_getElem?_getD]
    simp [srcL,hi]
include hx hex
theorem src_ex {k:Nat} {s:List Int} (hs:s∈Bk ms t k) {m:Mv} (hmm:m∈ex):srcL s m.1 m.2=s∨∃ m'∈ms,srcL s m.1 m.2=srcL s m'.1 m'.2:=by
 rcases hex m hmm with h | h
 ·exact .inr ⟨m,h,rfl⟩
 ·refine .inl (ext_getD (srcL_len _ _ _) fun i hi=>?_)
  rw [srcL_len] at hi
  rw [srcL_at hi,(h i).1,(h i).2]
  have:=Bk_nn hm ht htn hmn k s hs i
  omega
theorem Bk_more:∀ k,Bk (ms++ex) t k=Bk ms t k
 | 0=>rfl
 | k+1=>by
  have ih:=Bk_more k
  have hB:=Bk_bas (ms:=ms) ht k
  show minB (Bk (ms++ex) t k++srcs (ms++ex) (Bk (ms++ex) t k))=minB (Bk ms t k++srcs ms (Bk ms t k))
  rw [ih]
  obtain ⟨p1,p2,p3,_⟩:=min_bas (D_len (ms:=ms) hB.len)
  obtain ⟨q1,q2,q3,_⟩:=min_bas (D_len (ms:=ms++ex) hB.len)
  have hsub:∀ x∈Bk ms t k++srcs (ms++ex) (Bk ms t k),x∈Bk ms t k++srcs ms (Bk ms t k):=fun x hx'=>by
   rcases List.mem_append.mp hx' with h | h
   ·exact List.mem_append_left _ h
   ·obtain ⟨m,hmm,s,hs,rfl⟩:=mem_srcs.mp h
    rcases List.mem_append.mp hmm with h1 | h1
    ·exact List.mem_append_right _ (mem_srcs.mpr ⟨m,h1,s,hs,rfl⟩)
    ·rcases src_ex hm hx ht htn hmn hex hs h1 with e | ⟨m',hm',e⟩
     ·rw [e]; exact List.mem_append_left _ hs
     ·rw [e]; exact List.mem_append_right _ (mem_srcs.mpr ⟨m',hm',s,hs,rfl⟩)
  have hsup:∀ x∈Bk ms t k++srcs ms (Bk ms t k),x∈Bk ms t k++srcs (ms++ex) (Bk ms t k):=fun x hx'=>by
   rcases List.mem_append.mp hx' with h | h
   ·exact List.mem_append_left _ h
   ·obtain ⟨m,hmm,s,hs,rfl⟩:=mem_srcs.mp h
    exact List.mem_append_right _ (mem_srcs.mpr ⟨m,List.mem_append_left _ hmm,s,hs,rfl⟩)
  exact bas_eq q1 p1 (fun a ha=>p3 a (hsub a (q2 a ha))) fun b hb=>q3 b (hsup b (p2 b hb))
theorem shut_more (k:Nat):shutB (ms++ex) (Bk ms t k)=shutB ms (Bk ms t k):=by
 have hB:=Bk_bas (ms:=ms) ht k
 unfold shutB
 rw [Bool.eq_iff_iff,List.all_eq_true,List.all_eq_true]
 constructor
 ·intro h x hx'
  obtain ⟨m,hmm,s,hs,rfl⟩:=mem_srcs.mp hx'
  exact h _ (mem_srcs.mpr ⟨m,List.mem_append_left _ hmm,s,hs,rfl⟩)
 ·intro h x hx'
  obtain ⟨m,hmm,s,hs,rfl⟩:=mem_srcs.mp hx'
  rcases List.mem_append.mp hmm with h1 | h1
  ·exact h _ (mem_srcs.mpr ⟨m,h1,s,hs,rfl⟩)
  ·rcases src_ex hm hx ht htn hmn hex hs h1 with e | ⟨m',hm',e⟩
   ·rw [e]
    unfold lifB
    rw [List.any_eq_true]
    exact ⟨s,hs,cov_self s⟩
   ·rw [e]; exact h _ (mem_srcs.mpr ⟨m',hm',s,hs,rfl⟩)
theorem end_more (most:Nat) (word:String) (j:Nat):endW (ms++ex) t most word j=endW ms t most word j:=by
 unfold endW
 rw [Bk_more hm hx ht htn hmn hex,shut_more hm hx ht htn hmn hex]
theorem into_more {k:Nat} {s:List Int} {r:Nat} {tl:List Nat} (h:intoN ms (Bk ms t k) s=r::tl):(intoN (ms++ex) (Bk (ms++ex) t k) s).getD 0 0=r:=by
 have e:intoN (ms++ex) (Bk (ms++ex) t k) s=intoN ms (Bk ms t k) s++(List.range' ms.length ex.length).filter fun i=>stepB (Bk ms t k) s ((ms++ex).getD i ([],[])):=by
  rw [Bk_more hm hx ht htn hmn hex]
  unfold intoN
  rw [List.length_append,List.range_eq_range',List.range_eq_range',← List.range'_append_1,List.filter_append,Nat.zero_add]
  congr 1
  refine List.filter_congr fun i hi=>?_
  have hi:i<ms.length:=by simpa using hi
  rw [List.getD_eq_getElem?_getD,List.getD_eq_getElem?_getD,List.getElem?_append_left hi]
 rw [e,h]; rfl
theorem row_more:∀ (k:Nat) (s:List Int),s.length=n→lifB s (Bk ms t k)=true→(∀ i,i<k→lifB s (Bk ms t i)=false)→rowF (ms++ex) t k s=rowF ms t k s
 | 0,_,_,_,_=>rfl
 | k+1,s,hs,h1,h0=>by
  obtain ⟨r,tl,e,hr,hst⟩:=into_some ht hs h1 (h0 k (Nat.lt_succ_self k))
  have hmm:ms.getD r ([],[])∈ms:=by rw [List.getD_eq_getElem?_getD]; simp [hr]
  unfold rowF
  rw [into_more hm hx ht htn hmn hex e,e]
  show (r:Int)::rowF (ms++ex) t k (behL s ((ms++ex).getD r ([],[])))=(r:Int)::rowF ms t k (behL s (ms.getD r ([],[])))
  have eg:(ms++ex).getD r ([],[])=ms.getD r ([],[]):=by rw [List.getD_eq_getElem?_getD,List.getD_eq_getElem?_getD,List.getElem?_append_left hr]
  rw [eg]
  have hst':=hst
  unfold stepB at hst'
  rw [Bool.and_eq_true] at hst'
  rw [row_more k _ (by rw [behL_len]; exact hs) hst'.2 fun i hi=>?_]
  cases q:lifB (behL s (ms.getD r ([],[]))) (Bk ms t i) with
  | false=>rfl
  | true=>
   have hl:lifB s (Bk ms t (i+1))=true:=by
    rw [lif_succ ht i hs,Bool.or_eq_true_iff]
    refine .inr (List.any_eq_true.mpr ⟨_,hmm,?_⟩)
    unfold stepB
    rw [hst'.1,q]; rfl
   rw [h0 (i+1) (by omega)] at hl; cases hl
theorem cov_more {b:List Int} (hb:b.length=n) {most:Nat} {w w':W} (h:covP ms b t most w) (h':covP (ms++ex) b t most w'):w'=w:=by
 obtain ⟨j,a,c⟩:=h
 obtain ⟨j',a',c'⟩:=h'
 have hBk:=Bk_more hm hx ht htn hmn hex
 have hend:=end_more hm hx ht htn hmn hex most "wall"
 simp only [hBk,hend] at a' c'
 have hj:j=j':=by
  rcases Nat.lt_trichotomy j j' with q | q | q
  ·obtain ⟨x,y⟩:=a' j q
   rcases c with ⟨p,_⟩ | ⟨_,p,_⟩
   ·rw [x] at p; cases p
   ·exact absurd y p
  ·exact q
  ·obtain ⟨x,y⟩:=a j' q
   rcases c' with ⟨p,_⟩ | ⟨_,p,_⟩
   ·rw [x] at p; cases p
   ·exact absurd y p
 subst hj
 rcases c with ⟨p,e⟩ | ⟨p,q,e⟩
 ·rcases c' with ⟨p',e'⟩ | ⟨p',_,_⟩
  ·rw [e,e',row_more hm hx ht htn hmn hex j b hb p fun i hi=>(a i hi).1]
  ·rw [p] at p'; cases p'
 ·rcases c' with ⟨p',_⟩ | ⟨_,_,e'⟩
  ·rw [p] at p'; cases p'
  ·rw [e,e']
theorem eno_more {most:Nat} {w w':W} (h:∃ j,w=endW ms t most "basis" j∧w≠.non∧∀ i,i<j→endW ms t most "basis" i=.non) (h':∃ j,w'=endW (ms++ex) t most "basis" j∧w'≠.non∧∀ i,i<j→endW (ms++ex) t most "basis" i=.non):w'=w:=by
 obtain ⟨j,e,a,c⟩:=h
 obtain ⟨j',e',a',c'⟩:=h'
 have hend:=end_more hm hx ht htn hmn hex most "basis"
 simp only [hend] at e' c'
 have hj:j=j':=by
  rcases Nat.lt_trichotomy j j' with q | q | q
  ·have:=c' j q
   rw [← e] at this; exact absurd this a
  ·exact q
  ·have:=c j' q
   rw [← e'] at this; exact absurd this a'
 subst hj
 rw [e,e']
end
def nn (xs:List Int):Prop:=∀ x∈xs,0≤x
theorem nn_at {xs:List Int} (h:nn xs) (k:Nat):0≤xs.getD k 0:=by
 by_cases hk:k<xs.length
 ·exact memD h hk
 ·rw [List.getD_eq_getElem?_getD]; simp [hk]
theorem paired_all {α:Type} {q:α→Int→Prop} {P:Int→Prop} (h:∀ a z,q a z→P z):∀ {as:List α} {zs:List Int},Paired q as zs→∀ z∈zs,P z
 | _,_,.nil=>by simp
 | _,_,.cons a r=>fun z hz=>by
  rcases List.mem_cons.mp hz with e | e
  ·subst e; exact h _ _ a
  ·exact paired_all h r z e
theorem count_ok {x k:Int} (hx:0≤x):Ok (f__law_count [.int x,.int k]) fun w=>∃ z:Int,w=.int z∧0≤z:=by
 exists rpB,m__law_count
 refine ok_end (po_ifs (fun h=>?_) (fun h=>?_))
 ·exists rp18
  exact ⟨_,rfl,by omega⟩
 exists rp18
 exact ⟨_,rfl,Int.mul_nonneg (by omega) (by omega)⟩
theorem cut_n {xs:List Int} {n:Nat} (hl:8≤xs.length) (h4:n≤4):(cutI xs none (some (n:Int))).length=n∧(cutI xs (some 4) (some (4+(n:Int)))).length=n:=by
 have e:(some (4+(n:Int)))=some (((4+n:Nat)):Int):=by push_cast; rfl
 rw [e]
 unfold cutI
 rw [HT.sIx_nat,HT.sIx_nat,show (some (4:Int))=some ((4:Nat):Int) from rfl,HT.sIx_nat,HT.sIx_none,List.length_take,List.length_drop,List.length_take,List.length_drop]
 omega
theorem moves_ok {ns:List Int} {n:Nat} {k:Int} (h1:1≤n) (h4:n≤4):Ok (f__law_moves [.scr (ns.map W.int),.int (n:Int),.int k]) fun w=>∃ ms:List Mv,w=tM_ ms∧(∀ m∈ms,okM n m)∧(∀ m∈ms,nn m.1)∧1≤ms.length∧ms.length≤4:=by
 obtain ⟨_,e1,c1,rfl⟩:=cell_ok (ns:=ns) (k:=1) (by omega)
 obtain ⟨_,e0,c0,rfl⟩:=cell_ok (ns:=ns) (k:=0) (by omega)
 obtain ⟨_,e9,c9,rfl⟩:=cell_ok (ns:=ns) (k:=2) (by omega)
 have at9:=ixmod (n:=n) (i:=c9) (by omega)
 exists rpB,m__law_moves,e1
 refine ok_end (po_fors (fun i ρ=>∃ (ms:List Mv) (a b c d e:Sl),ρ = [.par (.scr (ns.map W.int)),.par (.int n),.par (.int k),.own (ms.map mW),a,b,c,d,e]∧(∀ m∈ms,okM n m)∧(∀ m∈ms,nn m.1)∧ms.length=i) ⟨[],_,_,_,_,_,rfl,by simp,by simp,rfl⟩ ?_ ?_)
 ·rintro i w ρ hw ⟨ms,a,b,c,d,e,rfl,hms,hmn,hml⟩
  obtain ⟨hi,rfl⟩:=rng_at hw
  obtain ⟨_,e2,c2,rfl⟩:=cell_ok (ns:=ns) (k:=5+(i:Int)) (by omega)
  obtain ⟨_,e3,xs,rfl,hxl,hxs⟩:=stream_ok (c:=c2) (sa:=2+(i:Int)) (n:=8) (by omega) (by omega) (by omega) (by omega)
  have hxl:xs.length=8:=hxl
  obtain ⟨l1,l2⟩:=cut_n (xs:=xs) (n:=n) (by omega) h4
  refine ⟨_,rfl,?_⟩
  exists e2,e3
  refine po_sets ?_
  refine ok_comp (fun _ z=>0≤z) (by omega) ?_ ?_
  ·intro x hx
   have:=(cutI_mem hxs x hx).1
   refine ⟨_,rfl,?_⟩
   exists rp18
   exact count_ok this
  intro t ht
  have htn:nn t:=paired_all (P:=fun z=>0≤z) (fun _ _ h=>h) ht
  replace ht:=Paired.length ht
  exists rp18
  refine po_sets ?_
  refine ok_comp (fun _ z=>0≤z) (by omega) ?_ ?_
  ·intro x hx
   have:=(cutI_mem hxs x hx).1
   refine ⟨_,rfl,?_⟩
   exists rp18
   exact count_ok this
  intro p hp
  replace hp:=Paired.length hp
  have htl:t.length=n:=by omega
  have hpn:p.length=n:=by omega
  exists e9,e0
  refine po_cut (fun ρ=>∃ (p:List Int) (a:Sl),ρ = [.par (.scr (ns.map W.int)),.par (.int n),.par (.int k),.own (ms.map mW),a,.own (xs.map W.int),.own (t.map W.int),.own (p.map W.int),.val (.int (c9%(n:Int)))]∧p.length=n) ?_ ?_
  ·refine po_if (fun h=>?_) (fun h=>?_)
   ·exists rp18
    exact ⟨_,_,rfl,by rw [List.length_set]; exact hpn⟩
   ·exists rp18
    exact ⟨p,_,rfl,hpn⟩
  rintro ρ ⟨p,a,rfl,hpn⟩
  exists rp18
  refine ⟨ms ++ [(t,p)],_,_,_,_,_,by rw [List.map_append]; rfl,fun m hm=>?_,fun m hm=>?_,by simp [hml]⟩
  ·rcases List.mem_append.mp hm with h | h
   ·exact hms m h
   ·rw [List.mem_singleton.mp h]; exact ⟨htl,hpn⟩
  ·rcases List.mem_append.mp hm with h | h
   ·exact hmn m h
   ·rw [List.mem_singleton.mp h]; exact htn
 ·rintro ρ ⟨ms,a,b,c,d,e,rfl,hms,hmn,hml⟩
  rw [List.length_map,List.length_range] at hml
  exists rp18
  exact ⟨ms,rfl,hms,hmn,by omega,by omega⟩
def apS (a b:Option Sl) (r:R W) (i j:Nat) (ρ:Rho):R Fl:=match a,b with
 | some (.own us),some (.own ws)=>r>>=fun k=>(match k with
  | .int z=>if i≠j∧0≤z∧z<ws.length∧ws.length≤1000∧us.length<1000 then .ok (.nx ((ρ.set j (.own (ws.eraseIdx z.toNat))).set i (.own (us ++ [ws.getD z.toNat .non])))) else .stuck
  | _=>.stuck)
 | _,_=>.stuck
theorem mAppPop_ap (i j:Nat) (mk:Rho→R W) (ρ:Rho):mAppPop i j mk ρ=apS (ρ[i]?) (ρ[j]?) (mk ρ) i j ρ:=rfl
abbrev nI (l:List Nat):List W:=l.map fun k=>W.int (k:Nat)
theorem apS_ok {us ws:List Nat} {z:Int} {i j:Nat} {ρ:Rho} (h:i≠j∧0≤z∧z<ws.length∧ws.length≤1000∧us.length<1000):apS (some (.own (nI us))) (some (.own (nI ws))) (.ok (.int z)) i j ρ=.ok (.nx ((ρ.set j (.own (nI (ws.eraseIdx z.toNat)))).set i (.own (nI (us ++ [ws.getD z.toNat 0]))))):=by
 have h':i≠j∧0≤z∧z<(nI ws).length∧(nI ws).length≤1000∧(nI us).length<1000:=by simpa using h
 show (if _ then _ else _)=_
 rw [if_pos h']
 have e1:(nI ws).eraseIdx z.toNat=nI (ws.eraseIdx z.toNat):=by
  rw [List.eraseIdx_eq_take_drop_succ,List.eraseIdx_eq_take_drop_succ]
  simp [nI]
 have e2:(nI ws).getD z.toNat .non=W.int ((ws.getD z.toNat 0:Nat):Int):=by
  rw [List.getD_eq_getElem?_getD,List.getD_eq_getElem?_getD,List.getElem?_map]
  have:z.toNat<ws.length:=by omega
  simp [this]
 rw [e1,e2]
 simp [nI]
theorem order_ok {c:Int} {n:Nat} (h1:1≤n) (h4:n≤4):Ok (f__law_order [.int c,.int (n:Int)]) fun w=>∃ os:List Nat,w=.lst (nI os)∧os.Perm (List.range n):=by
 have e0:fLrng [.int (n:Int)]=.ok (.lst (nI (List.range n))):=by
  rw [fLrng_i (by omega),Int.toNat_natCast]
 exists rpB,m__law_order,e0
 refine ok_end (po_fors (fun i ρ=>∃ (os L:List Nat) (c:Int) (x0 a:Sl),ρ = [x0,.par (.int n),.own (nI L),.own (nI os),a]∧(x0=.val (.int c)∨x0=.par (.int c))∧(os++L).Perm (List.range n)∧os.length=i) ⟨[],List.range n,c,_,_,rfl,.inr rfl,List.Perm.refl _,rfl⟩ ?_ ?_)
 ·rintro i u ρ hu ⟨os,L,c',x0,a,rfl,hx,hp,hl⟩
  obtain ⟨hi,rfl⟩:=rng_at hu
  have hLl:L.length=n-i:=by
   have:=hp.length_eq
   rw [List.length_append,List.length_range] at this
   omega
  have hpos:0<(L.length:Int):=by omega
  have q0:=Int.emod_nonneg c' (show (L.length:Int)≠0 by omega)
  have q1:=Int.emod_lt_of_pos c' hpos
  have em:=mod_ii (i:=c') hpos
  have ea:=fun ρ=>apS_ok (us:=os) (ws:=L) (z:=c'%(L.length:Int)) (i:=3) (j:=2) (ρ:=ρ) ⟨by decide,q0,q1,by omega,by omega⟩
  have hz:(c'%(L.length:Int)).toNat<L.length:=by omega
  generalize hzz:(c'%(L.length:Int)).toNat=z at ea hz
  have hperm:(os ++ [L.getD z 0]++L.eraseIdx z).Perm (os++L):=by
   rw [List.append_assoc]
   refine List.Perm.append_left os ?_
   have e:L.getD z 0=L[z]:=by simp [List.getD_eq_getElem?_getD,hz]
   rw [e,List.eraseIdx_eq_take_drop_succ]
   have e2:L=L.take z++L[z]::L.drop (z+1):=by rw [← List.drop_eq_getElem_cons hz,List.take_append_drop]
   conv=>rhs; rw [e2]
   show (L[z]::(L.take z++L.drop (z+1))).Perm _
   exact List.perm_middle.symm
  refine ⟨_,rfl,?_⟩
  rcases hx with rfl | rfl
  ·exists mAppPop_ap,em,ea
   exact ⟨os ++ [L.getD z 0],L.eraseIdx z,_,_,_,rfl,.inl rfl,hperm.trans hp,by simp [hl]⟩
  ·exists mAppPop_ap,em,ea
   exact ⟨os ++ [L.getD z 0],L.eraseIdx z,_,_,_,rfl,.inl rfl,hperm.trans hp,by simp [hl]⟩
 ·rintro ρ ⟨os,L,c',x0,a,rfl,hx,hp,hl⟩
  rw [List.length_map,List.length_range] at hl
  have hL:L = []:=by
   have:=hp.length_eq
   rw [List.length_append,List.length_range] at this
   exact List.length_eq_zero_iff.mp (by omega)
  subst hL
  rw [List.append_nil] at hp
  exists rp18
  exact ⟨os,rfl,hp⟩
theorem scaled_ok {a:List Int} {f:Int} (h6:a.length≤6) (hf:0<f∧f≤1000000000):f__law_scaled [tI a,.int f]=.ok (tI (scl f a)):=by
 have e:∀ N mg me ρ (h:∀ x∈a,∃ ρ1,mg (.int x) (ρ++List.replicate (N-ρ.length) Sl.un)=some ρ1∧me ρ1=.ok (.int (x*f))),mComp N mg yes me (a.map W.int) ρ=.ok (lI (scl f a)):=fun N mg me ρ h=>by
  rw [mComp_all (fun x=>.int (x*f)) W.int a ρ (by omega) h]
  unfold lI scl
  rw [List.map_map]; rfl
 exists rpB,m__law_scaled
 rw [e]
 ·exists rp18
 ·intro x hx
  refine ⟨_,rfl,?_⟩
  exists rp18
theorem putso_ok {a:List Int} {os:List Nat} (h6:os.length≤6) (ho:∀ k∈os,k<a.length):f__law_put_so [tI a,.lst (nI os)]=.ok (tI (pms os a)):=by
 have e:∀ N mg me ρ (h:∀ k∈os,∃ ρ1,mg (.int (k:Nat)) (ρ++List.replicate (N-ρ.length) Sl.un)=some ρ1∧me ρ1=.ok (.int (a.getD k 0))),mComp N mg yes me (nI os) ρ=.ok (lI (pms os a)):=fun N mg me ρ h=>by
  rw [mComp_all (fun k=>.int (a.getD k 0)) (fun k=>W.int (k:Nat)) os ρ (by omega) h]
  unfold lI pms
  rw [List.map_map]; rfl
 exists rpB,m__law_put_so
 rw [e]
 ·exists rp18
 ·intro k hk
  have:=ho k hk
  refine ⟨_,rfl,?_⟩
  exists rp18
theorem allF_comp {ms:List Mv} {φ:List Int→List Int} (hml:ms.length≤8) {N:Nat} {mg:W→Rho→Option Rho} {me:Rho→R W} {ρ:Rho} (h:∀ m∈ms,∃ ρ1,mg (mW m) (ρ++List.replicate (N-ρ.length) Sl.un)=some ρ1∧me ρ1=.ok (mW (mvF φ m))):mComp N mg yes me (ms.map mW) ρ=.ok (.lst ((ms.map (mvF φ)).map mW)):=by
 rw [mComp_all (fun m=>mW (mvF φ m)) mW ms ρ (by omega) h,List.map_map]; rfl
theorem allscaled_ok {n:Nat} {ms:List Mv} {f:Int} (h6:n≤6) (hm:∀ m∈ms,okM n m) (hml:ms.length≤8) (hf:0<f∧f≤1000000000):f__law_all_scaled [tM_ ms,.int f]=.ok (tM_ (ms.map (mvF (scl f)))):=by
 exists rpB,m__law_all_scaled
 rw [allF_comp (φ:=scl f) hml]
 ·exists chkT_no (noLs_M (ms.map (mvF (scl f))))
 ·intro m hmm
  have a0:L2.atI [tI m.1,tI m.2] 0=some (tI m.1):=rfl
  have a1:L2.atI [tI m.1,tI m.2] 1=some (tI m.2):=rfl
  have k1:=scaled_ok (a:=m.1) (f:=f) (by rw [(hm m hmm).1]; exact h6) hf
  have k2:=scaled_ok (a:=m.2) (f:=f) (by rw [(hm m hmm).2]; exact h6) hf
  refine ⟨_,rfl,?_⟩
  exists a0,a1,k1,k2
theorem allput_ok {n:Nat} {ms:List Mv} {os:List Nat} (h6:n≤6) (hm:∀ m∈ms,okM n m) (hml:ms.length≤8) (hp:os.Perm (List.range n)):f__law_all_put_so [tM_ ms,.lst (nI os)]=.ok (tM_ (ms.map (mvF (pms os)))):=by
 have ol:os.length=n:=by rw [hp.length_eq,List.length_range]
 have ho:∀ k∈os,k<n:=fun k hk=>List.mem_range.mp (hp.mem_iff.mp hk)
 exists rpB,m__law_all_put_so
 rw [allF_comp (φ:=pms os) hml]
 ·exists chkT_no (noLs_M (ms.map (mvF (pms os))))
 ·intro m hmm
  have a0:L2.atI [tI m.1,tI m.2] 0=some (tI m.1):=rfl
  have a1:L2.atI [tI m.1,tI m.2] 1=some (tI m.2):=rfl
  have k1:=putso_ok (a:=m.1) (os:=os) (by omega) fun k hk=>by rw [(hm m hmm).1]; exact ho k hk
  have k2:=putso_ok (a:=m.2) (os:=os) (by omega) fun k hk=>by rw [(hm m hmm).2]; exact ho k hk
  refine ⟨_,rfl,?_⟩
  exists a0,a1,k1,k2
theorem more_ok {n:Nat} {ms:List Mv} {c:Int} (h1:1≤n) (h6:n≤6) (hm:∀ m∈ms,okM n m) (hm1:1≤ms.length) (hml:ms.length≤4):Ok (f__law_more_moves [tM_ ms,.int (n:Int),.int c]) fun w=>∃ ex:List Mv,w=tM_ (ms++ex)∧ex.length≤4∧(∀ m∈ex,okM n m)∧∀ m∈ex,m∈ms∨∀ k,m.1.getD k 0=0∧m.2.getD k 0=0:=by
 have hpos:0<(ms.length:Int):=by omega
 have q0:=Int.emod_nonneg (c/8) (show (ms.length:Int)≠0 by omega)
 have q1:=Int.emod_lt_of_pos (c/8) hpos
 have em:=mod_ii (i:=c/8) hpos
 have eM:=at_map mW (as:=ms) (d:=([],[])) (i:=c/8%(ms.length:Int)) ⟨q0,q1⟩
 have hmm:ms.getD (c/8%(ms.length:Int)).toNat ([],[])∈ms:=by
  have:(c/8%(ms.length:Int)).toNat<ms.length:=by omega
  rw [List.getD_eq_getElem?_getD]; simp [this]
 generalize ms.getD (c/8%(ms.length:Int)).toNat ([],[])=md at eM hmm
 have cm:=chk_no (noL_mW md)
 exists rpB,m__law_more_moves,chks_no (noLs_M ms)
 refine ok_end (po_fors (fun i ρ=>∃ (ex:List Mv) (a:Sl),ρ = [.par (tM_ ms),.par (.int n),.par (.int c),.own ((ms++ex).map mW),.val (tI (List.replicate n 0)),a]∧ex.length=i∧(∀ m∈ex,okM n m)∧∀ m∈ex,m∈ms∨∀ k,m.1.getD k 0=0∧m.2.getD k 0=0) ⟨[],.un,by simp,rfl,by simp,by simp⟩ ?_ ?_)
 ·rintro i u ρ hu ⟨ex,a,rfl,hel,heo,hez⟩
  obtain ⟨hi,rfl⟩:=rng_at hu
  have hl8:((ms++ex).map mW).length<1000:=by simp; omega
  refine ⟨_,rfl,?_⟩
  exists rp18
  refine po_if (fun h=>?_) (fun h=>?_)
  ·exists rp18
   refine ⟨ex ++ [(List.replicate n 0,List.replicate n 0)],.par (.int (i:Nat)),by simp,by simp [hel],fun m hm'=>?_,fun m hm'=>?_⟩
   ·rcases List.mem_append.mp hm' with h | h
    ·exact heo m h
    ·rw [List.mem_singleton.mp h]; exact ⟨by simp,by simp⟩
   ·rcases List.mem_append.mp hm' with h | h
    ·exact hez m h
    ·rw [List.mem_singleton.mp h]
     refine .inr fun k=>?_
     have:(List.replicate n (0:Int)).getD k 0=0:=by
      rw [List.getD_eq_getElem?_getD,List.getElem?_replicate]; split <;> rfl
     exact ⟨this,this⟩
  ·exists em,eM,cm
   refine ⟨ex ++ [md],.par (.int (i:Nat)),by simp,by simp [hel],fun m hm'=>?_,fun m hm'=>?_⟩
   ·rcases List.mem_append.mp hm' with h | h
    ·exact heo m h
    ·rw [List.mem_singleton.mp h]; exact hm md hmm
   ·rcases List.mem_append.mp hm' with h | h
    ·exact hez m h
    ·rw [List.mem_singleton.mp h]; exact .inl hmm
 ·rintro ρ ⟨ex,a,rfl,hel,heo,hez⟩
  rw [List.length_map,List.length_range] at hel
  exists chkT_no (noLs_M (ms++ex))
  exact ⟨ex,rfl,by omega,heo,hez⟩
theorem sh_str {x:Str} (h:PyData.strOk x=true):shp 8 (.str x)=true:=h
theorem same_ok {n:Nat} {φ:List Int→List Int} (E:Equi n φ) {most:Nat} {word:String} {w w' v:W} {form:Int} (hw:word = "wall" ∨ word = "basis") (h6:most≤6) (h:RelA n φ most word w w')
  (hφ:(form=0∧∀ B:List (List Int),Bas n B→B.length≤6→minB (B.map φ)=B.map φ∧∀ b∈B,f__law_scaled [tI b,v]=.ok (tI (φ b)))∨(form=1∧1≤n∧∀ b:List Int,b.length=n→f__law_put_so [tI b,v]=.ok (tI (φ b)))):f__law_same [w,w',.int form,v]=.ok (.bl true):=by
 rcases h with ⟨rs,rfl,rfl⟩ | ⟨j,rfl,rfl⟩ | ⟨B,hB,hBl,rfl,rfl⟩
 ·have b0:L2.atI [W.str "row",lI rs] 0=some (W.str "row"):=rfl
  have b1:L2.atI [W.str "row",lI rs] 1=some (lI rs):=rfl
  have s0:fEq true (W.str "row") (W.str "row")=.ok (.bl false):=fEq_self (sh_str ok_row)
  have s1:fEqS false (W.str "row") (W.str "row")=.ok (.bl true):=rfl
  have s2:fEq false (lI rs) (lI rs)=.ok (.bl true):=by rw [fEq_lI]; simp
  exists rpB,m__law_same,b0,b1,s0,s1,s2
 ·have b0:L2.atI [W.str "open",W.int (j:Int)] 0=some (W.str "open"):=rfl
  have b1:L2.atI [W.str "open",W.int (j:Int)] 1=some (.int (j:Int)):=rfl
  have s0:fEq true (W.str "open") (W.str "open")=.ok (.bl false):=fEq_self (sh_str ok_open)
  have s1:fEqS false (W.str "open") (W.str "row")=.ok (.bl false):=rfl
  have s2:fEqS false (W.str "open") (W.str "open")=.ok (.bl true):=rfl
  have s3:fEq false (W.int (j:Int)) (W.int (j:Int))=.ok (.bl true):=by rw [fEq_ii]; simp
  exists rpB,m__law_same,b0,b1,s0,s1,s2,s3
 ·have c0:L2.atI [W.str word,lS B] 0=some (W.str word):=rfl
  have c1:L2.atI [W.str word,lS B] 1=some (lS B):=rfl
  have d0:L2.atI [W.str word,lS (minB (B.map φ))] 0=some (W.str word):=rfl
  have d1:L2.atI [W.str word,lS (minB (B.map φ))] 1=some (lS (minB (B.map φ))):=rfl
  have s0:fEq true (W.str word) (W.str word)=.ok (.bl false):=by
   rcases hw with rfl | rfl
   ·exact fEq_self (sh_str ok_wall)
   ·exact fEq_self (sh_str ok_basis)
  have s1:fEqS false (W.str word) (W.str "row")=.ok (.bl false):=by rcases hw with rfl | rfl <;> rfl
  have s2:fEqS false (W.str word) (W.str "open")=.ok (.bl false):=by rcases hw with rfl | rfl <;> rfl
  have e:∀ N mg me ρ (h:∀ b∈B,∃ ρ1,mg (tI b) (ρ++List.replicate (N-ρ.length) Sl.un)=some ρ1∧me ρ1=.ok (tI (φ b))),mComp N mg yes me (B.map tI) ρ=.ok (lS (B.map φ)):=fun N mg me ρ h=>by
   rw [mComp_all (fun b=>tI (φ b)) tI B ρ (by omega) h]
   unfold lS
   rw [List.map_map]; rfl
  rcases hφ with ⟨rfl,hφ⟩ | ⟨rfl,h1,hφ⟩
  ·obtain ⟨hmin,hsc⟩:=hφ B hB (by omega)
   have s3:fEq false (lS (B.map φ)) (lS (B.map φ))=.ok (.bl true):=by rw [fEq_lS]; simp
   rw [hmin] at d0 d1 ⊢
   generalize B.map φ=C at *
   exists rpB,m__law_same,c0,d0,c1,d1,s0,s1,s2
   rw [e]
   ·exists s3
   ·intro b hb
    have k:=hsc b hb
    refine ⟨_,rfl,?_⟩
    exists k
  ·have ks:=sort_pms E hB
   have kf:fSort [lS (B.map φ)]=.ok (lS (sortL (B.map φ))):=fSort_S (by rw [List.length_map]; omega) fun z hz e=>by
    have:=map_len E hB.len z hz
    rw [e] at this; simp at this; omega
   rw [ks] at kf
   have s3:fEq false (lS (minB (B.map φ))) (lS (minB (B.map φ)))=.ok (.bl true):=by rw [fEq_lS]; simp
   generalize minB (B.map φ)=D at *
   exists rpB,m__law_same,c0,d0,c1,d1,s0,s1,s2
   rw [e]
   ·generalize B.map φ=C at *
    exists kf,s3
   ·intro b hb
    have k:=hφ b (hB.len b hb)
    refine ⟨_,rfl,?_⟩
    exists k
theorem isn_rel {n:Nat} {φ:List Int→List Int} {most:Nat} {w w' z z':W} (h:RelA n φ most "wall" w w') (e:f_is_never [w]=.ok z) (e':f_is_never [w']=.ok z'):z'=z∧(z=.non∨∃ x,z=.bl x):=by
 rcases h with ⟨rs,rfl,rfl⟩ | ⟨j,rfl,rfl⟩ | ⟨B,_,_,rfl,rfl⟩
 ·have b0:L2.atI [W.str "row",lI rs] 0=some (W.str "row"):=rfl
  have s1:fEqS false (W.str "row") (W.str "open")=.ok (.bl false):=rfl
  have s2:fEqS false (W.str "row") (W.str "wall")=.ok (.bl false):=rfl
  have k:f_is_never [.tup [.str "row",lI rs]]=.ok (.bl false):=by
   exists rpB,m_is_never,b0,s1,s2
  rw [k] at e e'; cases e; cases e'
  exact ⟨rfl,.inr ⟨_,rfl⟩⟩
 ·have b0:L2.atI [W.str "open",W.int (j:Int)] 0=some (W.str "open"):=rfl
  have s1:fEqS false (W.str "open") (W.str "open")=.ok (.bl true):=rfl
  have k:f_is_never [.tup [.str "open",.int (j:Int)]]=.ok .non:=by
   exists rpB,m_is_never,b0,s1
  rw [k] at e e'; cases e; cases e'
  exact ⟨rfl,.inl rfl⟩
 ·have s1:fEqS false (W.str "wall") (W.str "open")=.ok (.bl false):=rfl
  have s2:fEqS false (W.str "wall") (W.str "wall")=.ok (.bl true):=rfl
  have k:∀ L:List (List Int),f_is_never [.tup [.str "wall",lS L]]=.ok (.bl true):=fun L=>by
   have b0:L2.atI [W.str "wall",lS L] 0=some (W.str "wall"):=rfl
   exists rpB,m_is_never,b0,s1,s2
  rw [k] at e e'; cases e; cases e'
  exact ⟨rfl,.inr ⟨_,rfl⟩⟩
theorem isn_ok {n:Nat} {ms:List Mv} {b t:List Int} {most:Nat} {w:W} (hb:b.length=n) (ht:t.length=n) (h:covP ms b t most w):∃ z,f_is_never [w]=.ok z:=by
 rcases cov_class hb ht h with ⟨j,rfl,q⟩ | ⟨L,rfl,q⟩ | ⟨z,rfl,q⟩
 ·have b0:L2.atI [W.str "row",lI (rowF ms t j b)] 0=some (W.str "row"):=rfl
  have s1:fEqS false (W.str "row") (W.str "open")=.ok (.bl false):=rfl
  have s2:fEqS false (W.str "row") (W.str "wall")=.ok (.bl false):=rfl
  refine ⟨.bl false,?_⟩
  exists rpB,m_is_never,b0,s1,s2
 ·have b0:L2.atI [W.str "wall",lS L] 0=some (W.str "wall"):=rfl
  have s1:fEqS false (W.str "wall") (W.str "open")=.ok (.bl false):=rfl
  have s2:fEqS false (W.str "wall") (W.str "wall")=.ok (.bl true):=rfl
  refine ⟨.bl true,?_⟩
  exists rpB,m_is_never,b0,s1,s2
 ·have b0:L2.atI [W.str "open",W.int z] 0=some (W.str "open"):=rfl
  have s1:fEqS false (W.str "open") (W.str "open")=.ok (.bl true):=rfl
  refine ⟨.non,?_⟩
  exists rpB,m_is_never,b0,s1
def nevP (ms:List Mv) (b:List Int) (most:Nat) (m:Mv) (w:W):Prop:=∃ w0,f_is_never [w0]=.ok w∧covP ms b m.1 most w0
theorem never_ok {n:Nat} {ms:List Mv} {b:List Int} {most:Nat} (h1:1≤n) (h6:n≤6) (hm:∀ m∈ms,okM n m) (hml:ms.length≤8) (hb:b.length=n) (hmo:most≤6):Ok (f_never [.tup [tI b,tM_ ms],.int (most:Int)]) fun w=>∃ zs:List W,w=.lst zs∧Paired (nevP ms b most) ms zs:=by
 have a1:L2.atI [tI b,tM_ ms] 1=some (tM_ ms):=rfl
 exists rpB,m_never,a1
 refine ok_end (po_ret ?_)
 refine ok_compf (fun w:W=>w) (nevP ms b most) (by omega) ?_ ?_
 ·intro m hmm
  have a0:L2.atI [tI m.1,tI m.2] 0=some (tI m.1):=rfl
  obtain ⟨w0,e,p⟩:=cover_ok (b:=b) (most:=most) h1 h6 hm hml hb (hm m hmm).1 hmo
  obtain ⟨z,q⟩:=isn_ok hb (hm m hmm).1 p
  refine ⟨_,rfl,?_⟩
  exists a0,e
  exact ⟨_,q,_,rfl,w0,q,p⟩
 ·intro zs hz
  exact ⟨zs,by rw [List.map_id'],hz⟩
theorem nev_rel {n:Nat} {φ:List Int→List Int} (E:Equi n φ) {ms:List Mv} {b:List Int} (hm:∀ m∈ms,okM n m) (h0:1≤ms.length) (hb:b.length=n) {most:Nat}:∀ {us:List Mv} {zs zs':List W},(∀ m∈us,m∈ms)→Paired (nevP ms b most) us zs→Paired (nevP (ms.map (mvF φ)) (φ b) most) (us.map (mvF φ)) zs'→zs'=zs∧∀ z∈zs,z=.non∨∃ x,z=.bl x
 | _,_,_,_,.nil,.nil=>⟨rfl,by simp⟩
 | m::us,z::zs,z'::zs',hu,.cons ⟨w0,e,p⟩ r,.cons ⟨w0',e',p'⟩ r'=>by
  obtain ⟨i1,i2⟩:=nev_rel E hm h0 hb (fun m h=>hu m (List.mem_cons_of_mem _ h)) r r'
  obtain ⟨j1,j2⟩:=isn_rel (cov_rel E hm h0 hb (hm m (hu m List.mem_cons_self)).1 p p') e e'
  refine ⟨by rw [j1,i1],fun y hy=>?_⟩
  rcases List.mem_cons.mp hy with h | h
  ·rw [h]; exact j2
  ·exact i2 y h
theorem sh_zs {zs:List W} (h:∀ z∈zs,z=.non∨∃ x,z=.bl x):shp 8 (.lst zs)=true:=by
 show shps 7 zs=true
 induction zs with
 | nil=>rfl
 | cons z zs ih=>
  show (shp 7 z&&shps 7 zs)=true
  rw [ih fun y hy=>h y (List.mem_cons_of_mem _ hy),Bool.and_true]
  rcases h z List.mem_cons_self with rfl | ⟨x,rfl⟩ <;> rfl
theorem sh_ans {n:Nat} {φ:List Int→List Int} {most:Nat} {word:String} {w w':W} (hw:word = "wall" ∨ word = "basis") (h:RelA n φ most word w w'):shp 8 w=true∧isN w=false:=by
 rcases h with ⟨rs,rfl,_⟩ | ⟨j,rfl,_⟩ | ⟨B,_,_,rfl,_⟩
 ·refine ⟨?_,rfl⟩
  show (PyData.strOk "row" && (shps 6 (rs.map W.int)&&true))=true
  rw [ok_row,shps_map W.int 6 (fun a=>shp_int 6 a) rs]; rfl
 ·refine ⟨?_,rfl⟩
  show (PyData.strOk "open" && (shp 7 (.int (j:Int))&&true))=true
  rw [ok_open,shp_int]; rfl
 ·refine ⟨?_,rfl⟩
  show (PyData.strOk word&&(shps 6 (B.map tI)&&true))=true
  have:shps 6 (B.map tI)=true:=shps_map tI 6 (fun b=>by
   show shps 5 (b.map W.int)=true
   exact shps_map W.int 5 (fun a=>shp_int 5 a) b) B
  rw [this]
  rcases hw with rfl | rfl
  ·rw [ok_wall]; rfl
  ·rw [ok_basis]; rfl
theorem law_pure (ns:List Int) (h:ns.length≤63):f_law [.scr (ns.map W.int)]=.ok (.bl true):=by
 have fin:Ok (f_law [.scr (ns.map W.int)]) fun v=>v=.bl true:=by
  obtain ⟨_,e0,c0,rfl⟩:=cell_ok (ns:=ns) (k:=0) (by omega)
  obtain ⟨_,e2,c2,rfl⟩:=cell_ok (ns:=ns) (k:=2) (by omega)
  obtain ⟨_,e3,c3,rfl⟩:=cell_ok (ns:=ns) (k:=3) (by omega)
  obtain ⟨_,e4,c4,rfl⟩:=cell_ok (ns:=ns) (k:=4) (by omega)
  obtain ⟨n,hn⟩:∃ n:Nat,1+c0%4=(n:Int):=⟨(1+c0%4).toNat,by omega⟩
  have h1:1≤n:=by omega
  have h4:n≤4:=by omega
  obtain ⟨_,k0,ms,rfl,hm,hmn,hm1,hml⟩:=moves_ok (ns:=ns) (k:=c0/4%2) h1 h4
  obtain ⟨_,k1,xs,rfl,hxl,hxs⟩:=stream_ok (c:=c3) (sa:=20) (n:=9) (by omega) (by omega) (by omega) (by omega)
  replace hxl:xs.length=9:=hxl
  obtain ⟨l1,l2⟩:=cut_n (xs:=xs) (n:=n) (by omega) h4
  have x8:=(memD (P:=fun x=>0≤x∧x<2147483647) hxs (i:=8) (by omega)).1
  obtain ⟨M,hM⟩:∃ M:Nat,1+xs.getD 8 0%6=(M:Int):=⟨(1+xs.getD 8 0%6).toNat,by omega⟩
  have hM6:M≤6:=by omega
  obtain ⟨f,hf,hf0,hf1⟩:∃ f:Int,2+c4%99999999=f∧0<f∧f≤1000000000:=⟨_,rfl,by omega,by omega⟩
  obtain ⟨_,k2,os,rfl,hos⟩:=order_ok (c:=c4) h1 h4
  have k0':=k0
  rw [← hn] at k0'
  exists rpB,m_law,e0,k0',e3,k1
  rw [hn]
  refine ok_end (po_sets (ok_tcomp (fun _ z=>0≤z) (by omega) ?_ ?_))
  ·intro x hx
   have:=(cutI_mem hxs x hx).1
   refine ⟨_,rfl,?_⟩
   exists rp18
   exact count_ok this
  intro b hb
  have hbn:nn b:=paired_all (P:=fun z=>0≤z) (fun _ _ h=>h) hb
  replace hb:b.length=n:=by have:=Paired.length hb; omega
  exists rp18
  refine po_sets (ok_tcomp (fun _ z=>0≤z) (by omega) ?_ ?_)
  ·intro x hx
   have hx0:=(cutI_mem hxs x hx).1
   obtain ⟨_,kc,z,rfl,hz⟩:=count_ok (x:=x) (k:=c0/4%2) hx0
   refine ⟨_,rfl,?_⟩
   exists kc
   exact ⟨_,rfl,_,rfl,by omega⟩
  intro t ht
  have htn:nn t:=paired_all (P:=fun z=>0≤z) (fun _ _ h=>h) ht
  replace ht:t.length=n:=by have:=Paired.length ht; omega
  have ES:Equi n (scl f):=scl_equi hf0
  have EP:Equi n (pms os):=pms_equi hos
  have ol:os.length=n:=by rw [hos.length_eq,List.length_range]
  have ho:∀ a:List Int,a.length=n→∀ k∈os,k<a.length:=fun a ha k hk=>by rw [ha]; exact List.mem_range.mp (hos.mem_iff.mp hk)
  have okS:∀ {φ:List Int→List Int},Equi n φ→∀ m∈ms.map (mvF φ),okM n m:=fun E m hmm=>by
   obtain ⟨y,hy,rfl⟩:=List.mem_map.mp hmm
   exact ⟨E.len _ (hm y hy).1,E.len _ (hm y hy).2⟩
  have lS':∀ {φ:List Int→List Int},(ms.map (mvF φ)).length≤8:=by intro φ; rw [List.length_map]; omega
  obtain ⟨w1,f1,p1⟩:=cover_ok (b:=b) (t:=t) (most:=M) h1 (by omega) hm (by omega) hb ht hM6
  obtain ⟨v1,g1,q1⟩:=enough_ok (t:=t) (most:=M) h1 (by omega) hm (by omega) ht hM6
  have s1:=allscaled_ok (n:=n) (f:=f) (by omega) hm (by omega) ⟨hf0,hf1⟩
  have s2:=scaled_ok (a:=t) (f:=f) (by omega) ⟨hf0,hf1⟩
  have s3:=scaled_ok (a:=b) (f:=f) (by omega) ⟨hf0,hf1⟩
  obtain ⟨w2,f2,p2⟩:=cover_ok (b:=scl f b) (t:=scl f t) (most:=M) h1 (by omega) (okS ES) lS' (ES.len b hb) (ES.len t ht) hM6
  obtain ⟨v2,g2,q2⟩:=enough_ok (t:=scl f t) (most:=M) h1 (by omega) (okS ES) lS' (ES.len t ht) hM6
  have t1:=allput_ok (n:=n) (os:=os) (by omega) hm (by omega) hos
  have t2:=putso_ok (a:=t) (os:=os) (by omega) (ho t ht)
  have t3:=putso_ok (a:=b) (os:=os) (by omega) (ho b hb)
  obtain ⟨w3,f3,p3⟩:=cover_ok (b:=pms os b) (t:=pms os t) (most:=M) h1 (by omega) (okS EP) lS' (EP.len b hb) (EP.len t ht) hM6
  obtain ⟨v3,g3,q3⟩:=enough_ok (t:=pms os t) (most:=M) h1 (by omega) (okS EP) lS' (EP.len t ht) hM6
  have r12:=cov_rel ES hm hm1 hb ht p1 p2
  have r13:=cov_rel EP hm hm1 hb ht p1 p3
  have u12:=eno_rel ES hm ht q1 q2
  have u13:=eno_rel EP hm ht q1 q3
  have hS:∀ B:List (List Int),Bas n B→B.length≤6→minB (B.map (scl f))=B.map (scl f)∧∀ b∈B,f__law_scaled [tI b,.int f]=.ok (tI (scl f b)):=fun B hB _=>⟨min_scl hf0 hB,fun b hb=>scaled_ok (by rw [hB.len b hb]; omega) ⟨hf0,hf1⟩⟩
  have hP:∀ b:List Int,b.length=n→f__law_put_so [tI b,.lst (nI os)]=.ok (tI (pms os b)):=fun b hb=>putso_ok (by omega) (ho b hb)
  have a12:=same_ok ES (v:=.int f) (form:=0) (.inl rfl) hM6 r12 (.inl ⟨rfl,hS⟩)
  have a13:=same_ok EP (v:=.lst (nI os)) (form:=1) (.inl rfl) hM6 r13 (.inr ⟨rfl,h1,hP⟩)
  have b12:=same_ok ES (v:=.int f) (form:=0) (.inr rfl) hM6 u12 (.inl ⟨rfl,hS⟩)
  have b13:=same_ok EP (v:=.lst (nI os)) (form:=1) (.inr rfl) hM6 u13 (.inr ⟨rfl,h1,hP⟩)
  obtain ⟨_,m1,ex,rfl,hel,hxo,hez⟩:=more_ok (c:=c2) h1 (by omega) hm hm1 hml
  have hmx:∀ m∈ms++ex,okM n m:=fun m hmm=>by
   rcases List.mem_append.mp hmm with h | h
   ·exact hm m h
   ·exact hxo m h
  obtain ⟨w4,f4,p4⟩:=cover_ok (b:=b) (t:=t) (most:=M) h1 (by omega) hmx (by simp; omega) hb ht hM6
  obtain ⟨v4,g4,q4⟩:=enough_ok (t:=t) (most:=M) h1 (by omega) hmx (by simp; omega) ht hM6
  have hw4:=cov_more hm hxo ht (nn_at htn) (fun m hmm=>nn_at (hmn m hmm)) hez hb p1 p4
  have hv4:=eno_more hm hxo ht (nn_at htn) (fun m hmm=>nn_at (hmn m hmm)) hez q1 q4
  subst hw4
  subst hv4
  have i1:fEq true w4 w4=.ok (.bl false):=fEq_self (sh_ans (.inl rfl) r12).1
  have i2:fEq true v4 v4=.ok (.bl false):=fEq_self (sh_ans (.inr rfl) u12).1
  obtain ⟨_,n1,zs,rfl,z1⟩:=never_ok (b:=b) (most:=M) h1 (by omega) hm (by omega) hb hM6
  obtain ⟨_,n2,zs2,rfl,z2⟩:=never_ok (b:=scl f b) (most:=M) h1 (by omega) (okS ES) lS' (ES.len b hb) hM6
  obtain ⟨_,n3,zs3,rfl,z3⟩:=never_ok (b:=pms os b) (most:=M) h1 (by omega) (okS EP) lS' (EP.len b hb) hM6
  obtain ⟨y2,y4⟩:=nev_rel ES hm hm1 hb (fun m h=>h) z1 z2
  obtain ⟨y3,_⟩:=nev_rel EP hm hm1 hb (fun m h=>h) z1 z3
  subst y2
  subst y3
  have j1:fEq true (.lst zs3) (.lst zs3)=.ok (.bl false):=fEq_self (sh_zs y4)
  have j2:fEq false (.lst zs3) (.lst zs3)=.ok (.bl true):=fEq_self (sh_zs y4)
  clear p1 p2 p3 p4 q1 q2 q3 q4 r12 r13 u12 u13 z1 z2 z3 y4 hS hP
  generalize ms.map (mvF (scl f))=msS at *
  generalize ms.map (mvF (pms os))=msP at *
  generalize scl f b=bS' at *
  generalize scl f t=tS at *
  generalize pms os b=bP at *
  generalize pms os t=tP at *
  generalize ms++ex=msX at *
  exists e4
  rw [hM,hf]
  exists k2,f1,g1
  exists s1,s2,s3,f2,g2
  exists t1,t2,t3,f3,g3
  have c10:L2.atI [w4,v4] ((0:Nat):Int)=some w4:=rfl
  have c11:L2.atI [w4,v4] ((1:Nat):Int)=some v4:=rfl
  have d10:L2.atI [w4,v4] 0=some w4:=rfl
  have d11:L2.atI [w4,v4] 1=some v4:=rfl
  have c20:L2.atI [w2,v2] ((0:Nat):Int)=some w2:=rfl
  have c21:L2.atI [w2,v2] ((1:Nat):Int)=some v2:=rfl
  have c30:L2.atI [w3,v3] ((0:Nat):Int)=some w3:=rfl
  have c31:L2.atI [w3,v3] ((1:Nat):Int)=some v3:=rfl
  refine po_fors (fun i ρ=>∃ (a:Sl),ρ = [.par (.scr (ns.map W.int)),.val (.int (n:Int)),.val (.int (c0/4%2)),.val (tM_ ms),.own (xs.map W.int),.val (tI b),.val (tI t),.val (.int (M:Int)),.val (.int f),.own (nI os),.own [w4,v4],.val (tM_ msS),.val (tI tP),.own [w2,v2],.val (tM_ msP),.own [w3,v3],a,.un,.un]) ⟨_,rfl⟩ ?_ ?_
  ·rintro i u ρ hu ⟨a,rfl⟩
   obtain ⟨hi,rfl⟩:=rng_at hu
   refine ⟨_,rfl,?_⟩
   obtain rfl | rfl:i=0∨i=1:=by omega
   ·exists c10,c20,c30,a12,a13
    exact ⟨_,rfl⟩
   ·exists c11,c21,c31,b12,b13
    exact ⟨_,rfl⟩
  ·rintro ρ ⟨a,rfl⟩
   exists e2,m1,f4,g4,d10,d11,i1,i2
   exists n1,s3,n2,j1,t3,n3,j2
 obtain ⟨v,e,rfl⟩:=fin
 exact e
end K27
set_option Elab.async false
set_option linter.all false
set_option maxRecDepth 100000
set_option maxHeartbeats 4000000
open PySem L2 TP
namespace K27
local macro_rules | `(tactic| trivial)=>`(tactic| first | exact Or.inl rfl | exact Or.inr rfl | exact Or.inr (Or.inl rfl) | exact Or.inr (Or.inr rfl) | assumption)
def top (i:Nat):Stmt:=PySem.Challenge.pw_tokenmoor_k27_whole_scaled_and_moved.main.body.getD i (.Pass ⟨0,0,0,0⟩)
abbrev scovers:Stmt:=top 4
abbrev sable:Stmt:=top 5
abbrev safter:Stmt:=top 6
abbrev schange:Stmt:=top 7
abbrev sleast:Stmt:=top 9
abbrev slifted:Stmt:=top 10
abbrev ssource:Stmt:=top 11
abbrev ssources:Stmt:=top 12
abbrev sstep_back:Stmt:=top 13
abbrev sis_shut:Stmt:=top 14
abbrev senough:Stmt:=top 16
abbrev scover:Stmt:=top 17
abbrev sending:Stmt:=top 18
abbrev srow_inward:Stmt:=top 19
abbrev smoves_into:Stmt:=top 20
abbrev snever:Stmt:=top 21
abbrev sis_never:Stmt:=top 22
abbrev s_law_cell_at:Stmt:=top 24
abbrev s_law_stream:Stmt:=top 25
abbrev s_law_count:Stmt:=top 26
abbrev s_law_moves:Stmt:=top 27
abbrev s_law_order:Stmt:=top 28
abbrev s_law_scaled:Stmt:=top 29
abbrev s_law_put_so:Stmt:=top 30
abbrev s_law_all_scaled:Stmt:=top 31
abbrev s_law_all_put_so:Stmt:=top 32
abbrev s_law_more_moves:Stmt:=top 33
abbrev s_law_same:Stmt:=top 34
abbrev slaw:Stmt:=top 35
structure Blt (mg:Str→Option Value):Prop where
 all_:mg "all" = none
 enumerate_:mg "enumerate" = none
 len_:mg "len" = none
 list_:mg "list" = none
 max_:mg "max" = none
 min_:mg "min" = none
 range_:mg "range" = none
 reversed_:mg "reversed" = none
 sorted_:mg "sorted" = none
 tuple_:mg "tuple" = none
 zip_:mg "zip" = none
theorem sccovers:FnScope ["stand", "other", "number", "wanted"] ["stand", "other"] (defScope scovers):=⟨rfl,rfl,rfl,by decide +kernel,rfl,by decide +kernel,by decide +kernel⟩
theorem scable:FnScope ["stand", "move"] ["stand", "move"] (defScope sable):=⟨rfl,rfl,rfl,by decide +kernel,rfl,by decide +kernel,by decide +kernel⟩
theorem scafter:FnScope ["stand", "move"] ["stand", "move"] (defScope safter):=⟨rfl,rfl,rfl,by decide +kernel,rfl,by decide +kernel,by decide +kernel⟩
theorem scchange:FnScope ["move"] ["move"] (defScope schange):=⟨rfl,rfl,rfl,by decide +kernel,rfl,by decide +kernel,by decide +kernel⟩
theorem scleast:FnScope ["stands", "found", "stand"] ["stands"] (defScope sleast):=⟨rfl,rfl,rfl,by decide +kernel,rfl,by decide +kernel,by decide +kernel⟩
theorem sclifted:FnScope ["stand", "basis", "low"] ["stand", "basis"] (defScope slifted):=⟨rfl,rfl,rfl,by decide +kernel,rfl,by decide +kernel,by decide +kernel⟩
theorem scsource:FnScope ["stand", "move"] ["stand", "move"] (defScope ssource):=⟨rfl,rfl,rfl,by decide +kernel,rfl,by decide +kernel,by decide +kernel⟩
theorem scsources:FnScope ["moves", "basis", "found", "move"] ["moves", "basis"] (defScope ssources):=⟨rfl,rfl,rfl,by decide +kernel,rfl,by decide +kernel,by decide +kernel⟩
theorem scstep_back:FnScope ["moves", "basis"] ["moves", "basis"] (defScope sstep_back):=⟨rfl,rfl,rfl,by decide +kernel,rfl,by decide +kernel,by decide +kernel⟩
theorem scis_shut:FnScope ["moves", "basis"] ["moves", "basis"] (defScope sis_shut):=⟨rfl,rfl,rfl,by decide +kernel,rfl,by decide +kernel,by decide +kernel⟩
theorem scenough:FnScope ["moves", "target", "most", "rings", "told"] ["moves", "target", "most"] (defScope senough):=⟨rfl,rfl,rfl,by decide +kernel,rfl,by decide +kernel,by decide +kernel⟩
theorem sccover:FnScope ["moor", "target", "most", "rings", "told"] ["moor", "target", "most"] (defScope scover):=⟨rfl,rfl,rfl,by decide +kernel,rfl,by decide +kernel,by decide +kernel⟩
theorem scending:FnScope ["moves", "rings", "most", "word", "ring", "number"] ["moves", "rings", "most", "word"] (defScope sending):=⟨rfl,rfl,rfl,by decide +kernel,rfl,by decide +kernel,by decide +kernel⟩
theorem scrow_inward:FnScope ["moor", "rings", "row", "here", "ring", "number"] ["moor", "rings"] (defScope srow_inward):=⟨rfl,rfl,rfl,by decide +kernel,rfl,by decide +kernel,by decide +kernel⟩
theorem scmoves_into:FnScope ["stand", "moves", "ring"] ["stand", "moves", "ring"] (defScope smoves_into):=⟨rfl,rfl,rfl,by decide +kernel,rfl,by decide +kernel,by decide +kernel⟩
theorem scnever:FnScope ["moor", "most"] ["moor", "most"] (defScope snever):=⟨rfl,rfl,rfl,by decide +kernel,rfl,by decide +kernel,by decide +kernel⟩
theorem scis_never:FnScope ["told"] ["told"] (defScope sis_never):=⟨rfl,rfl,rfl,by decide +kernel,rfl,by decide +kernel,by decide +kernel⟩
theorem sc_law_cell_at:FnScope ["_law_script", "_law_k"] ["_law_script", "_law_k"] (defScope s_law_cell_at):=⟨rfl,rfl,rfl,by decide +kernel,rfl,by decide +kernel,by decide +kernel⟩
theorem sc_law_stream:FnScope ["_law_cell", "_law_salt", "_law_many", "_law_found", "_law_number", "_law_k"] ["_law_cell", "_law_salt", "_law_many"] (defScope s_law_stream):=⟨rfl,rfl,rfl,by decide +kernel,rfl,by decide +kernel,by decide +kernel⟩
theorem sc_law_count:FnScope ["_law_x", "_law_kind"] ["_law_x", "_law_kind"] (defScope s_law_count):=⟨rfl,rfl,rfl,by decide +kernel,rfl,by decide +kernel,by decide +kernel⟩
theorem sc_law_moves:FnScope ["_law_script", "_law_many", "_law_kind", "_law_moves_here", "_law_k", "_law_xs", "_law_take", "_law_put", "_law_at"] ["_law_script", "_law_many", "_law_kind"] (defScope s_law_moves):=⟨rfl,rfl,rfl,by decide +kernel,rfl,by decide +kernel,by decide +kernel⟩
theorem sc_law_order:FnScope ["_law_cell", "_law_many", "_law_left", "_law_order_here", "_law_k"] ["_law_cell", "_law_many"] (defScope s_law_order):=⟨rfl,rfl,rfl,by decide +kernel,rfl,by decide +kernel,by decide +kernel⟩
theorem sc_law_scaled:FnScope ["_law_stand", "_law_factor"] ["_law_stand", "_law_factor"] (defScope s_law_scaled):=⟨rfl,rfl,rfl,by decide +kernel,rfl,by decide +kernel,by decide +kernel⟩
theorem sc_law_put_so:FnScope ["_law_stand", "_law_order_here"] ["_law_stand", "_law_order_here"] (defScope s_law_put_so):=⟨rfl,rfl,rfl,by decide +kernel,rfl,by decide +kernel,by decide +kernel⟩
theorem sc_law_all_scaled:FnScope ["_law_moves_here", "_law_factor"] ["_law_moves_here", "_law_factor"] (defScope s_law_all_scaled):=⟨rfl,rfl,rfl,by decide +kernel,rfl,by decide +kernel,by decide +kernel⟩
theorem sc_law_all_put_so:FnScope ["_law_moves_here", "_law_order_here"] ["_law_moves_here", "_law_order_here"] (defScope s_law_all_put_so):=⟨rfl,rfl,rfl,by decide +kernel,rfl,by decide +kernel,by decide +kernel⟩
theorem sc_law_more_moves:FnScope ["_law_moves_here", "_law_many", "_law_cell", "_law_more", "_law_nothing", "_law_k"] ["_law_moves_here", "_law_many", "_law_cell"] (defScope s_law_more_moves):=⟨rfl,rfl,rfl,by decide +kernel,rfl,by decide +kernel,by decide +kernel⟩
theorem sc_law_same:FnScope ["_law_one", "_law_other", "_law_form", "_law_by"] ["_law_one", "_law_other", "_law_form", "_law_by"] (defScope s_law_same):=⟨rfl,rfl,rfl,by decide +kernel,rfl,by decide +kernel,by decide +kernel⟩
theorem sclaw:FnScope ["_law_script", "_law_many", "_law_kind", "_law_moves_here", "_law_xs", "_law_begin", "_law_target", "_law_most", "_law_factor", "_law_order_here", "_law_one", "_law_great", "_law_far", "_law_two", "_law_mixed", "_law_three", "_law_k", "_law_more", "_law_due"] ["_law_script"] (defScope slaw):=⟨rfl,rfl,rfl,by decide +kernel,rfl,by decide +kernel,by decide +kernel⟩
section
variable {P:Program} {w:World} {K:PySem.W.Frag} {mg:Str→Option Value} {base:Heap}
theorem okcovers {f:Addr} {fd:FuncData} (D:Def K mg "covers" scovers ["stand", "other"] f fd) (B:Blt mg):FnOk P w K mg base CX0 1 f fd ["stand", "other"] (spM K 2 .F (f_covers)):=by
 refine D.F.ok sccovers (fun vs H Q E h=>h.1) (fun cdv A outer s H vs Q E hr h=>?_)
 exact ⟨tSt K (fun _ _=>False) .F m_covers,(q_cons (@q_for _ _ _ _ _ _ _ _ _ _ _ _ _ PassesOwn.never rfl (@q_zipU _ _ _ _ _ _ _ _ _ _ _ (by rfl) B.zip_ (q_acons (qv .U 0) (q_acons (qv .U 1) q_anil)) (by rfl) (by rfl) (by rfl)) (@pg_tupK _ K _ _ _ _ 2 rfl (@pgs_cons _ _ _ _ _ (@pg_name _ _ 2 _ sccovers.nd rfl (by trivial) (by trivial)) (@pgs_cons _ _ _ _ _ (@pg_name _ _ 3 _ sccovers.nd rfl (by trivial) (by trivial)) pgs_nil (by rfl)) (by rfl)) (by rfl) (by rfl) (by rfl)) (gt_tup (.inr rfl) (gts_cons (.inr rfl) gt_U (gts_cons (.inr rfl) gt_U gts_nil))) (q_last (q_if_ (@q_tcmp _ _ _ _ _ _ _ _ _ _ _ _ op_lt (o2_I0 (g:=gLt) (fun _ _=>rfl) (fun _ _ _=>.bl)) (qv .B 2) (qv .B 3) (by first | exact nomark _ | rfl)) (q_last (q_ret q_bl)) q_nil)) (by intro _; rfl)) (q_last (q_ret q_bl))),
  c_body (n:=2) (Nl:=["stand", "other", "number", "wanted"]) (.inl rfl) h⟩
theorem okable {f:Addr} {fd:FuncData} (D:Def K mg "able" sable ["stand", "move"] f fd) (B:Blt mg) {fcovers:Addr} {fdcovers:FuncData} (Dcovers:Def K mg "covers" scovers ["stand", "other"] fcovers fdcovers) (Gcovers:FnOk P w K mg base CX0 1 fcovers fdcovers ["stand", "other"] (spM K 2 .F (f_covers))):FnOk P w K mg base CX0 2 f fd ["stand", "move"] (spM K 2 .F (f_able)):=by
 refine D.F.ok scable (fun vs H Q E h=>h.1) (fun cdv A outer s H vs Q E hr h=>?_)
 exact ⟨tSt K (fun _ _=>False) .F m_able,(q_last (q_ret (@q_call _ _ _ _ _ _ _ _ _ _ _ _ _ _ _ _ Gcovers (.inl rfl) (by exact hr.mono (by decide)) (by rfl) Dcovers.m Dcovers.F.kp Dcovers.b (q_acons (qv .B 0) (q_acons (q_UB (q_ixU (qv .B 1) q_int)) q_anil)) (by decide) (by rfl) (by rfl)))),
  c_body (n:=2) (Nl:=["stand", "move"]) (.inl rfl) h⟩
theorem okchange {f:Addr} {fd:FuncData} (D:Def K mg "change" schange ["move"] f fd) (B:Blt mg):FnOk P w K mg base CX0 1 f fd ["move"] (spM K 1 .F (f_change)):=by
 refine D.F.ok scchange (fun vs H Q E h=>h.1) (fun cdv A outer s H vs Q E hr h=>?_)
 exact ⟨tSt K (fun _ _=>False) .F m_change,(q_last (q_ret (@q_ct _ _ _ _ _ _ _ _ _ _ _ _ _ _ K_tup (b_tup (c:=true)) (by rfl) B.tuple_ bt_tuple (q_acons (q_FC (@q_comp _ _ _ _ _ _ _ _ _ _ _ _ _ _ _ _ (show CompScope (defScope schange) _ ["move"] ["move", "take", "put"] from ⟨rfl,by decide +kernel,by decide +kernel,by decide +kernel,by decide +kernel,by decide,by decide +kernel,by decide +kernel⟩) rfl (@q_zipB _ _ _ _ _ _ _ _ _ _ _ (by rfl) B.zip_ (q_acons (q_UB (q_ixU (qv .B 0) q_int)) (q_acons (q_UB (q_ixU (qv .B 0) q_int)) q_anil)) (by rfl) (by rfl) (by rfl)) (fun _ _ _ _=>(@pg_tupK _ K _ _ _ _ 2 rfl (@pgs_cons _ _ _ _ _ (@pg_name _ _ 1 _ (by decide +kernel:(["move", "take", "put"]:List Str).Nodup) rfl (Or.inl rfl) (.inr rfl)) (@pgs_cons _ _ _ _ _ (@pg_name _ _ 2 _ (by decide +kernel:(["move", "take", "put"]:List Str).Nodup) rfl (Or.inl rfl) (.inr rfl)) pgs_nil (by rfl)) (by rfl)) (by rfl) (by rfl) (by rfl))) (gt_tup (.inr rfl) (gts_cons (.inr rfl) gt_U (gts_cons (.inr rfl) gt_U gts_nil))) (gk_tup (gk_cons (show 1≤1 by decide) (gk_cons (show 1≤2 by decide) gk_nil))) (fun _ _ _ _=>q_pifN) (fun _ _ _ _=>(q_op op_sub (o2_I0 (g:=gSub) (fun _ _=>rfl) (fun _ _ _=>.int)) (qv .B 2) (qv .B 1))) (by intro _; rfl))) q_anil) (by decide) (by decide) (by rfl) (by rfl)))),
  c_body (n:=1) (Nl:=["move"]) (.inl rfl) h⟩
theorem okafter {f:Addr} {fd:FuncData} (D:Def K mg "after" safter ["stand", "move"] f fd) (B:Blt mg) {fable:Addr} {fdable:FuncData} (Dable:Def K mg "able" sable ["stand", "move"] fable fdable) (Gable:FnOk P w K mg base CX0 2 fable fdable ["stand", "move"] (spM K 2 .F (f_able))) {fchange:Addr} {fdchange:FuncData} (Dchange:Def K mg "change" schange ["move"] fchange fdchange) (Gchange:FnOk P w K mg base CX0 1 fchange fdchange ["move"] (spM K 1 .F (f_change))):FnOk P w K mg base CX0 3 f fd ["stand", "move"] (spM K 2 .F (f_after)):=by
 refine D.F.ok scafter (fun vs H Q E h=>h.1) (fun cdv A outer s H vs Q E hr h=>?_)
 exact ⟨tSt K (fun _ _=>False) .F m_after,(q_cons (q_if_ (q_tnot (@q_val _ _ _ _ _ (q_CB (q_FC (@q_call _ _ _ _ _ _ _ _ _ _ _ _ _ _ _ _ Gable (.inl rfl) (by exact hr.mono (by decide)) (by rfl) Dable.m Dable.F.kp Dable.b (q_acons (qv .B 0) (q_acons (qv .B 1) q_anil)) (by decide) (by rfl) (by rfl)))) (by intro _; rfl))) (q_last q_never) q_nil) (q_last (q_ret (@q_ct _ _ _ _ _ _ _ _ _ _ _ _ _ _ K_tup (b_tup (c:=true)) (by rfl) B.tuple_ bt_tuple (q_acons (q_FC (@q_comp _ _ _ _ _ _ _ _ _ _ _ _ _ _ _ _ (show CompScope (defScope safter) _ ["stand", "move"] ["stand", "move", "number", "step"] from ⟨rfl,by decide +kernel,by decide +kernel,by decide +kernel,by decide +kernel,by decide,by decide +kernel,by decide +kernel⟩) rfl (@q_zipB _ _ _ _ _ _ _ _ _ _ _ (by rfl) B.zip_ (q_acons (qv .B 0) (q_acons (q_CB (q_FC (@q_call _ _ _ _ _ _ _ _ _ _ _ _ _ _ _ _ Gchange (.inl rfl) (by exact hr.mono (by decide)) (by rfl) Dchange.m Dchange.F.kp Dchange.b (q_acons (qv .B 1) q_anil) (by decide) (by rfl) (by rfl)))) q_anil)) (by rfl) (by rfl) (by rfl)) (fun _ _ _ _=>(@pg_tupK _ K _ _ _ _ 2 rfl (@pgs_cons _ _ _ _ _ (@pg_name _ _ 2 _ (by decide +kernel:(["stand", "move", "number", "step"]:List Str).Nodup) rfl (Or.inl rfl) (.inr rfl)) (@pgs_cons _ _ _ _ _ (@pg_name _ _ 3 _ (by decide +kernel:(["stand", "move", "number", "step"]:List Str).Nodup) rfl (Or.inl rfl) (.inr rfl)) pgs_nil (by rfl)) (by rfl)) (by rfl) (by rfl) (by rfl))) (gt_tup (.inr rfl) (gts_cons (.inr rfl) gt_U (gts_cons (.inr rfl) gt_U gts_nil))) (gk_tup (gk_cons (show 2≤2 by decide) (gk_cons (show 2≤3 by decide) gk_nil))) (fun _ _ _ _=>q_pifN) (fun _ _ _ _=>(q_op op_add (o2_I0 (g:=gAdd) (fun _ _=>rfl) (fun _ _ _=>.int)) (qv .B 2) (qv .B 3))) (by intro _; rfl))) q_anil) (by decide) (by decide) (by rfl) (by rfl))))),
  c_body (n:=2) (Nl:=["stand", "move"]) (.inl rfl) h⟩
theorem oklifted {f:Addr} {fd:FuncData} (D:Def K mg "lifted" slifted ["stand", "basis"] f fd) (B:Blt mg) {fcovers:Addr} {fdcovers:FuncData} (Dcovers:Def K mg "covers" scovers ["stand", "other"] fcovers fdcovers) (Gcovers:FnOk P w K mg base CX0 1 fcovers fdcovers ["stand", "other"] (spM K 2 .F (f_covers))):FnOk P w K mg base CX0 2 f fd ["stand", "basis"] (spM K 2 .F (f_lifted)):=by
 refine D.F.ok sclifted (fun vs H Q E h=>h.1) (fun cdv A outer s H vs Q E hr h=>?_)
 exact ⟨tSt K (fun _ _=>False) .F m_lifted,(q_cons (@q_for _ _ _ _ _ _ _ _ _ _ _ _ _ PassesOwn.never rfl (@q_iSqU _ _ _ _ _ _ (qv .U 1) (by rfl)) (@pg_name _ _ 2 _ sclifted.nd rfl (by trivial) (by trivial)) gt_U (q_last (q_if_ (@q_val _ _ _ _ _ (q_CB (q_FC (@q_call _ _ _ _ _ _ _ _ _ _ _ _ _ _ _ _ Gcovers (.inl rfl) (by exact hr.mono (by decide)) (by rfl) Dcovers.m Dcovers.F.kp Dcovers.b (q_acons (qv .B 0) (q_acons (qv .B 2) q_anil)) (by decide) (by rfl) (by rfl)))) (by intro _; rfl)) (q_last (q_ret q_bl)) q_nil)) (by intro _; rfl)) (q_last (q_ret q_bl))),
  c_body (n:=2) (Nl:=["stand", "basis", "low"]) (.inl rfl) h⟩
theorem okleast {f:Addr} {fd:FuncData} (D:Def K mg "least" sleast ["stands"] f fd) (B:Blt mg) {flifted:Addr} {fdlifted:FuncData} (Dlifted:Def K mg "lifted" slifted ["stand", "basis"] flifted fdlifted) (Glifted:FnOk P w K mg base CX0 2 flifted fdlifted ["stand", "basis"] (spM K 2 .F (f_lifted))):FnOk P w K mg base CX0 3 f fd ["stands"] (spM K 1 .F (f_least)):=by
 refine D.F.ok scleast (fun vs H Q E h=>h.1) (fun cdv A outer s H vs Q E hr h=>?_)
 exact ⟨tSt K (fun _ _=>False) .F m_least,(q_cons (@q_setF _ _ _ _ _ _ _ 1 _ _ scleast.nd rfl (by trivial) (q_lst q_anil) (by rfl) (by trivial)) (q_cons (@q_for _ _ _ _ _ _ _ _ _ _ _ _ _ PassesOwn.never rfl (@q_iSqU _ _ _ _ _ _ (q_VU (q_FV (@q_cb _ _ _ _ _ _ _ _ _ _ _ _ _ _ call_sortT (b_sort (c:=false)) (by rfl) B.sorted_ bt_sorted (q_acons (qv .B 0) q_anil) (by decide) (by decide) (by rfl) (by rfl)))) (by rfl)) (@pg_name _ _ 2 _ scleast.nd rfl (by trivial) (by trivial)) gt_U (q_last (q_if_ (q_tnot (@q_val _ _ _ _ _ (q_CB (q_FC (@q_call _ _ _ _ _ _ _ _ _ _ _ _ _ _ _ _ Glifted (.inl rfl) (by exact hr.mono (by decide)) (by rfl) Dlifted.m Dlifted.F.kp Dlifted.b (q_acons (qv .B 2) (q_acons (qv .B 1) q_anil)) (by decide) (by rfl) (by rfl)))) (by intro _; rfl))) (q_last (@q_app _ _ _ _ _ _ _ 1 _ _ _ _ rfl (by trivial) (qv .V 2) (by decide) (by decide) (by rfl) (by rfl) (by rfl) (by rfl) (by rfl))) q_nil)) (by intro _; rfl)) (q_last (@q_retv _ _ _ _ _ 1 _ _ (.inl rfl) (by rfl) (by trivial) (by decide) (by decide))))),
  c_body (n:=1) (Nl:=["stands", "found", "stand"]) (.inl rfl) h⟩
theorem oksource {f:Addr} {fd:FuncData} (D:Def K mg "source" ssource ["stand", "move"] f fd) (B:Blt mg):FnOk P w K mg base CX0 1 f fd ["stand", "move"] (spM K 2 .F (f_source)):=by
 refine D.F.ok scsource (fun vs H Q E h=>h.1) (fun cdv A outer s H vs Q E hr h=>?_)
 exact ⟨tSt K (fun _ _=>False) .F m_source,(q_last (q_ret (@q_ct _ _ _ _ _ _ _ _ _ _ _ _ _ _ K_tup (b_tup (c:=true)) (by rfl) B.tuple_ bt_tuple (q_acons (q_FC (@q_comp _ _ _ _ _ _ _ _ _ _ _ _ _ _ _ _ (show CompScope (defScope ssource) _ ["stand", "move"] ["stand", "move", "number", "take", "put"] from ⟨rfl,by decide +kernel,by decide +kernel,by decide +kernel,by decide +kernel,by decide,by decide +kernel,by decide +kernel⟩) rfl (@q_zipB _ _ _ _ _ _ _ _ _ _ _ (by rfl) B.zip_ (q_acons (qv .B 0) (q_acons (q_UB (q_ixU (qv .B 1) q_int)) (q_acons (q_UB (q_ixU (qv .B 1) q_int)) q_anil))) (by rfl) (by rfl) (by rfl)) (fun _ _ _ _=>(@pg_tupK _ K _ _ _ _ 3 rfl (@pgs_cons _ _ _ _ _ (@pg_name _ _ 2 _ (by decide +kernel:(["stand", "move", "number", "take", "put"]:List Str).Nodup) rfl (Or.inl rfl) (.inr rfl)) (@pgs_cons _ _ _ _ _ (@pg_name _ _ 3 _ (by decide +kernel:(["stand", "move", "number", "take", "put"]:List Str).Nodup) rfl (Or.inl rfl) (.inr rfl)) (@pgs_cons _ _ _ _ _ (@pg_name _ _ 4 _ (by decide +kernel:(["stand", "move", "number", "take", "put"]:List Str).Nodup) rfl (Or.inl rfl) (.inr rfl)) pgs_nil (by rfl)) (by rfl)) (by rfl)) (by rfl) (by rfl) (by rfl))) (gt_tup (.inr rfl) (gts_cons (.inr rfl) gt_U (gts_cons (.inr rfl) gt_U (gts_cons (.inr rfl) gt_U gts_nil)))) (gk_tup (gk_cons (show 2≤2 by decide) (gk_cons (show 2≤3 by decide) (gk_cons (show 2≤4 by decide) gk_nil)))) (fun _ _ _ _=>q_pifN) (fun _ _ _ _=>(@q_cb _ _ _ _ _ _ _ _ _ _ _ _ _ _ (call_max2 rfl) (b_2 (g:=gMax)) (by rfl) B.max_ bt_max (q_acons (qv .B 3) (q_acons (q_op op_add (o2_I0 (g:=gAdd) (fun _ _=>rfl) (fun _ _ _=>.int)) (q_op op_sub (o2_I0 (g:=gSub) (fun _ _=>rfl) (fun _ _ _=>.int)) (qv .B 2) (qv .B 4)) (qv .B 3)) q_anil)) (by decide) (by decide) (by rfl) (by rfl))) (by intro _; rfl))) q_anil) (by decide) (by decide) (by rfl) (by rfl)))),
  c_body (n:=2) (Nl:=["stand", "move"]) (.inl rfl) h⟩
theorem oksources {f:Addr} {fd:FuncData} (D:Def K mg "sources" ssources ["moves", "basis"] f fd) (B:Blt mg) {fsource:Addr} {fdsource:FuncData} (Dsource:Def K mg "source" ssource ["stand", "move"] fsource fdsource) (Gsource:FnOk P w K mg base CX0 1 fsource fdsource ["stand", "move"] (spM K 2 .F (f_source))):FnOk P w K mg base CX0 2 f fd ["moves", "basis"] (spM K 2 .F (f_sources)):=by
 refine D.F.ok scsources (fun vs H Q E h=>h.1) (fun cdv A outer s H vs Q E hr h=>?_)
 exact ⟨tSt K (fun _ _=>False) .F m_sources,(q_cons (@q_setF _ _ _ _ _ _ _ 2 _ _ scsources.nd rfl (by trivial) (q_lst q_anil) (by rfl) (by trivial)) (q_cons (@q_for _ _ _ _ _ _ _ _ _ _ _ _ _ PassesOwn.never rfl (@q_iSqU _ _ _ _ _ _ (qv .U 0) (by rfl)) (@pg_name _ _ 3 _ scsources.nd rfl (by trivial) (by trivial)) gt_U (q_last (@q_ext _ _ _ _ _ _ _ 2 true _ _ _ _ rfl (by trivial) (q_FC (@q_comp _ _ _ _ _ _ _ _ _ _ _ _ _ _ _ _ (show CompScope (defScope ssources) _ ["moves", "basis", "found", "move"] ["moves", "basis", "found", "move", "stand"] from ⟨rfl,by decide +kernel,by decide +kernel,by decide +kernel,by decide +kernel,by decide,by decide +kernel,by decide +kernel⟩) rfl (@q_iSqB _ _ _ _ _ _ (qv .B 1) (by rfl)) (fun _ _ _ _=>(@pg_name _ _ 4 _ (by decide +kernel:(["moves", "basis", "found", "move", "stand"]:List Str).Nodup) rfl (Or.inl rfl) (.inr rfl))) gt_U (gk_name (show 4≤4 by decide)) (fun _ _ _ _=>q_pifN) (fun _ _ _ _=>(q_FV (@q_call _ _ _ _ _ _ _ _ _ _ _ _ _ _ _ _ Gsource (.inl rfl) (by exact hr.mono (by decide)) (by rfl) Dsource.m Dsource.F.kp Dsource.b (q_acons (qv .B 4) (q_acons (qv .B 3) q_anil)) (by decide) (by rfl) (by rfl)))) (by intro _; rfl))) (by rfl) (by decide) (by decide) (by rfl) (by rfl) (by rfl) (by rfl) (by rfl) (by rfl))) (by intro _; rfl)) (q_last (@q_retv _ _ _ _ _ 2 _ _ (.inl rfl) (by rfl) (by trivial) (by decide) (by decide))))),
  c_body (n:=2) (Nl:=["moves", "basis", "found", "move"]) (.inl rfl) h⟩
theorem okstep_back {f:Addr} {fd:FuncData} (D:Def K mg "step_back" sstep_back ["moves", "basis"] f fd) (B:Blt mg) {fleast:Addr} {fdleast:FuncData} (Dleast:Def K mg "least" sleast ["stands"] fleast fdleast) (Gleast:FnOk P w K mg base CX0 3 fleast fdleast ["stands"] (spM K 1 .F (f_least))) {fsources:Addr} {fdsources:FuncData} (Dsources:Def K mg "sources" ssources ["moves", "basis"] fsources fdsources) (Gsources:FnOk P w K mg base CX0 2 fsources fdsources ["moves", "basis"] (spM K 2 .F (f_sources))):FnOk P w K mg base CX0 4 f fd ["moves", "basis"] (spM K 2 .F (f_step_back)):=by
 refine D.F.ok scstep_back (fun vs H Q E h=>h.1) (fun cdv A outer s H vs Q E hr h=>?_)
 exact ⟨tSt K (fun _ _=>False) .F m_step_back,(q_last (q_ret (@q_call _ _ _ _ _ _ _ _ _ _ _ _ _ _ _ _ Gleast (.inl rfl) (by exact hr.mono (by decide)) (by rfl) Dleast.m Dleast.F.kp Dleast.b (q_acons (q_CB (q_FC (q_op op_cat (o2_cat (c:=true)) (q_FC (@q_ct _ _ _ _ _ _ _ _ _ _ _ _ _ _ K_list (b_list (c:=false)) (by rfl) B.list_ bt_list (q_acons (qv .B 1) q_anil) (by decide) (by decide) (by rfl) (by rfl))) (q_FC (@q_call _ _ _ _ _ _ _ _ _ _ _ _ _ _ _ _ Gsources (.inl rfl) (by exact hr.mono (by decide)) (by rfl) Dsources.m Dsources.F.kp Dsources.b (q_acons (qv .B 0) (q_acons (qv .B 1) q_anil)) (by decide) (by rfl) (by rfl)))))) q_anil) (by decide) (by rfl) (by rfl)))),
  c_body (n:=2) (Nl:=["moves", "basis"]) (.inl rfl) h⟩
theorem okis_shut {f:Addr} {fd:FuncData} (D:Def K mg "is_shut" sis_shut ["moves", "basis"] f fd) (B:Blt mg) {flifted:Addr} {fdlifted:FuncData} (Dlifted:Def K mg "lifted" slifted ["stand", "basis"] flifted fdlifted) (Glifted:FnOk P w K mg base CX0 2 flifted fdlifted ["stand", "basis"] (spM K 2 .F (f_lifted))) {fsources:Addr} {fdsources:FuncData} (Dsources:Def K mg "sources" ssources ["moves", "basis"] fsources fdsources) (Gsources:FnOk P w K mg base CX0 2 fsources fdsources ["moves", "basis"] (spM K 2 .F (f_sources))):FnOk P w K mg base CX0 3 f fd ["moves", "basis"] (spM K 2 .F (f_is_shut)):=by
 refine D.F.ok scis_shut (fun vs H Q E h=>h.1) (fun cdv A outer s H vs Q E hr h=>?_)
 exact ⟨tSt K (fun _ _=>False) .F m_is_shut,(q_last (q_ret (@q_cb _ _ _ _ _ _ _ _ _ _ _ _ _ _ (call_allL rfl) (b_bools (g:=gAll)) (by rfl) B.all_ bt_all (q_acons (q_CB (q_FC (@q_comp _ _ _ _ _ _ _ _ _ _ _ _ _ _ _ _ (show CompScope (defScope sis_shut) _ ["moves", "basis"] ["moves", "basis", "stand"] from ⟨rfl,by decide +kernel,by decide +kernel,by decide +kernel,by decide +kernel,by decide,by decide +kernel,by decide +kernel⟩) rfl (@q_iSqB _ _ _ _ _ _ (q_CB (q_FC (@q_call _ _ _ _ _ _ _ _ _ _ _ _ _ _ _ _ Gsources (.inl rfl) (by exact hr.mono (by decide)) (by rfl) Dsources.m Dsources.F.kp Dsources.b (q_acons (qv .B 0) (q_acons (qv .B 1) q_anil)) (by decide) (by rfl) (by rfl)))) (by rfl)) (fun _ _ _ _=>(@pg_name _ _ 2 _ (by decide +kernel:(["moves", "basis", "stand"]:List Str).Nodup) rfl (Or.inl rfl) (.inr rfl))) gt_U (gk_name (show 2≤2 by decide)) (fun _ _ _ _=>q_pifN) (fun _ _ _ _=>(q_FV (@q_call _ _ _ _ _ _ _ _ _ _ _ _ _ _ _ _ Glifted (.inl rfl) (by exact hr.mono (by decide)) (by rfl) Dlifted.m Dlifted.F.kp Dlifted.b (q_acons (qv .B 2) (q_acons (qv .B 1) q_anil)) (by decide) (by rfl) (by rfl)))) (by intro _; rfl)))) q_anil) (by decide) (by decide) (by rfl) (by rfl)))),
  c_body (n:=2) (Nl:=["moves", "basis"]) (.inl rfl) h⟩
theorem okending {f:Addr} {fd:FuncData} (D:Def K mg "ending" sending ["moves", "rings", "most", "word"] f fd) (B:Blt mg) {fis_shut:Addr} {fdis_shut:FuncData} (Dis_shut:Def K mg "is_shut" sis_shut ["moves", "basis"] fis_shut fdis_shut) (Gis_shut:FnOk P w K mg base CX0 3 fis_shut fdis_shut ["moves", "basis"] (spM K 2 .F (f_is_shut))):FnOk P w K mg base CX0 4 f fd ["moves", "rings", "most", "word"] (spX K 4 (f_ending)):=by
 refine D.F.ok scending (fun vs H Q E h=>h.1) (fun cdv A outer s H vs Q E hr h=>?_)
 exact ⟨tSt K (fun _ _=>False) .V m_ending,(q_cons (@q_setV _ _ _ _ _ _ _ 4 _ _ scending.nd rfl (by trivial) (q_ixV (qv .C 1) (q_un un_neg (o1_U (g:=gNeg) (fun _=>rfl) (fun _ _=>.int)) q_int)) (by rfl) (by trivial)) (q_cons (@q_setV _ _ _ _ _ _ _ 5 _ _ scending.nd rfl (by trivial) (q_op op_sub (o2_I0 (g:=gSub) (fun _ _=>rfl) (fun _ _ _=>.int)) (@q_cb _ _ _ _ _ _ _ _ _ _ _ _ _ _ K_len b_len (by rfl) B.len_ PySem.boot_len (q_acons (qv .B 1) q_anil) (by decide) (by decide) (by rfl) (by rfl)) q_int) (by rfl) (by trivial)) (q_cons (q_if_ (@q_tcmp _ _ _ _ _ _ _ _ _ _ _ _ op_gt (o2_I0 (g:=gGt) (fun _ _=>rfl) (fun _ _ _=>.bl)) (@q_cb _ _ _ _ _ _ _ _ _ _ _ _ _ _ K_len b_len (by rfl) B.len_ PySem.boot_len (q_acons (qv .B 4) q_anil) (by decide) (by decide) (by rfl) (by rfl)) (qv .B 2) (by first | exact nomark _ | rfl)) (q_last (q_ret (q_FV (q_tup (q_acons q_str (q_acons (qv .V 5) q_anil)))))) q_nil) (q_cons (q_if_ (@q_val _ _ _ _ _ (q_CB (q_FC (@q_call _ _ _ _ _ _ _ _ _ _ _ _ _ _ _ _ Gis_shut (.inl rfl) (by exact hr.mono (by decide)) (by rfl) Dis_shut.m Dis_shut.F.kp Dis_shut.b (q_acons (qv .B 0) (q_acons (qv .B 4) q_anil)) (by decide) (by rfl) (by rfl)))) (by intro _; rfl)) (q_last (q_ret (q_FV (q_tup (q_acons (qv .V 3) (q_acons (qv .V 4) q_anil)))))) q_nil) (q_cons (q_if_ (@q_tcmp _ _ _ _ _ _ _ _ _ _ _ _ (op_eqD (hu64 hr)) (o2_eqD (neg:=false)) (qv .B 5) (qv .B 2) (by first | exact nomark _ | rfl)) (q_last (q_ret (q_FV (q_tup (q_acons q_str (q_acons (qv .V 5) q_anil)))))) q_nil) (q_last (q_ret q_non))))))),
  c_bodyX (n:=4) (Nl:=["moves", "rings", "most", "word", "ring", "number"]) h⟩
theorem okenough {f:Addr} {fd:FuncData} (D:Def K mg "enough" senough ["moves", "target", "most"] f fd) (B:Blt mg) {fending:Addr} {fdending:FuncData} (Dending:Def K mg "ending" sending ["moves", "rings", "most", "word"] fending fdending) (Gending:FnOk P w K mg base CX0 4 fending fdending ["moves", "rings", "most", "word"] (spX K 4 (f_ending))) {fstep_back:Addr} {fdstep_back:FuncData} (Dstep_back:Def K mg "step_back" sstep_back ["moves", "basis"] fstep_back fdstep_back) (Gstep_back:FnOk P w K mg base CX0 4 fstep_back fdstep_back ["moves", "basis"] (spM K 2 .F (f_step_back))):FnOk P w K mg base CX0 5 f fd ["moves", "target", "most"] (spM K 3 .V (f_enough)):=by
 refine D.F.ok scenough (fun vs H Q E h=>h.1) (fun cdv A outer s H vs Q E hr h=>?_)
 exact ⟨tSt K (fun _ _=>False) .V m_enough,(q_cons (@q_setF _ _ _ _ _ _ _ 3 _ _ scenough.nd rfl (by trivial) (q_lst (q_acons (q_FV (q_lst (q_acons (qv .V 1) q_anil))) q_anil)) (by rfl) (by trivial)) (q_cons (@q_setCX _ _ _ _ _ _ _ 4 _ [3] _ _ _ _ _ _ _ _ _ _ _ scenough.nd rfl (by trivial) Gending (by exact hr.mono (by decide)) (by rfl) Dending.m Dending.F.kp Dending.b (q_acons (qv .V 0) (q_acons (qv .V 3) (q_acons (qv .V 2) (q_acons q_str q_anil)))) (by decide) (by rfl) (by rfl) (by rfl) (by trivial)) (q_cons (q_while PassesOwn.never (@q_tcmp _ _ _ _ _ _ _ _ _ _ _ _ op_isN o2_isN (qv .B 4) q_non (by first | exact nomark _ | rfl)) (q_cons (@q_app _ _ _ _ _ _ _ 3 _ _ _ _ rfl (by trivial) (q_FV (@q_call _ _ _ _ _ _ _ _ _ _ _ _ _ _ _ _ Gstep_back (.inl rfl) (by exact hr.mono (by decide)) (by rfl) Dstep_back.m Dstep_back.F.kp Dstep_back.b (q_acons (qv .B 0) (q_acons (q_UB (q_ixU (qv .B 3) (q_un un_neg (o1_U (g:=gNeg) (fun _=>rfl) (fun _ _=>.int)) q_int))) q_anil)) (by decide) (by rfl) (by rfl))) (by decide) (by decide) (by rfl) (by rfl) (by rfl) (by rfl) (by rfl)) (q_last (@q_setCX _ _ _ _ _ _ _ 4 _ [3] _ _ _ _ _ _ _ _ _ _ _ scenough.nd rfl (by trivial) Gending (by exact hr.mono (by decide)) (by rfl) Dending.m Dending.F.kp Dending.b (q_acons (qv .V 0) (q_acons (qv .V 3) (q_acons (qv .V 2) (q_acons q_str q_anil)))) (by decide) (by rfl) (by rfl) (by rfl) (by trivial))))) (q_last (@q_retv _ _ _ _ _ 4 _ _ (.inr rfl) (by rfl) (by trivial) (by decide) (by decide)))))),
  c_body (n:=3) (Nl:=["moves", "target", "most", "rings", "told"]) (.inr rfl) h⟩
theorem okmoves_into {f:Addr} {fd:FuncData} (D:Def K mg "moves_into" smoves_into ["stand", "moves", "ring"] f fd) (B:Blt mg) {fable:Addr} {fdable:FuncData} (Dable:Def K mg "able" sable ["stand", "move"] fable fdable) (Gable:FnOk P w K mg base CX0 2 fable fdable ["stand", "move"] (spM K 2 .F (f_able))) {flifted:Addr} {fdlifted:FuncData} (Dlifted:Def K mg "lifted" slifted ["stand", "basis"] flifted fdlifted) (Glifted:FnOk P w K mg base CX0 2 flifted fdlifted ["stand", "basis"] (spM K 2 .F (f_lifted))) {fafter:Addr} {fdafter:FuncData} (Dafter:Def K mg "after" safter ["stand", "move"] fafter fdafter) (Gafter:FnOk P w K mg base CX0 3 fafter fdafter ["stand", "move"] (spM K 2 .F (f_after))):FnOk P w K mg base CX0 4 f fd ["stand", "moves", "ring"] (spM K 3 .F (f_moves_into)):=by
 refine D.F.ok scmoves_into (fun vs H Q E h=>h.1) (fun cdv A outer s H vs Q E hr h=>?_)
 exact ⟨tSt K (fun _ _=>False) .F m_moves_into,(q_last (q_ret (@q_comp _ _ _ _ _ _ _ _ _ _ _ _ _ _ _ _ (show CompScope (defScope smoves_into) _ ["stand", "moves", "ring"] ["stand", "moves", "ring", "number", "move"] from ⟨rfl,by decide +kernel,by decide +kernel,by decide +kernel,by decide +kernel,by decide,by decide +kernel,by decide +kernel⟩) rfl (@q_enuB _ _ _ _ _ _ _ _ _ _ (by rfl) B.enumerate_ (q_acons (qv .B 1) q_anil) (by rfl) (by rfl)) (fun _ _ _ _=>(@pg_tupK _ K _ _ _ _ 2 rfl (@pgs_cons _ _ _ _ _ (@pg_name _ _ 3 _ (by decide +kernel:(["stand", "moves", "ring", "number", "move"]:List Str).Nodup) rfl (Or.inl rfl) (.inr rfl)) (@pgs_cons _ _ _ _ _ (@pg_name _ _ 4 _ (by decide +kernel:(["stand", "moves", "ring", "number", "move"]:List Str).Nodup) rfl (Or.inl rfl) (.inr rfl)) pgs_nil (by rfl)) (by rfl)) (by rfl) (by rfl) (by rfl))) (gt_tup (.inr rfl) (gts_cons (.inr rfl) gt_U (gts_cons (.inr rfl) gt_U gts_nil))) (gk_tup (gk_cons (show 3≤3 by decide) (gk_cons (show 3≤4 by decide) gk_nil))) (fun _ _ _ _=>(q_pif1 (PW.pt (q_tand (@q_val _ _ _ _ _ (q_CB (q_FC (@q_call _ _ _ _ _ _ _ _ _ _ _ _ _ _ _ _ Gable (.inl rfl) (by exact hr.mono (by decide)) (by rfl) Dable.m Dable.F.kp Dable.b (q_acons (qv .B 0) (q_acons (qv .B 4) q_anil)) (by decide) (by rfl) (by rfl)))) (by intro _; rfl)) (q_tand1 (@q_val _ _ _ _ _ (q_CB (q_FC (@q_call _ _ _ _ _ _ _ _ _ _ _ _ _ _ _ _ Glifted (.inl rfl) (by exact hr.mono (by decide)) (by rfl) Dlifted.m Dlifted.F.kp Dlifted.b (q_acons (q_CB (q_FC (@q_call _ _ _ _ _ _ _ _ _ _ _ _ _ _ _ _ Gafter (.inl rfl) (by exact hr.mono (by decide)) (by rfl) Dafter.m Dafter.F.kp Dafter.b (q_acons (qv .B 0) (q_acons (qv .B 4) q_anil)) (by decide) (by rfl) (by rfl)))) (q_acons (qv .B 2) q_anil)) (by decide) (by rfl) (by rfl)))) (by intro _; rfl))))))) (fun _ _ _ _=>(qv .V 3)) (by intro _; rfl)))),
  c_body (n:=3) (Nl:=["stand", "moves", "ring"]) (.inl rfl) h⟩
theorem okrow_inward {f:Addr} {fd:FuncData} (D:Def K mg "row_inward" srow_inward ["moor", "rings"] f fd) (B:Blt mg) {fafter:Addr} {fdafter:FuncData} (Dafter:Def K mg "after" safter ["stand", "move"] fafter fdafter) (Gafter:FnOk P w K mg base CX0 3 fafter fdafter ["stand", "move"] (spM K 2 .F (f_after))) {fmoves_into:Addr} {fdmoves_into:FuncData} (Dmoves_into:Def K mg "moves_into" smoves_into ["stand", "moves", "ring"] fmoves_into fdmoves_into) (Gmoves_into:FnOk P w K mg base CX0 4 fmoves_into fdmoves_into ["stand", "moves", "ring"] (spM K 3 .F (f_moves_into))):FnOk P w K mg base CX0 5 f fd ["moor", "rings"] (spX K 2 (f_row_inward)):=by
 refine D.F.ok scrow_inward (fun vs H Q E h=>h.1) (fun cdv A outer s H vs Q E hr h=>?_)
 exact ⟨tSt K (fun _ _=>False) .V m_row_inward,(q_cons (@q_setF _ _ _ _ _ _ _ 2 _ _ scrow_inward.nd rfl (by trivial) (q_lst q_anil) (by rfl) (by trivial)) (q_cons (@q_setV _ _ _ _ _ _ _ 3 _ _ scrow_inward.nd rfl (by trivial) (q_ixV (qv .C 0) q_int) (by rfl) (by trivial)) (q_cons (@q_for _ _ _ _ _ _ _ _ _ _ _ _ _ PassesOwn.never rfl (@q_rvU _ _ _ _ _ _ _ _ (by rfl) B.reversed_ (q_acons (q_VU (q_FV (@q_sl _ _ _ _ _ _ true _ _ _ _ _ (qv .C 1) q_pN (q_pS (q_un un_neg (o1_U (g:=gNeg) (fun _=>rfl) (fun _ _=>.int)) q_int)) (by rfl)))) q_anil) (by rfl) (by rfl)) (@pg_name _ _ 4 _ scrow_inward.nd rfl (by trivial) (by trivial)) gt_U (q_cons (@q_setV _ _ _ _ _ _ _ 5 _ _ scrow_inward.nd rfl (by trivial) (q_ixV (q_FC (@q_call _ _ _ _ _ _ _ _ _ _ _ _ _ _ _ _ Gmoves_into (.inl rfl) (by exact hr.mono (by decide)) (by rfl) Dmoves_into.m Dmoves_into.F.kp Dmoves_into.b (q_acons (qv .B 3) (q_acons (q_UB (q_ixU (qv .B 0) q_int)) (q_acons (qv .B 4) q_anil))) (by decide) (by rfl) (by rfl))) q_int) (by rfl) (by trivial)) (q_cons (@q_app _ _ _ _ _ _ _ 2 _ _ _ _ rfl (by trivial) (qv .V 5) (by decide) (by decide) (by rfl) (by rfl) (by rfl) (by rfl) (by rfl)) (q_last (@q_setF _ _ _ _ _ _ _ 3 _ _ scrow_inward.nd rfl (by trivial) (@q_call _ _ _ _ _ _ _ _ _ _ _ _ _ _ _ _ Gafter (.inl rfl) (by exact hr.mono (by decide)) (by rfl) Dafter.m Dafter.F.kp Dafter.b (q_acons (qv .B 3) (q_acons (q_UB (q_ixU (q_UB (q_ixU (qv .B 0) q_int)) (qv .B 5))) q_anil)) (by decide) (by rfl) (by rfl)) (by rfl) (by trivial))))) (by intro _; rfl)) (q_last (@q_retv _ _ _ _ _ 2 _ _ (.inr rfl) (by rfl) (by trivial) (by decide) (by decide)))))),
  c_bodyX (n:=2) (Nl:=["moor", "rings", "row", "here", "ring", "number"]) h⟩
theorem okcover {f:Addr} {fd:FuncData} (D:Def K mg "cover" scover ["moor", "target", "most"] f fd) (B:Blt mg) {flifted:Addr} {fdlifted:FuncData} (Dlifted:Def K mg "lifted" slifted ["stand", "basis"] flifted fdlifted) (Glifted:FnOk P w K mg base CX0 2 flifted fdlifted ["stand", "basis"] (spM K 2 .F (f_lifted))) {fending:Addr} {fdending:FuncData} (Dending:Def K mg "ending" sending ["moves", "rings", "most", "word"] fending fdending) (Gending:FnOk P w K mg base CX0 4 fending fdending ["moves", "rings", "most", "word"] (spX K 4 (f_ending))) {frow_inward:Addr} {fdrow_inward:FuncData} (Drow_inward:Def K mg "row_inward" srow_inward ["moor", "rings"] frow_inward fdrow_inward) (Grow_inward:FnOk P w K mg base CX0 5 frow_inward fdrow_inward ["moor", "rings"] (spX K 2 (f_row_inward))) {fstep_back:Addr} {fdstep_back:FuncData} (Dstep_back:Def K mg "step_back" sstep_back ["moves", "basis"] fstep_back fdstep_back) (Gstep_back:FnOk P w K mg base CX0 4 fstep_back fdstep_back ["moves", "basis"] (spM K 2 .F (f_step_back))):FnOk P w K mg base CX0 6 f fd ["moor", "target", "most"] (spM K 3 .V (f_cover)):=by
 refine D.F.ok sccover (fun vs H Q E h=>h.1) (fun cdv A outer s H vs Q E hr h=>?_)
 exact ⟨tSt K (fun _ _=>False) .V m_cover,(q_cons (@q_setF _ _ _ _ _ _ _ 3 _ _ sccover.nd rfl (by trivial) (q_lst (q_acons (q_FV (q_lst (q_acons (qv .V 1) q_anil))) q_anil)) (by rfl) (by trivial)) (q_cons (q_while PassesOwn.never (q_tnot (@q_val _ _ _ _ _ (q_CB (q_FC (@q_call _ _ _ _ _ _ _ _ _ _ _ _ _ _ _ _ Glifted (.inl rfl) (by exact hr.mono (by decide)) (by rfl) Dlifted.m Dlifted.F.kp Dlifted.b (q_acons (q_UB (q_ixU (qv .B 0) q_int)) (q_acons (q_UB (q_ixU (qv .B 3) (q_un un_neg (o1_U (g:=gNeg) (fun _=>rfl) (fun _ _=>.int)) q_int))) q_anil)) (by decide) (by rfl) (by rfl)))) (by intro _; rfl))) (q_cons (@q_setCX _ _ _ _ _ _ _ 4 _ [3] _ _ _ _ _ _ _ _ _ _ _ sccover.nd rfl (by trivial) Gending (by exact hr.mono (by decide)) (by rfl) Dending.m Dending.F.kp Dending.b (q_acons (q_chkV (q_ixU (qv .B 0) q_int)) (q_acons (qv .V 3) (q_acons (qv .V 2) (q_acons q_str q_anil)))) (by decide) (by rfl) (by rfl) (by rfl) (by trivial)) (q_cons (q_if_ (@q_tcmp _ _ _ _ _ _ _ _ _ _ _ _ op_notN o2_notN (qv .B 4) q_non (by first | exact nomark _ | rfl)) (q_last (@q_retv _ _ _ _ _ 4 _ _ (.inr rfl) (by rfl) (by trivial) (by decide) (by decide))) q_nil) (q_last (@q_app _ _ _ _ _ _ _ 3 _ _ _ _ rfl (by trivial) (q_FV (@q_call _ _ _ _ _ _ _ _ _ _ _ _ _ _ _ _ Gstep_back (.inl rfl) (by exact hr.mono (by decide)) (by rfl) Dstep_back.m Dstep_back.F.kp Dstep_back.b (q_acons (q_UB (q_ixU (qv .B 0) q_int)) (q_acons (q_UB (q_ixU (qv .B 3) (q_un un_neg (o1_U (g:=gNeg) (fun _=>rfl) (fun _ _=>.int)) q_int))) q_anil)) (by decide) (by rfl) (by rfl))) (by decide) (by decide) (by rfl) (by rfl) (by rfl) (by rfl) (by rfl)))))) (q_last (q_frz (q_ret (q_FV (q_tup (q_acons q_str (q_acons (@q_callX _ _ _ _ _ _ _ _ _ _ _ _ _ _ _ Grow_inward (by exact hr.mono (by decide)) (by rfl) Drow_inward.m Drow_inward.F.kp Drow_inward.b (q_acons (qv .V 0) (q_acons (qv .V 3) q_anil)) (by decide) (by rfl) (by rfl)) q_anil))))))))),
  c_body (n:=3) (Nl:=["moor", "target", "most", "rings", "told"]) (.inr rfl) h⟩
theorem okis_never {f:Addr} {fd:FuncData} (D:Def K mg "is_never" sis_never ["told"] f fd) (B:Blt mg):FnOk P w K mg base CX0 1 f fd ["told"] (spM K 1 .F (f_is_never)):=by
 refine D.F.ok scis_never (fun vs H Q E h=>h.1) (fun cdv A outer s H vs Q E hr h=>?_)
 exact ⟨tSt K (fun _ _=>False) .F m_is_never,(q_cons (q_if_ (@q_tcmp _ _ _ _ _ _ _ _ _ _ _ _ op_eq o2_eqS (q_UB (q_ixU (qv .B 0) q_int)) q_str (by first | exact nomark _ | rfl)) (q_last (q_ret q_non)) q_nil) (q_last (q_ret (@q_cmp _ _ _ _ _ _ _ _ _ _ _ _ _ op_eq o2_eqS (q_UB (q_ixU (qv .B 0) q_int)) q_str (by first | exact nomark _ | rfl))))),
  c_body (n:=1) (Nl:=["told"]) (.inl rfl) h⟩
theorem oknever {f:Addr} {fd:FuncData} (D:Def K mg "never" snever ["moor", "most"] f fd) (B:Blt mg) {fis_never:Addr} {fdis_never:FuncData} (Dis_never:Def K mg "is_never" sis_never ["told"] fis_never fdis_never) (Gis_never:FnOk P w K mg base CX0 1 fis_never fdis_never ["told"] (spM K 1 .F (f_is_never))) {fcover:Addr} {fdcover:FuncData} (Dcover:Def K mg "cover" scover ["moor", "target", "most"] fcover fdcover) (Gcover:FnOk P w K mg base CX0 6 fcover fdcover ["moor", "target", "most"] (spM K 3 .V (f_cover))):FnOk P w K mg base CX0 7 f fd ["moor", "most"] (spM K 2 .F (f_never)):=by
 refine D.F.ok scnever (fun vs H Q E h=>h.1) (fun cdv A outer s H vs Q E hr h=>?_)
 exact ⟨tSt K (fun _ _=>False) .F m_never,(q_last (q_ret (@q_comp _ _ _ _ _ _ _ _ _ _ _ _ _ _ _ _ (show CompScope (defScope snever) _ ["moor", "most"] ["moor", "most", "move"] from ⟨rfl,by decide +kernel,by decide +kernel,by decide +kernel,by decide +kernel,by decide,by decide +kernel,by decide +kernel⟩) rfl (@q_iSqB _ _ _ _ _ _ (q_UB (q_ixU (qv .B 0) q_int)) (by rfl)) (fun _ _ _ _=>(@pg_name _ _ 2 _ (by decide +kernel:(["moor", "most", "move"]:List Str).Nodup) rfl (Or.inl rfl) (.inr rfl))) gt_U (gk_name (show 2≤2 by decide)) (fun _ _ _ _=>q_pifN) (fun _ _ _ _=>(q_FV (@q_call _ _ _ _ _ _ _ _ _ _ _ _ _ _ _ _ Gis_never (.inl rfl) (by exact hr.mono (by decide)) (by rfl) Dis_never.m Dis_never.F.kp Dis_never.b (q_acons (q_CB (q_VC (@q_call _ _ _ _ _ _ _ _ _ _ _ _ _ _ _ _ Gcover (.inr rfl) (by exact hr.mono (by decide)) (by rfl) Dcover.m Dcover.F.kp Dcover.b (q_acons (qv .B 0) (q_acons (q_UB (q_ixU (qv .B 2) q_int)) (q_acons (qv .B 1) q_anil))) (by decide) (by rfl) (by rfl)))) q_anil) (by decide) (by rfl) (by rfl)))) (by intro _; rfl)))),
  c_body (n:=2) (Nl:=["moor", "most"]) (.inl rfl) h⟩
theorem ok_law_cell_at {f:Addr} {fd:FuncData} (D:Def K mg "_law_cell_at" s_law_cell_at ["_law_script", "_law_k"] f fd) (B:Blt mg):FnOk P w K mg base CX0 1 f fd ["_law_script", "_law_k"] (spM K 2 .F (f__law_cell_at)):=by
 refine D.F.ok sc_law_cell_at (fun vs H Q E h=>h.1) (fun cdv A outer s H vs Q E hr h=>?_)
 exact ⟨tSt K (fun _ _=>False) .F m__law_cell_at,(q_cons (q_if_ (@q_tcmp _ _ _ _ _ _ _ _ _ _ _ _ op_lt (o2_I0 (g:=gLt) (fun _ _=>rfl) (fun _ _ _=>.bl)) (qv .B 1) (@q_cb _ _ _ _ _ _ _ _ _ _ _ _ _ _ K_len b_len (by rfl) B.len_ PySem.boot_len (q_acons (qv .B 0) q_anil) (by decide) (by decide) (by rfl) (by rfl)) (by first | exact nomark _ | rfl)) (q_last (q_ret (q_chkF (q_ixU (qv .B 0) (qv .B 1))))) q_nil) (q_last (q_ret q_int))),
  c_body (n:=2) (Nl:=["_law_script", "_law_k"]) (.inl rfl) h⟩
theorem ok_law_stream {f:Addr} {fd:FuncData} (D:Def K mg "_law_stream" s_law_stream ["_law_cell", "_law_salt", "_law_many"] f fd) (B:Blt mg):FnOk P w K mg base CX0 1 f fd ["_law_cell", "_law_salt", "_law_many"] (spM K 3 .F (f__law_stream)):=by
 refine D.F.ok sc_law_stream (fun vs H Q E h=>h.1) (fun cdv A outer s H vs Q E hr h=>?_)
 exact ⟨tSt K (fun _ _=>False) .F m__law_stream,(q_cons (@q_setF _ _ _ _ _ _ _ 3 _ _ sc_law_stream.nd rfl (by trivial) (q_lst q_anil) (by rfl) (by trivial)) (q_cons (@q_setV _ _ _ _ _ _ _ 4 _ _ sc_law_stream.nd rfl (by trivial) (q_op op_mod (o2_I (C:=cMod) (g:=gMod) (fun _ _=>rfl) (fun _ _ _=>.int)) (q_op op_add (o2_I0 (g:=gAdd) (fun _ _=>rfl) (fun _ _ _=>.int)) (q_op op_add (o2_I0 (g:=gAdd) (fun _ _=>rfl) (fun _ _ _=>.int)) (q_op op_mul (o2_I (C:=CMul) (g:=gMul) (fun _ _=>rfl) (fun _ _ _=>.int)) (q_op op_mod (o2_I (C:=cMod) (g:=gMod) (fun _ _=>rfl) (fun _ _ _=>.int)) (qv .B 0) q_int) q_int) (q_op op_mul (o2_I (C:=CMul) (g:=gMul) (fun _ _=>rfl) (fun _ _ _=>.int)) (q_op op_mul (o2_I (C:=CMul) (g:=gMul) (fun _ _=>rfl) (fun _ _ _=>.int)) (qv .B 1) (qv .B 1)) q_int)) q_int) q_int) (by rfl) (by trivial)) (q_cons (@q_for _ _ _ _ _ _ _ _ _ _ _ _ _ PassesOwn.never rfl (@q_rng1 _ _ _ _ _ _ _ _ _ (by rfl) B.range_ (q_acons (qv .B 2) q_anil) (by rfl)) (@pg_name _ _ 5 _ sc_law_stream.nd rfl (by trivial) (by trivial)) gt_U (q_cons (@q_setV _ _ _ _ _ _ _ 4 _ _ sc_law_stream.nd rfl (by trivial) (q_op op_mod (o2_I (C:=cMod) (g:=gMod) (fun _ _=>rfl) (fun _ _ _=>.int)) (q_op op_add (o2_I0 (g:=gAdd) (fun _ _=>rfl) (fun _ _ _=>.int)) (q_op op_add (o2_I0 (g:=gAdd) (fun _ _=>rfl) (fun _ _ _=>.int)) (q_op op_add (o2_I0 (g:=gAdd) (fun _ _=>rfl) (fun _ _ _=>.int)) (q_op op_mul (o2_I (C:=CMul) (g:=gMul) (fun _ _=>rfl) (fun _ _ _=>.int)) (qv .B 4) (qv .B 4)) (q_op op_mul (o2_I (C:=CMul) (g:=gMul) (fun _ _=>rfl) (fun _ _ _=>.int)) q_int (qv .B 4))) (qv .B 5)) (qv .B 1)) q_int) (by rfl) (by trivial)) (q_last (@q_app _ _ _ _ _ _ _ 3 _ _ _ _ rfl (by trivial) (qv .V 4) (by decide) (by decide) (by rfl) (by rfl) (by rfl) (by rfl) (by rfl)))) (by intro _; rfl)) (q_last (@q_retv _ _ _ _ _ 3 _ _ (.inl rfl) (by rfl) (by trivial) (by decide) (by decide)))))),
  c_body (n:=3) (Nl:=["_law_cell", "_law_salt", "_law_many", "_law_found", "_law_number", "_law_k"]) (.inl rfl) h⟩
theorem ok_law_count {f:Addr} {fd:FuncData} (D:Def K mg "_law_count" s_law_count ["_law_x", "_law_kind"] f fd) (B:Blt mg):FnOk P w K mg base CX0 1 f fd ["_law_x", "_law_kind"] (spM K 2 .F (f__law_count)):=by
 refine D.F.ok sc_law_count (fun vs H Q E h=>h.1) (fun cdv A outer s H vs Q E hr h=>?_)
 exact ⟨tSt K (fun _ _=>False) .F m__law_count,(q_cons (q_if_ (@q_tcmp _ _ _ _ _ _ _ _ _ _ _ _ op_eq o2_eqS (qv .B 1) q_int (by first | exact nomark _ | rfl)) (q_last (q_ret (q_op op_mod (o2_I (C:=cMod) (g:=gMod) (fun _ _=>rfl) (fun _ _ _=>.int)) (qv .B 0) q_int))) q_nil) (q_last (q_ret (q_op op_mul (o2_I (C:=CMul) (g:=gMul) (fun _ _=>rfl) (fun _ _ _=>.int)) (q_op op_mod (o2_I (C:=cMod) (g:=gMod) (fun _ _=>rfl) (fun _ _ _=>.int)) (qv .B 0) q_int) (q_op op_add (o2_I0 (g:=gAdd) (fun _ _=>rfl) (fun _ _ _=>.int)) (q_op op_fdiv (o2_I (C:=CDiv) (g:=gDiv) (fun _ _=>rfl) (fun _ _ _=>.int)) (q_op op_mod (o2_I (C:=cMod) (g:=gMod) (fun _ _=>rfl) (fun _ _ _=>.int)) (q_op op_fdiv (o2_I (C:=CDiv) (g:=gDiv) (fun _ _=>rfl) (fun _ _ _=>.int)) (qv .B 0) q_int) q_int) q_int) q_int))))),
  c_body (n:=2) (Nl:=["_law_x", "_law_kind"]) (.inl rfl) h⟩
theorem ok_law_moves {f:Addr} {fd:FuncData} (D:Def K mg "_law_moves" s_law_moves ["_law_script", "_law_many", "_law_kind"] f fd) (B:Blt mg) {f_law_stream:Addr} {fd_law_stream:FuncData} (D_law_stream:Def K mg "_law_stream" s_law_stream ["_law_cell", "_law_salt", "_law_many"] f_law_stream fd_law_stream) (G_law_stream:FnOk P w K mg base CX0 1 f_law_stream fd_law_stream ["_law_cell", "_law_salt", "_law_many"] (spM K 3 .F (f__law_stream))) {f_law_cell_at:Addr} {fd_law_cell_at:FuncData} (D_law_cell_at:Def K mg "_law_cell_at" s_law_cell_at ["_law_script", "_law_k"] f_law_cell_at fd_law_cell_at) (G_law_cell_at:FnOk P w K mg base CX0 1 f_law_cell_at fd_law_cell_at ["_law_script", "_law_k"] (spM K 2 .F (f__law_cell_at))) {f_law_count:Addr} {fd_law_count:FuncData} (D_law_count:Def K mg "_law_count" s_law_count ["_law_x", "_law_kind"] f_law_count fd_law_count) (G_law_count:FnOk P w K mg base CX0 1 f_law_count fd_law_count ["_law_x", "_law_kind"] (spM K 2 .F (f__law_count))):FnOk P w K mg base CX0 2 f fd ["_law_script", "_law_many", "_law_kind"] (spM K 3 .F (f__law_moves)):=by
 refine D.F.ok sc_law_moves (fun vs H Q E h=>h.1) (fun cdv A outer s H vs Q E hr h=>?_)
 exact ⟨tSt K (fun _ _=>False) .F m__law_moves,(q_cons (@q_setF _ _ _ _ _ _ _ 3 _ _ sc_law_moves.nd rfl (by trivial) (q_lst q_anil) (by rfl) (by trivial)) (q_cons (@q_for _ _ _ _ _ _ _ _ _ _ _ _ _ PassesOwn.never rfl (@q_rng1 _ _ _ _ _ _ _ _ _ (by rfl) B.range_ (q_acons (q_op op_add (o2_I0 (g:=gAdd) (fun _ _=>rfl) (fun _ _ _=>.int)) q_int (q_op op_mod (o2_I (C:=cMod) (g:=gMod) (fun _ _=>rfl) (fun _ _ _=>.int)) (q_CB (q_FC (@q_call _ _ _ _ _ _ _ _ _ _ _ _ _ _ _ _ G_law_cell_at (.inl rfl) (by exact hr.mono (by decide)) (by rfl) D_law_cell_at.m D_law_cell_at.F.kp D_law_cell_at.b (q_acons (qv .B 0) (q_acons q_int q_anil)) (by decide) (by rfl) (by rfl)))) q_int)) q_anil) (by rfl)) (@pg_name _ _ 4 _ sc_law_moves.nd rfl (by trivial) (by trivial)) gt_U (q_cons (@q_setF _ _ _ _ _ _ _ 5 _ _ sc_law_moves.nd rfl (by trivial) (@q_call _ _ _ _ _ _ _ _ _ _ _ _ _ _ _ _ G_law_stream (.inl rfl) (by exact hr.mono (by decide)) (by rfl) D_law_stream.m D_law_stream.F.kp D_law_stream.b (q_acons (q_CB (q_FC (@q_call _ _ _ _ _ _ _ _ _ _ _ _ _ _ _ _ G_law_cell_at (.inl rfl) (by exact hr.mono (by decide)) (by rfl) D_law_cell_at.m D_law_cell_at.F.kp D_law_cell_at.b (q_acons (qv .B 0) (q_acons (q_op op_add (o2_I0 (g:=gAdd) (fun _ _=>rfl) (fun _ _ _=>.int)) q_int (qv .B 4)) q_anil)) (by decide) (by rfl) (by rfl)))) (q_acons (q_op op_add (o2_I0 (g:=gAdd) (fun _ _=>rfl) (fun _ _ _=>.int)) q_int (qv .B 4)) (q_acons q_int q_anil))) (by decide) (by rfl) (by rfl)) (by rfl) (by trivial)) (q_cons (@q_setc _ _ _ _ _ _ _ 6 _ _ _ _ _ _ _ _ _ _ _ _ _ (show CompScope (defScope s_law_moves) _ ["_law_script", "_law_many", "_law_kind", "_law_moves_here", "_law_k", "_law_xs", "_law_take", "_law_put", "_law_at"] ["_law_script", "_law_many", "_law_kind", "_law_moves_here", "_law_k", "_law_xs", "_law_take", "_law_put", "_law_at", "_law_x"] from ⟨rfl,by decide +kernel,by decide +kernel,by decide +kernel,by decide +kernel,by decide,by decide +kernel,by decide +kernel⟩) rfl (@q_iSqB _ _ _ _ _ _ (q_CB (q_FC (@q_sl _ _ _ _ _ _ true _ _ _ _ _ (qv .C 5) q_pN (q_pS (qv .B 1)) (by rfl)))) (by rfl)) (fun _ _ _ _=>(@pg_name _ _ 9 _ (by decide +kernel:(["_law_script", "_law_many", "_law_kind", "_law_moves_here", "_law_k", "_law_xs", "_law_take", "_law_put", "_law_at", "_law_x"]:List Str).Nodup) rfl (Or.inl rfl) (.inr rfl))) gt_U (gk_name (show 9≤9 by decide)) (fun _ _ _ _=>q_pifN) (fun _ _ _ _=>(q_FV (@q_call _ _ _ _ _ _ _ _ _ _ _ _ _ _ _ _ G_law_count (.inl rfl) (by exact hr.mono (by decide)) (by rfl) D_law_count.m D_law_count.F.kp D_law_count.b (q_acons (qv .B 9) (q_acons (qv .B 2) q_anil)) (by decide) (by rfl) (by rfl)))) sc_law_moves.nd rfl (by trivial) (by rfl) (by trivial) (by intro _; rfl)) (q_cons (@q_setc _ _ _ _ _ _ _ 7 _ _ _ _ _ _ _ _ _ _ _ _ _ (show CompScope (defScope s_law_moves) _ ["_law_script", "_law_many", "_law_kind", "_law_moves_here", "_law_k", "_law_xs", "_law_take", "_law_put", "_law_at"] ["_law_script", "_law_many", "_law_kind", "_law_moves_here", "_law_k", "_law_xs", "_law_take", "_law_put", "_law_at", "_law_x"] from ⟨rfl,by decide +kernel,by decide +kernel,by decide +kernel,by decide +kernel,by decide,by decide +kernel,by decide +kernel⟩) rfl (@q_iSqB _ _ _ _ _ _ (q_CB (q_FC (@q_sl _ _ _ _ _ _ true _ _ _ _ _ (qv .C 5) (q_pS q_int) (q_pS (q_op op_add (o2_I0 (g:=gAdd) (fun _ _=>rfl) (fun _ _ _=>.int)) q_int (qv .B 1))) (by rfl)))) (by rfl)) (fun _ _ _ _=>(@pg_name _ _ 9 _ (by decide +kernel:(["_law_script", "_law_many", "_law_kind", "_law_moves_here", "_law_k", "_law_xs", "_law_take", "_law_put", "_law_at", "_law_x"]:List Str).Nodup) rfl (Or.inl rfl) (.inr rfl))) gt_U (gk_name (show 9≤9 by decide)) (fun _ _ _ _=>q_pifN) (fun _ _ _ _=>(q_FV (@q_call _ _ _ _ _ _ _ _ _ _ _ _ _ _ _ _ G_law_count (.inl rfl) (by exact hr.mono (by decide)) (by rfl) D_law_count.m D_law_count.F.kp D_law_count.b (q_acons (qv .B 9) (q_acons (qv .B 2) q_anil)) (by decide) (by rfl) (by rfl)))) sc_law_moves.nd rfl (by trivial) (by rfl) (by trivial) (by intro _; rfl)) (q_cons (@q_setV _ _ _ _ _ _ _ 8 _ _ sc_law_moves.nd rfl (by trivial) (q_op op_mod (o2_I (C:=cMod) (g:=gMod) (fun _ _=>rfl) (fun _ _ _=>.int)) (q_CB (q_FC (@q_call _ _ _ _ _ _ _ _ _ _ _ _ _ _ _ _ G_law_cell_at (.inl rfl) (by exact hr.mono (by decide)) (by rfl) D_law_cell_at.m D_law_cell_at.F.kp D_law_cell_at.b (q_acons (qv .B 0) (q_acons q_int q_anil)) (by decide) (by rfl) (by rfl)))) (qv .B 1)) (by rfl) (by trivial)) (q_cons (q_if_ (@q_tcmp _ _ _ _ _ _ _ _ _ _ _ _ op_eq o2_eqS (q_op op_mod (o2_I (C:=cMod) (g:=gMod) (fun _ _=>rfl) (fun _ _ _=>.int)) (q_op op_fdiv (o2_I (C:=CDiv) (g:=gDiv) (fun _ _=>rfl) (fun _ _ _=>.int)) (q_CB (q_FC (@q_call _ _ _ _ _ _ _ _ _ _ _ _ _ _ _ _ G_law_cell_at (.inl rfl) (by exact hr.mono (by decide)) (by rfl) D_law_cell_at.m D_law_cell_at.F.kp D_law_cell_at.b (q_acons (qv .B 0) (q_acons q_int q_anil)) (by decide) (by rfl) (by rfl)))) q_int) q_int) q_int (by first | exact nomark _ | rfl)) (q_last (@q_set _ _ _ _ _ _ _ _ 7 _ _ _ _ rfl (by trivial) (qv .B 8) (@q_cb _ _ _ _ _ _ _ _ _ _ _ _ _ _ (call_min2 rfl) (b_2 (g:=gMin)) (by rfl) B.min_ bt_min (q_acons (q_UB (q_ixU (qv .B 7) (qv .B 8))) (q_acons (q_UB (q_ixU (qv .B 6) (qv .B 8))) q_anil)) (by decide) (by decide) (by rfl) (by rfl)) (by decide) (by decide) (@pg_sub _ _ _ _ _ _ _ (@pv _ 7 _ _ (by rfl) (by trivial) (by decide) (by decide)) (qv .B 8) set_list (by intro _; rfl)) (by rfl) (by rfl))) q_nil) (q_last (@q_app _ _ _ _ _ _ _ 3 _ _ _ _ rfl (by trivial) (q_FV (q_tup (q_acons (q_FV (@q_ct _ _ _ _ _ _ _ _ _ _ _ _ _ _ K_tup (b_tup (c:=true)) (by rfl) B.tuple_ bt_tuple (q_acons (qv .C 6) q_anil) (by decide) (by decide) (by rfl) (by rfl))) (q_acons (q_FV (@q_ct _ _ _ _ _ _ _ _ _ _ _ _ _ _ K_tup (b_tup (c:=true)) (by rfl) B.tuple_ bt_tuple (q_acons (qv .C 7) q_anil) (by decide) (by decide) (by rfl) (by rfl))) q_anil)))) (by decide) (by decide) (by rfl) (by rfl) (by rfl) (by rfl) (by rfl)))))))) (by intro _; rfl)) (q_last (q_ret (@q_ct _ _ _ _ _ _ _ _ _ _ _ _ _ _ K_tup (b_tup (c:=true)) (by rfl) B.tuple_ bt_tuple (q_acons (qv .C 3) q_anil) (by decide) (by decide) (by rfl) (by rfl)))))),
  c_body (n:=3) (Nl:=["_law_script", "_law_many", "_law_kind", "_law_moves_here", "_law_k", "_law_xs", "_law_take", "_law_put", "_law_at"]) (.inl rfl) h⟩
theorem ok_law_order {f:Addr} {fd:FuncData} (D:Def K mg "_law_order" s_law_order ["_law_cell", "_law_many"] f fd) (B:Blt mg):FnOk P w K mg base CX0 1 f fd ["_law_cell", "_law_many"] (spM K 2 .F (f__law_order)):=by
 refine D.F.ok sc_law_order (fun vs H Q E h=>h.1) (fun cdv A outer s H vs Q E hr h=>?_)
 exact ⟨tSt K (fun _ _=>False) .F m__law_order,(q_cons (@q_setF _ _ _ _ _ _ _ 2 _ _ sc_law_order.nd rfl (by trivial) (@q_lrange _ _ _ _ _ _ _ _ _ rfl (by rfl) B.list_ (by rfl) B.range_ (q_acons (qv .B 1) q_anil) (by rfl) (by rfl)) (by rfl) (by trivial)) (q_cons (@q_setF _ _ _ _ _ _ _ 3 _ _ sc_law_order.nd rfl (by trivial) (q_lst q_anil) (by rfl) (by trivial)) (q_cons (@q_for _ _ _ _ _ _ _ _ _ _ _ _ _ PassesOwn.never rfl (@q_rng1 _ _ _ _ _ _ _ _ _ (by rfl) B.range_ (q_acons (qv .B 1) q_anil) (by rfl)) (@pg_name _ _ 4 _ sc_law_order.nd rfl (by trivial) (by trivial)) gt_U (q_cons (@q_appPop _ _ _ _ _ _ _ 3 2 _ _ _ _ _ _ _ _ rfl (by trivial) rfl (by trivial) (q_op op_mod (o2_I (C:=cMod) (g:=gMod) (fun _ _=>rfl) (fun _ _ _=>.int)) (qv .B 0) (@q_cb _ _ _ _ _ _ _ _ _ _ _ _ _ _ K_len b_len (by rfl) B.len_ PySem.boot_len (q_acons (qv .B 2) q_anil) (by decide) (by decide) (by rfl) (by rfl))) (by rfl) (by decide) (by decide) (by decide) (by decide) (by rfl) (by rfl) (by rfl) (by rfl) (by rfl) (by rfl) (by rfl) (by rfl) (by rfl) (by rfl)) (q_last (@q_setV _ _ _ _ _ _ _ 0 _ _ sc_law_order.nd rfl (by trivial) (q_op op_fdiv (o2_I (C:=CDiv) (g:=gDiv) (fun _ _=>rfl) (fun _ _ _=>.int)) (qv .B 0) q_int) (by rfl) (by trivial)))) (by intro _; rfl)) (q_last (@q_retv _ _ _ _ _ 3 _ _ (.inl rfl) (by rfl) (by trivial) (by decide) (by decide)))))),
  c_body (n:=2) (Nl:=["_law_cell", "_law_many", "_law_left", "_law_order_here", "_law_k"]) (.inl rfl) h⟩
theorem ok_law_scaled {f:Addr} {fd:FuncData} (D:Def K mg "_law_scaled" s_law_scaled ["_law_stand", "_law_factor"] f fd) (B:Blt mg):FnOk P w K mg base CX0 1 f fd ["_law_stand", "_law_factor"] (spM K 2 .F (f__law_scaled)):=by
 refine D.F.ok sc_law_scaled (fun vs H Q E h=>h.1) (fun cdv A outer s H vs Q E hr h=>?_)
 exact ⟨tSt K (fun _ _=>False) .F m__law_scaled,(q_last (q_ret (@q_ct _ _ _ _ _ _ _ _ _ _ _ _ _ _ K_tup (b_tup (c:=true)) (by rfl) B.tuple_ bt_tuple (q_acons (q_FC (@q_comp _ _ _ _ _ _ _ _ _ _ _ _ _ _ _ _ (show CompScope (defScope s_law_scaled) _ ["_law_stand", "_law_factor"] ["_law_stand", "_law_factor", "_law_number"] from ⟨rfl,by decide +kernel,by decide +kernel,by decide +kernel,by decide +kernel,by decide,by decide +kernel,by decide +kernel⟩) rfl (@q_iSqB _ _ _ _ _ _ (qv .B 0) (by rfl)) (fun _ _ _ _=>(@pg_name _ _ 2 _ (by decide +kernel:(["_law_stand", "_law_factor", "_law_number"]:List Str).Nodup) rfl (Or.inl rfl) (.inr rfl))) gt_U (gk_name (show 2≤2 by decide)) (fun _ _ _ _=>q_pifN) (fun _ _ _ _=>(q_op op_mul (o2_I (C:=CMul) (g:=gMul) (fun _ _=>rfl) (fun _ _ _=>.int)) (qv .B 2) (qv .B 1))) (by intro _; rfl))) q_anil) (by decide) (by decide) (by rfl) (by rfl)))),
  c_body (n:=2) (Nl:=["_law_stand", "_law_factor"]) (.inl rfl) h⟩
theorem ok_law_put_so {f:Addr} {fd:FuncData} (D:Def K mg "_law_put_so" s_law_put_so ["_law_stand", "_law_order_here"] f fd) (B:Blt mg):FnOk P w K mg base CX0 1 f fd ["_law_stand", "_law_order_here"] (spM K 2 .F (f__law_put_so)):=by
 refine D.F.ok sc_law_put_so (fun vs H Q E h=>h.1) (fun cdv A outer s H vs Q E hr h=>?_)
 exact ⟨tSt K (fun _ _=>False) .F m__law_put_so,(q_last (q_ret (@q_ct _ _ _ _ _ _ _ _ _ _ _ _ _ _ K_tup (b_tup (c:=true)) (by rfl) B.tuple_ bt_tuple (q_acons (q_FC (@q_comp _ _ _ _ _ _ _ _ _ _ _ _ _ _ _ _ (show CompScope (defScope s_law_put_so) _ ["_law_stand", "_law_order_here"] ["_law_stand", "_law_order_here", "_law_k"] from ⟨rfl,by decide +kernel,by decide +kernel,by decide +kernel,by decide +kernel,by decide,by decide +kernel,by decide +kernel⟩) rfl (@q_iSqB _ _ _ _ _ _ (qv .B 1) (by rfl)) (fun _ _ _ _=>(@pg_name _ _ 2 _ (by decide +kernel:(["_law_stand", "_law_order_here", "_law_k"]:List Str).Nodup) rfl (Or.inl rfl) (.inr rfl))) gt_U (gk_name (show 2≤2 by decide)) (fun _ _ _ _=>q_pifN) (fun _ _ _ _=>(q_chkV (q_ixU (qv .B 0) (qv .B 2)))) (by intro _; rfl))) q_anil) (by decide) (by decide) (by rfl) (by rfl)))),
  c_body (n:=2) (Nl:=["_law_stand", "_law_order_here"]) (.inl rfl) h⟩
theorem ok_law_all_scaled {f:Addr} {fd:FuncData} (D:Def K mg "_law_all_scaled" s_law_all_scaled ["_law_moves_here", "_law_factor"] f fd) (B:Blt mg) {f_law_scaled:Addr} {fd_law_scaled:FuncData} (D_law_scaled:Def K mg "_law_scaled" s_law_scaled ["_law_stand", "_law_factor"] f_law_scaled fd_law_scaled) (G_law_scaled:FnOk P w K mg base CX0 1 f_law_scaled fd_law_scaled ["_law_stand", "_law_factor"] (spM K 2 .F (f__law_scaled))):FnOk P w K mg base CX0 2 f fd ["_law_moves_here", "_law_factor"] (spM K 2 .F (f__law_all_scaled)):=by
 refine D.F.ok sc_law_all_scaled (fun vs H Q E h=>h.1) (fun cdv A outer s H vs Q E hr h=>?_)
 exact ⟨tSt K (fun _ _=>False) .F m__law_all_scaled,(q_last (q_ret (@q_ct _ _ _ _ _ _ _ _ _ _ _ _ _ _ K_tup (b_tup (c:=true)) (by rfl) B.tuple_ bt_tuple (q_acons (q_FC (@q_comp _ _ _ _ _ _ _ _ _ _ _ _ _ _ _ _ (show CompScope (defScope s_law_all_scaled) _ ["_law_moves_here", "_law_factor"] ["_law_moves_here", "_law_factor", "_law_move"] from ⟨rfl,by decide +kernel,by decide +kernel,by decide +kernel,by decide +kernel,by decide,by decide +kernel,by decide +kernel⟩) rfl (@q_iSqB _ _ _ _ _ _ (qv .B 0) (by rfl)) (fun _ _ _ _=>(@pg_name _ _ 2 _ (by decide +kernel:(["_law_moves_here", "_law_factor", "_law_move"]:List Str).Nodup) rfl (Or.inl rfl) (.inr rfl))) gt_U (gk_name (show 2≤2 by decide)) (fun _ _ _ _=>q_pifN) (fun _ _ _ _=>(q_FV (q_tup (q_acons (q_FV (@q_call _ _ _ _ _ _ _ _ _ _ _ _ _ _ _ _ G_law_scaled (.inl rfl) (by exact hr.mono (by decide)) (by rfl) D_law_scaled.m D_law_scaled.F.kp D_law_scaled.b (q_acons (q_UB (q_ixU (qv .B 2) q_int)) (q_acons (qv .B 1) q_anil)) (by decide) (by rfl) (by rfl))) (q_acons (q_FV (@q_call _ _ _ _ _ _ _ _ _ _ _ _ _ _ _ _ G_law_scaled (.inl rfl) (by exact hr.mono (by decide)) (by rfl) D_law_scaled.m D_law_scaled.F.kp D_law_scaled.b (q_acons (q_UB (q_ixU (qv .B 2) q_int)) (q_acons (qv .B 1) q_anil)) (by decide) (by rfl) (by rfl))) q_anil))))) (by intro _; rfl))) q_anil) (by decide) (by decide) (by rfl) (by rfl)))),
  c_body (n:=2) (Nl:=["_law_moves_here", "_law_factor"]) (.inl rfl) h⟩
theorem ok_law_all_put_so {f:Addr} {fd:FuncData} (D:Def K mg "_law_all_put_so" s_law_all_put_so ["_law_moves_here", "_law_order_here"] f fd) (B:Blt mg) {f_law_put_so:Addr} {fd_law_put_so:FuncData} (D_law_put_so:Def K mg "_law_put_so" s_law_put_so ["_law_stand", "_law_order_here"] f_law_put_so fd_law_put_so) (G_law_put_so:FnOk P w K mg base CX0 1 f_law_put_so fd_law_put_so ["_law_stand", "_law_order_here"] (spM K 2 .F (f__law_put_so))):FnOk P w K mg base CX0 2 f fd ["_law_moves_here", "_law_order_here"] (spM K 2 .F (f__law_all_put_so)):=by
 refine D.F.ok sc_law_all_put_so (fun vs H Q E h=>h.1) (fun cdv A outer s H vs Q E hr h=>?_)
 exact ⟨tSt K (fun _ _=>False) .F m__law_all_put_so,(q_last (q_ret (@q_ct _ _ _ _ _ _ _ _ _ _ _ _ _ _ K_tup (b_tup (c:=true)) (by rfl) B.tuple_ bt_tuple (q_acons (q_FC (@q_comp _ _ _ _ _ _ _ _ _ _ _ _ _ _ _ _ (show CompScope (defScope s_law_all_put_so) _ ["_law_moves_here", "_law_order_here"] ["_law_moves_here", "_law_order_here", "_law_move"] from ⟨rfl,by decide +kernel,by decide +kernel,by decide +kernel,by decide +kernel,by decide,by decide +kernel,by decide +kernel⟩) rfl (@q_iSqB _ _ _ _ _ _ (qv .B 0) (by rfl)) (fun _ _ _ _=>(@pg_name _ _ 2 _ (by decide +kernel:(["_law_moves_here", "_law_order_here", "_law_move"]:List Str).Nodup) rfl (Or.inl rfl) (.inr rfl))) gt_U (gk_name (show 2≤2 by decide)) (fun _ _ _ _=>q_pifN) (fun _ _ _ _=>(q_FV (q_tup (q_acons (q_FV (@q_call _ _ _ _ _ _ _ _ _ _ _ _ _ _ _ _ G_law_put_so (.inl rfl) (by exact hr.mono (by decide)) (by rfl) D_law_put_so.m D_law_put_so.F.kp D_law_put_so.b (q_acons (q_UB (q_ixU (qv .B 2) q_int)) (q_acons (qv .B 1) q_anil)) (by decide) (by rfl) (by rfl))) (q_acons (q_FV (@q_call _ _ _ _ _ _ _ _ _ _ _ _ _ _ _ _ G_law_put_so (.inl rfl) (by exact hr.mono (by decide)) (by rfl) D_law_put_so.m D_law_put_so.F.kp D_law_put_so.b (q_acons (q_UB (q_ixU (qv .B 2) q_int)) (q_acons (qv .B 1) q_anil)) (by decide) (by rfl) (by rfl))) q_anil))))) (by intro _; rfl))) q_anil) (by decide) (by decide) (by rfl) (by rfl)))),
  c_body (n:=2) (Nl:=["_law_moves_here", "_law_order_here"]) (.inl rfl) h⟩
theorem ok_law_more_moves {f:Addr} {fd:FuncData} (D:Def K mg "_law_more_moves" s_law_more_moves ["_law_moves_here", "_law_many", "_law_cell"] f fd) (B:Blt mg):FnOk P w K mg base CX0 1 f fd ["_law_moves_here", "_law_many", "_law_cell"] (spM K 3 .F (f__law_more_moves)):=by
 refine D.F.ok sc_law_more_moves (fun vs H Q E h=>h.1) (fun cdv A outer s H vs Q E hr h=>?_)
 exact ⟨tSt K (fun _ _=>False) .F m__law_more_moves,(q_cons (@q_setF _ _ _ _ _ _ _ 3 _ _ sc_law_more_moves.nd rfl (by trivial) (@q_ct _ _ _ _ _ _ _ _ _ _ _ _ _ _ K_list (b_list (c:=false)) (by rfl) B.list_ bt_list (q_acons (qv .B 0) q_anil) (by decide) (by decide) (by rfl) (by rfl)) (by rfl) (by trivial)) (q_cons (@q_setF _ _ _ _ _ _ _ 4 _ _ sc_law_more_moves.nd rfl (by trivial) (@q_ct _ _ _ _ _ _ _ _ _ _ _ _ _ _ K_tup (b_tup (c:=true)) (by rfl) B.tuple_ bt_tuple (q_acons (q_FC (q_op op_rep (o2_rep (c:=true)) (q_FC (q_lst (q_acons q_int q_anil))) (qv .C 1))) q_anil) (by decide) (by decide) (by rfl) (by rfl)) (by rfl) (by trivial)) (q_cons (@q_for _ _ _ _ _ _ _ _ _ _ _ _ _ PassesOwn.never rfl (@q_rng1 _ _ _ _ _ _ _ _ _ (by rfl) B.range_ (q_acons (q_op op_add (o2_I0 (g:=gAdd) (fun _ _=>rfl) (fun _ _ _=>.int)) q_int (q_op op_mod (o2_I (C:=cMod) (g:=gMod) (fun _ _=>rfl) (fun _ _ _=>.int)) (qv .B 2) q_int)) q_anil) (by rfl)) (@pg_name _ _ 5 _ sc_law_more_moves.nd rfl (by trivial) (by trivial)) gt_U (q_last (q_if_ (@q_tcmp _ _ _ _ _ _ _ _ _ _ _ _ op_eq o2_eqS (q_op op_mod (o2_I (C:=cMod) (g:=gMod) (fun _ _=>rfl) (fun _ _ _=>.int)) (q_op op_fdiv (o2_I (C:=CDiv) (g:=gDiv) (fun _ _=>rfl) (fun _ _ _=>.int)) (q_op op_fdiv (o2_I (C:=CDiv) (g:=gDiv) (fun _ _=>rfl) (fun _ _ _=>.int)) (qv .B 2) q_int) (q_op op_add (o2_I0 (g:=gAdd) (fun _ _=>rfl) (fun _ _ _=>.int)) (qv .B 5) q_int)) q_int) q_int (by first | exact nomark _ | rfl)) (q_last (@q_app _ _ _ _ _ _ _ 3 _ _ _ _ rfl (by trivial) (q_FV (q_tup (q_acons (qv .V 4) (q_acons (qv .V 4) q_anil)))) (by decide) (by decide) (by rfl) (by rfl) (by rfl) (by rfl) (by rfl))) (q_last (@q_app _ _ _ _ _ _ _ 3 _ _ _ _ rfl (by trivial) (q_chkV (q_ixU (qv .B 0) (q_op op_mod (o2_I (C:=cMod) (g:=gMod) (fun _ _=>rfl) (fun _ _ _=>.int)) (q_op op_fdiv (o2_I (C:=CDiv) (g:=gDiv) (fun _ _=>rfl) (fun _ _ _=>.int)) (qv .B 2) q_int) (@q_cb _ _ _ _ _ _ _ _ _ _ _ _ _ _ K_len b_len (by rfl) B.len_ PySem.boot_len (q_acons (qv .B 0) q_anil) (by decide) (by decide) (by rfl) (by rfl))))) (by decide) (by decide) (by rfl) (by rfl) (by rfl) (by rfl) (by rfl))))) (by intro _; rfl)) (q_last (q_ret (@q_ct _ _ _ _ _ _ _ _ _ _ _ _ _ _ K_tup (b_tup (c:=true)) (by rfl) B.tuple_ bt_tuple (q_acons (qv .C 3) q_anil) (by decide) (by decide) (by rfl) (by rfl))))))),
  c_body (n:=3) (Nl:=["_law_moves_here", "_law_many", "_law_cell", "_law_more", "_law_nothing", "_law_k"]) (.inl rfl) h⟩
theorem ok_law_same {f:Addr} {fd:FuncData} (D:Def K mg "_law_same" s_law_same ["_law_one", "_law_other", "_law_form", "_law_by"] f fd) (B:Blt mg) {f_law_scaled:Addr} {fd_law_scaled:FuncData} (D_law_scaled:Def K mg "_law_scaled" s_law_scaled ["_law_stand", "_law_factor"] f_law_scaled fd_law_scaled) (G_law_scaled:FnOk P w K mg base CX0 1 f_law_scaled fd_law_scaled ["_law_stand", "_law_factor"] (spM K 2 .F (f__law_scaled))) {f_law_put_so:Addr} {fd_law_put_so:FuncData} (D_law_put_so:Def K mg "_law_put_so" s_law_put_so ["_law_stand", "_law_order_here"] f_law_put_so fd_law_put_so) (G_law_put_so:FnOk P w K mg base CX0 1 f_law_put_so fd_law_put_so ["_law_stand", "_law_order_here"] (spM K 2 .F (f__law_put_so))):FnOk P w K mg base CX0 2 f fd ["_law_one", "_law_other", "_law_form", "_law_by"] (spM K 4 .F (f__law_same)):=by
 refine D.F.ok sc_law_same (fun vs H Q E h=>h.1) (fun cdv A outer s H vs Q E hr h=>?_)
 exact ⟨tSt K (fun _ _=>False) .F m__law_same,(q_cons (q_if_ (@q_tcmp _ _ _ _ _ _ _ _ _ _ _ _ (op_neD (hu64 hr)) (o2_eqD (neg:=true)) (q_UB (q_ixU (qv .B 0) q_int)) (q_UB (q_ixU (qv .B 1) q_int)) (by first | exact nomark _ | rfl)) (q_last (q_ret q_bl)) q_nil) (q_cons (q_if_ (PW.pt (q_tor (@q_tcmp _ _ _ _ _ _ _ _ _ _ _ _ op_eq o2_eqS (q_UB (q_ixU (qv .B 0) q_int)) q_str (by first | exact nomark _ | rfl)) (q_tor1 (@q_tcmp _ _ _ _ _ _ _ _ _ _ _ _ op_eq o2_eqS (q_UB (q_ixU (qv .B 0) q_int)) q_str (by first | exact nomark _ | rfl))))) (q_last (q_ret (@q_cmp _ _ _ _ _ _ _ _ _ _ _ _ _ (op_eqD (hu64 hr)) (o2_eqD (neg:=false)) (q_UB (q_ixU (qv .B 0) q_int)) (q_UB (q_ixU (qv .B 1) q_int)) (by first | exact nomark _ | rfl)))) q_nil) (q_cons (q_if_ (@q_tcmp _ _ _ _ _ _ _ _ _ _ _ _ op_eq o2_eqS (qv .B 2) q_int (by first | exact nomark _ | rfl)) (q_last (q_ret (@q_cmp _ _ _ _ _ _ _ _ _ _ _ _ _ (op_eqD (hu64 hr)) (o2_eqD (neg:=false)) (q_CB (q_FC (@q_comp _ _ _ _ _ _ _ _ _ _ _ _ _ _ _ _ (show CompScope (defScope s_law_same) _ ["_law_one", "_law_other", "_law_form", "_law_by"] ["_law_one", "_law_other", "_law_form", "_law_by", "_law_stand"] from ⟨rfl,by decide +kernel,by decide +kernel,by decide +kernel,by decide +kernel,by decide,by decide +kernel,by decide +kernel⟩) rfl (@q_iSqB _ _ _ _ _ _ (q_UB (q_ixU (qv .B 0) q_int)) (by rfl)) (fun _ _ _ _=>(@pg_name _ _ 4 _ (by decide +kernel:(["_law_one", "_law_other", "_law_form", "_law_by", "_law_stand"]:List Str).Nodup) rfl (Or.inl rfl) (.inr rfl))) gt_U (gk_name (show 4≤4 by decide)) (fun _ _ _ _=>q_pifN) (fun _ _ _ _=>(q_FV (@q_call _ _ _ _ _ _ _ _ _ _ _ _ _ _ _ _ G_law_scaled (.inl rfl) (by exact hr.mono (by decide)) (by rfl) D_law_scaled.m D_law_scaled.F.kp D_law_scaled.b (q_acons (qv .B 4) (q_acons (qv .B 3) q_anil)) (by decide) (by rfl) (by rfl)))) (by intro _; rfl)))) (q_UB (q_ixU (qv .B 1) q_int)) (by first | exact nomark _ | rfl)))) q_nil) (q_last (q_ret (@q_cmp _ _ _ _ _ _ _ _ _ _ _ _ _ (op_eqD (hu64 hr)) (o2_eqD (neg:=false)) (q_CB (q_FC (@q_cb _ _ _ _ _ _ _ _ _ _ _ _ _ _ call_sortT (b_sort (c:=true)) (by rfl) B.sorted_ bt_sorted (q_acons (q_FC (@q_comp _ _ _ _ _ _ _ _ _ _ _ _ _ _ _ _ (show CompScope (defScope s_law_same) _ ["_law_one", "_law_other", "_law_form", "_law_by"] ["_law_one", "_law_other", "_law_form", "_law_by", "_law_stand"] from ⟨rfl,by decide +kernel,by decide +kernel,by decide +kernel,by decide +kernel,by decide,by decide +kernel,by decide +kernel⟩) rfl (@q_iSqB _ _ _ _ _ _ (q_UB (q_ixU (qv .B 0) q_int)) (by rfl)) (fun _ _ _ _=>(@pg_name _ _ 4 _ (by decide +kernel:(["_law_one", "_law_other", "_law_form", "_law_by", "_law_stand"]:List Str).Nodup) rfl (Or.inl rfl) (.inr rfl))) gt_U (gk_name (show 4≤4 by decide)) (fun _ _ _ _=>q_pifN) (fun _ _ _ _=>(q_FV (@q_call _ _ _ _ _ _ _ _ _ _ _ _ _ _ _ _ G_law_put_so (.inl rfl) (by exact hr.mono (by decide)) (by rfl) D_law_put_so.m D_law_put_so.F.kp D_law_put_so.b (q_acons (qv .B 4) (q_acons (qv .B 3) q_anil)) (by decide) (by rfl) (by rfl)))) (by intro _; rfl))) q_anil) (by decide) (by decide) (by rfl) (by rfl)))) (q_UB (q_ixU (qv .B 1) q_int)) (by first | exact nomark _ | rfl))))))),
  c_body (n:=4) (Nl:=["_law_one", "_law_other", "_law_form", "_law_by"]) (.inl rfl) h⟩
theorem oklaw {f:Addr} {fd:FuncData} (D:Def K mg "law" slaw ["_law_script"] f fd) (B:Blt mg) {f_law_moves:Addr} {fd_law_moves:FuncData} (D_law_moves:Def K mg "_law_moves" s_law_moves ["_law_script", "_law_many", "_law_kind"] f_law_moves fd_law_moves) (G_law_moves:FnOk P w K mg base CX0 2 f_law_moves fd_law_moves ["_law_script", "_law_many", "_law_kind"] (spM K 3 .F (f__law_moves))) {f_law_stream:Addr} {fd_law_stream:FuncData} (D_law_stream:Def K mg "_law_stream" s_law_stream ["_law_cell", "_law_salt", "_law_many"] f_law_stream fd_law_stream) (G_law_stream:FnOk P w K mg base CX0 1 f_law_stream fd_law_stream ["_law_cell", "_law_salt", "_law_many"] (spM K 3 .F (f__law_stream))) {f_law_order:Addr} {fd_law_order:FuncData} (D_law_order:Def K mg "_law_order" s_law_order ["_law_cell", "_law_many"] f_law_order fd_law_order) (G_law_order:FnOk P w K mg base CX0 1 f_law_order fd_law_order ["_law_cell", "_law_many"] (spM K 2 .F (f__law_order))) {f_law_all_scaled:Addr} {fd_law_all_scaled:FuncData} (D_law_all_scaled:Def K mg "_law_all_scaled" s_law_all_scaled ["_law_moves_here", "_law_factor"] f_law_all_scaled fd_law_all_scaled) (G_law_all_scaled:FnOk P w K mg base CX0 2 f_law_all_scaled fd_law_all_scaled ["_law_moves_here", "_law_factor"] (spM K 2 .F (f__law_all_scaled))) {f_law_scaled:Addr} {fd_law_scaled:FuncData} (D_law_scaled:Def K mg "_law_scaled" s_law_scaled ["_law_stand", "_law_factor"] f_law_scaled fd_law_scaled) (G_law_scaled:FnOk P w K mg base CX0 1 f_law_scaled fd_law_scaled ["_law_stand", "_law_factor"] (spM K 2 .F (f__law_scaled))) {f_law_all_put_so:Addr} {fd_law_all_put_so:FuncData} (D_law_all_put_so:Def K mg "_law_all_put_so" s_law_all_put_so ["_law_moves_here", "_law_order_here"] f_law_all_put_so fd_law_all_put_so) (G_law_all_put_so:FnOk P w K mg base CX0 2 f_law_all_put_so fd_law_all_put_so ["_law_moves_here", "_law_order_here"] (spM K 2 .F (f__law_all_put_so))) {f_law_put_so:Addr} {fd_law_put_so:FuncData} (D_law_put_so:Def K mg "_law_put_so" s_law_put_so ["_law_stand", "_law_order_here"] f_law_put_so fd_law_put_so) (G_law_put_so:FnOk P w K mg base CX0 1 f_law_put_so fd_law_put_so ["_law_stand", "_law_order_here"] (spM K 2 .F (f__law_put_so))) {f_law_more_moves:Addr} {fd_law_more_moves:FuncData} (D_law_more_moves:Def K mg "_law_more_moves" s_law_more_moves ["_law_moves_here", "_law_many", "_law_cell"] f_law_more_moves fd_law_more_moves) (G_law_more_moves:FnOk P w K mg base CX0 1 f_law_more_moves fd_law_more_moves ["_law_moves_here", "_law_many", "_law_cell"] (spM K 3 .F (f__law_more_moves))) {fnever:Addr} {fdnever:FuncData} (Dnever:Def K mg "never" snever ["moor", "most"] fnever fdnever) (Gnever:FnOk P w K mg base CX0 7 fnever fdnever ["moor", "most"] (spM K 2 .F (f_never))) {f_law_cell_at:Addr} {fd_law_cell_at:FuncData} (D_law_cell_at:Def K mg "_law_cell_at" s_law_cell_at ["_law_script", "_law_k"] f_law_cell_at fd_law_cell_at) (G_law_cell_at:FnOk P w K mg base CX0 1 f_law_cell_at fd_law_cell_at ["_law_script", "_law_k"] (spM K 2 .F (f__law_cell_at))) {fcover:Addr} {fdcover:FuncData} (Dcover:Def K mg "cover" scover ["moor", "target", "most"] fcover fdcover) (Gcover:FnOk P w K mg base CX0 6 fcover fdcover ["moor", "target", "most"] (spM K 3 .V (f_cover))) {fenough:Addr} {fdenough:FuncData} (Denough:Def K mg "enough" senough ["moves", "target", "most"] fenough fdenough) (Genough:FnOk P w K mg base CX0 5 fenough fdenough ["moves", "target", "most"] (spM K 3 .V (f_enough))) {f_law_count:Addr} {fd_law_count:FuncData} (D_law_count:Def K mg "_law_count" s_law_count ["_law_x", "_law_kind"] f_law_count fd_law_count) (G_law_count:FnOk P w K mg base CX0 1 f_law_count fd_law_count ["_law_x", "_law_kind"] (spM K 2 .F (f__law_count))) {f_law_same:Addr} {fd_law_same:FuncData} (D_law_same:Def K mg "_law_same" s_law_same ["_law_one", "_law_other", "_law_form", "_law_by"] f_law_same fd_law_same) (G_law_same:FnOk P w K mg base CX0 2 f_law_same fd_law_same ["_law_one", "_law_other", "_law_form", "_law_by"] (spM K 4 .F (f__law_same))):FnOk P w K mg base CX0 8 f fd ["_law_script"] (spM K 1 .F (f_law)):=by
 refine D.F.ok sclaw (fun vs H Q E h=>h.1) (fun cdv A outer s H vs Q E hr h=>?_)
 exact ⟨tSt K (fun _ _=>False) .F m_law,(q_cons (@q_setV _ _ _ _ _ _ _ 1 _ _ sclaw.nd rfl (by trivial) (q_op op_add (o2_I0 (g:=gAdd) (fun _ _=>rfl) (fun _ _ _=>.int)) q_int (q_op op_mod (o2_I (C:=cMod) (g:=gMod) (fun _ _=>rfl) (fun _ _ _=>.int)) (q_CB (q_FC (@q_call _ _ _ _ _ _ _ _ _ _ _ _ _ _ _ _ G_law_cell_at (.inl rfl) (by exact hr.mono (by decide)) (by rfl) D_law_cell_at.m D_law_cell_at.F.kp D_law_cell_at.b (q_acons (qv .B 0) (q_acons q_int q_anil)) (by decide) (by rfl) (by rfl)))) q_int)) (by rfl) (by trivial)) (q_cons (@q_setV _ _ _ _ _ _ _ 2 _ _ sclaw.nd rfl (by trivial) (q_op op_mod (o2_I (C:=cMod) (g:=gMod) (fun _ _=>rfl) (fun _ _ _=>.int)) (q_op op_fdiv (o2_I (C:=CDiv) (g:=gDiv) (fun _ _=>rfl) (fun _ _ _=>.int)) (q_CB (q_FC (@q_call _ _ _ _ _ _ _ _ _ _ _ _ _ _ _ _ G_law_cell_at (.inl rfl) (by exact hr.mono (by decide)) (by rfl) D_law_cell_at.m D_law_cell_at.F.kp D_law_cell_at.b (q_acons (qv .B 0) (q_acons q_int q_anil)) (by decide) (by rfl) (by rfl)))) q_int) q_int) (by rfl) (by trivial)) (q_cons (@q_setF _ _ _ _ _ _ _ 3 _ _ sclaw.nd rfl (by trivial) (@q_call _ _ _ _ _ _ _ _ _ _ _ _ _ _ _ _ G_law_moves (.inl rfl) (by exact hr.mono (by decide)) (by rfl) D_law_moves.m D_law_moves.F.kp D_law_moves.b (q_acons (qv .B 0) (q_acons (qv .B 1) (q_acons (qv .B 2) q_anil))) (by decide) (by rfl) (by rfl)) (by rfl) (by trivial)) (q_cons (@q_setF _ _ _ _ _ _ _ 4 _ _ sclaw.nd rfl (by trivial) (@q_call _ _ _ _ _ _ _ _ _ _ _ _ _ _ _ _ G_law_stream (.inl rfl) (by exact hr.mono (by decide)) (by rfl) D_law_stream.m D_law_stream.F.kp D_law_stream.b (q_acons (q_CB (q_FC (@q_call _ _ _ _ _ _ _ _ _ _ _ _ _ _ _ _ G_law_cell_at (.inl rfl) (by exact hr.mono (by decide)) (by rfl) D_law_cell_at.m D_law_cell_at.F.kp D_law_cell_at.b (q_acons (qv .B 0) (q_acons q_int q_anil)) (by decide) (by rfl) (by rfl)))) (q_acons q_int (q_acons q_int q_anil))) (by decide) (by rfl) (by rfl)) (by rfl) (by trivial)) (q_cons (@q_setF _ _ _ _ _ _ _ 5 _ _ sclaw.nd rfl (by trivial) (@q_ct _ _ _ _ _ _ _ _ _ _ _ _ _ _ K_tup (b_tup (c:=true)) (by rfl) B.tuple_ bt_tuple (q_acons (q_FC (@q_comp _ _ _ _ _ _ _ _ _ _ _ _ _ _ _ _ (show CompScope (defScope slaw) _ ["_law_script", "_law_many", "_law_kind", "_law_moves_here", "_law_xs", "_law_begin", "_law_target", "_law_most", "_law_factor", "_law_order_here", "_law_one", "_law_great", "_law_far", "_law_two", "_law_mixed", "_law_three", "_law_k", "_law_more", "_law_due"] ["_law_script", "_law_many", "_law_kind", "_law_moves_here", "_law_xs", "_law_begin", "_law_target", "_law_most", "_law_factor", "_law_order_here", "_law_one", "_law_great", "_law_far", "_law_two", "_law_mixed", "_law_three", "_law_k", "_law_more", "_law_due", "_law_x"] from ⟨rfl,by decide +kernel,by decide +kernel,by decide +kernel,by decide +kernel,by decide,by decide +kernel,by decide +kernel⟩) rfl (@q_iSqB _ _ _ _ _ _ (q_CB (q_FC (@q_sl _ _ _ _ _ _ true _ _ _ _ _ (qv .C 4) q_pN (q_pS (qv .B 1)) (by rfl)))) (by rfl)) (fun _ _ _ _=>(@pg_name _ _ 19 _ (by decide +kernel:(["_law_script", "_law_many", "_law_kind", "_law_moves_here", "_law_xs", "_law_begin", "_law_target", "_law_most", "_law_factor", "_law_order_here", "_law_one", "_law_great", "_law_far", "_law_two", "_law_mixed", "_law_three", "_law_k", "_law_more", "_law_due", "_law_x"]:List Str).Nodup) rfl (Or.inl rfl) (.inr rfl))) gt_U (gk_name (show 19≤19 by decide)) (fun _ _ _ _=>q_pifN) (fun _ _ _ _=>(q_FV (@q_call _ _ _ _ _ _ _ _ _ _ _ _ _ _ _ _ G_law_count (.inl rfl) (by exact hr.mono (by decide)) (by rfl) D_law_count.m D_law_count.F.kp D_law_count.b (q_acons (qv .B 19) (q_acons (qv .B 2) q_anil)) (by decide) (by rfl) (by rfl)))) (by intro _; rfl))) q_anil) (by decide) (by decide) (by rfl) (by rfl)) (by rfl) (by trivial)) (q_cons (@q_setF _ _ _ _ _ _ _ 6 _ _ sclaw.nd rfl (by trivial) (@q_ct _ _ _ _ _ _ _ _ _ _ _ _ _ _ K_tup (b_tup (c:=true)) (by rfl) B.tuple_ bt_tuple (q_acons (q_FC (@q_comp _ _ _ _ _ _ _ _ _ _ _ _ _ _ _ _ (show CompScope (defScope slaw) _ ["_law_script", "_law_many", "_law_kind", "_law_moves_here", "_law_xs", "_law_begin", "_law_target", "_law_most", "_law_factor", "_law_order_here", "_law_one", "_law_great", "_law_far", "_law_two", "_law_mixed", "_law_three", "_law_k", "_law_more", "_law_due"] ["_law_script", "_law_many", "_law_kind", "_law_moves_here", "_law_xs", "_law_begin", "_law_target", "_law_most", "_law_factor", "_law_order_here", "_law_one", "_law_great", "_law_far", "_law_two", "_law_mixed", "_law_three", "_law_k", "_law_more", "_law_due", "_law_x"] from ⟨rfl,by decide +kernel,by decide +kernel,by decide +kernel,by decide +kernel,by decide,by decide +kernel,by decide +kernel⟩) rfl (@q_iSqB _ _ _ _ _ _ (q_CB (q_FC (@q_sl _ _ _ _ _ _ true _ _ _ _ _ (qv .C 4) (q_pS q_int) (q_pS (q_op op_add (o2_I0 (g:=gAdd) (fun _ _=>rfl) (fun _ _ _=>.int)) q_int (qv .B 1))) (by rfl)))) (by rfl)) (fun _ _ _ _=>(@pg_name _ _ 19 _ (by decide +kernel:(["_law_script", "_law_many", "_law_kind", "_law_moves_here", "_law_xs", "_law_begin", "_law_target", "_law_most", "_law_factor", "_law_order_here", "_law_one", "_law_great", "_law_far", "_law_two", "_law_mixed", "_law_three", "_law_k", "_law_more", "_law_due", "_law_x"]:List Str).Nodup) rfl (Or.inl rfl) (.inr rfl))) gt_U (gk_name (show 19≤19 by decide)) (fun _ _ _ _=>q_pifN) (fun _ _ _ _=>(q_op op_add (o2_I0 (g:=gAdd) (fun _ _=>rfl) (fun _ _ _=>.int)) (q_CB (q_FC (@q_call _ _ _ _ _ _ _ _ _ _ _ _ _ _ _ _ G_law_count (.inl rfl) (by exact hr.mono (by decide)) (by rfl) D_law_count.m D_law_count.F.kp D_law_count.b (q_acons (qv .B 19) (q_acons (qv .B 2) q_anil)) (by decide) (by rfl) (by rfl)))) (q_op op_mod (o2_I (C:=cMod) (g:=gMod) (fun _ _=>rfl) (fun _ _ _=>.int)) (q_op op_fdiv (o2_I (C:=CDiv) (g:=gDiv) (fun _ _=>rfl) (fun _ _ _=>.int)) (qv .B 19) q_int) q_int))) (by intro _; rfl))) q_anil) (by decide) (by decide) (by rfl) (by rfl)) (by rfl) (by trivial)) (q_cons (@q_setV _ _ _ _ _ _ _ 7 _ _ sclaw.nd rfl (by trivial) (q_op op_add (o2_I0 (g:=gAdd) (fun _ _=>rfl) (fun _ _ _=>.int)) q_int (q_op op_mod (o2_I (C:=cMod) (g:=gMod) (fun _ _=>rfl) (fun _ _ _=>.int)) (q_UB (q_ixU (qv .B 4) q_int)) q_int)) (by rfl) (by trivial)) (q_cons (@q_setV _ _ _ _ _ _ _ 8 _ _ sclaw.nd rfl (by trivial) (q_op op_add (o2_I0 (g:=gAdd) (fun _ _=>rfl) (fun _ _ _=>.int)) q_int (q_op op_mod (o2_I (C:=cMod) (g:=gMod) (fun _ _=>rfl) (fun _ _ _=>.int)) (q_CB (q_FC (@q_call _ _ _ _ _ _ _ _ _ _ _ _ _ _ _ _ G_law_cell_at (.inl rfl) (by exact hr.mono (by decide)) (by rfl) D_law_cell_at.m D_law_cell_at.F.kp D_law_cell_at.b (q_acons (qv .B 0) (q_acons q_int q_anil)) (by decide) (by rfl) (by rfl)))) q_int)) (by rfl) (by trivial)) (q_cons (@q_setF _ _ _ _ _ _ _ 9 _ _ sclaw.nd rfl (by trivial) (@q_call _ _ _ _ _ _ _ _ _ _ _ _ _ _ _ _ G_law_order (.inl rfl) (by exact hr.mono (by decide)) (by rfl) D_law_order.m D_law_order.F.kp D_law_order.b (q_acons (q_CB (q_FC (@q_call _ _ _ _ _ _ _ _ _ _ _ _ _ _ _ _ G_law_cell_at (.inl rfl) (by exact hr.mono (by decide)) (by rfl) D_law_cell_at.m D_law_cell_at.F.kp D_law_cell_at.b (q_acons (qv .B 0) (q_acons q_int q_anil)) (by decide) (by rfl) (by rfl)))) (q_acons (qv .B 1) q_anil)) (by decide) (by rfl) (by rfl)) (by rfl) (by trivial)) (q_cons (q_frz (@q_setF _ _ _ _ _ _ _ 10 _ _ sclaw.nd rfl (by trivial) (q_lst (q_acons (@q_call _ _ _ _ _ _ _ _ _ _ _ _ _ _ _ _ Gcover (.inr rfl) (by exact hr.mono (by decide)) (by rfl) Dcover.m Dcover.F.kp Dcover.b (q_acons (q_UB (q_tupU (q_acons (qv .U 5) (q_acons (qv .U 3) q_anil)))) (q_acons (qv .B 6) (q_acons (qv .B 7) q_anil))) (by decide) (by rfl) (by rfl)) (q_acons (@q_call _ _ _ _ _ _ _ _ _ _ _ _ _ _ _ _ Genough (.inr rfl) (by exact hr.mono (by decide)) (by rfl) Denough.m Denough.F.kp Denough.b (q_acons (qv .B 3) (q_acons (qv .B 6) (q_acons (qv .B 7) q_anil))) (by decide) (by rfl) (by rfl)) q_anil))) (by rfl) (by trivial))) (q_cons (@q_setF _ _ _ _ _ _ _ 11 _ _ sclaw.nd rfl (by trivial) (@q_call _ _ _ _ _ _ _ _ _ _ _ _ _ _ _ _ G_law_all_scaled (.inl rfl) (by exact hr.mono (by decide)) (by rfl) D_law_all_scaled.m D_law_all_scaled.F.kp D_law_all_scaled.b (q_acons (qv .B 3) (q_acons (qv .B 8) q_anil)) (by decide) (by rfl) (by rfl)) (by rfl) (by trivial)) (q_cons (@q_setF _ _ _ _ _ _ _ 12 _ _ sclaw.nd rfl (by trivial) (@q_call _ _ _ _ _ _ _ _ _ _ _ _ _ _ _ _ G_law_scaled (.inl rfl) (by exact hr.mono (by decide)) (by rfl) D_law_scaled.m D_law_scaled.F.kp D_law_scaled.b (q_acons (qv .B 6) (q_acons (qv .B 8) q_anil)) (by decide) (by rfl) (by rfl)) (by rfl) (by trivial)) (q_cons (q_frz (@q_setF _ _ _ _ _ _ _ 13 _ _ sclaw.nd rfl (by trivial) (q_lst (q_acons (@q_call _ _ _ _ _ _ _ _ _ _ _ _ _ _ _ _ Gcover (.inr rfl) (by exact hr.mono (by decide)) (by rfl) Dcover.m Dcover.F.kp Dcover.b (q_acons (q_UB (q_tupU (q_acons (q_VU (q_FV (@q_call _ _ _ _ _ _ _ _ _ _ _ _ _ _ _ _ G_law_scaled (.inl rfl) (by exact hr.mono (by decide)) (by rfl) D_law_scaled.m D_law_scaled.F.kp D_law_scaled.b (q_acons (qv .B 5) (q_acons (qv .B 8) q_anil)) (by decide) (by rfl) (by rfl)))) (q_acons (qv .U 11) q_anil)))) (q_acons (qv .B 12) (q_acons (qv .B 7) q_anil))) (by decide) (by rfl) (by rfl)) (q_acons (@q_call _ _ _ _ _ _ _ _ _ _ _ _ _ _ _ _ Genough (.inr rfl) (by exact hr.mono (by decide)) (by rfl) Denough.m Denough.F.kp Denough.b (q_acons (qv .B 11) (q_acons (qv .B 12) (q_acons (qv .B 7) q_anil))) (by decide) (by rfl) (by rfl)) q_anil))) (by rfl) (by trivial))) (q_cons (@q_setF _ _ _ _ _ _ _ 14 _ _ sclaw.nd rfl (by trivial) (@q_call _ _ _ _ _ _ _ _ _ _ _ _ _ _ _ _ G_law_all_put_so (.inl rfl) (by exact hr.mono (by decide)) (by rfl) D_law_all_put_so.m D_law_all_put_so.F.kp D_law_all_put_so.b (q_acons (qv .B 3) (q_acons (qv .B 9) q_anil)) (by decide) (by rfl) (by rfl)) (by rfl) (by trivial)) (q_cons (@q_setF _ _ _ _ _ _ _ 12 _ _ sclaw.nd rfl (by trivial) (@q_call _ _ _ _ _ _ _ _ _ _ _ _ _ _ _ _ G_law_put_so (.inl rfl) (by exact hr.mono (by decide)) (by rfl) D_law_put_so.m D_law_put_so.F.kp D_law_put_so.b (q_acons (qv .B 6) (q_acons (qv .B 9) q_anil)) (by decide) (by rfl) (by rfl)) (by rfl) (by trivial)) (q_cons (q_frz (@q_setF _ _ _ _ _ _ _ 15 _ _ sclaw.nd rfl (by trivial) (q_lst (q_acons (@q_call _ _ _ _ _ _ _ _ _ _ _ _ _ _ _ _ Gcover (.inr rfl) (by exact hr.mono (by decide)) (by rfl) Dcover.m Dcover.F.kp Dcover.b (q_acons (q_UB (q_tupU (q_acons (q_VU (q_FV (@q_call _ _ _ _ _ _ _ _ _ _ _ _ _ _ _ _ G_law_put_so (.inl rfl) (by exact hr.mono (by decide)) (by rfl) D_law_put_so.m D_law_put_so.F.kp D_law_put_so.b (q_acons (qv .B 5) (q_acons (qv .B 9) q_anil)) (by decide) (by rfl) (by rfl)))) (q_acons (qv .U 14) q_anil)))) (q_acons (qv .B 12) (q_acons (qv .B 7) q_anil))) (by decide) (by rfl) (by rfl)) (q_acons (@q_call _ _ _ _ _ _ _ _ _ _ _ _ _ _ _ _ Genough (.inr rfl) (by exact hr.mono (by decide)) (by rfl) Denough.m Denough.F.kp Denough.b (q_acons (qv .B 14) (q_acons (qv .B 12) (q_acons (qv .B 7) q_anil))) (by decide) (by rfl) (by rfl)) q_anil))) (by rfl) (by trivial))) (q_cons (@q_for _ _ _ _ _ _ _ _ _ _ _ _ _ PassesOwn.never rfl (@q_rng1 _ _ _ _ _ _ _ _ _ (by rfl) B.range_ (q_acons q_int q_anil) (by rfl)) (@pg_name _ _ 16 _ sclaw.nd rfl (by trivial) (by trivial)) gt_U (q_last (q_if_ (PW.pt (q_tor (q_tnot (@q_val _ _ _ _ _ (q_CB (q_FC (@q_call _ _ _ _ _ _ _ _ _ _ _ _ _ _ _ _ G_law_same (.inl rfl) (by exact hr.mono (by decide)) (by rfl) D_law_same.m D_law_same.F.kp D_law_same.b (q_acons (q_UB (q_ixU (qv .B 10) (qv .B 16))) (q_acons (q_UB (q_ixU (qv .B 13) (qv .B 16))) (q_acons q_int (q_acons (qv .B 8) q_anil)))) (by decide) (by rfl) (by rfl)))) (by intro _; rfl))) (q_tor1 (q_tnot (@q_val _ _ _ _ _ (q_CB (q_FC (@q_call _ _ _ _ _ _ _ _ _ _ _ _ _ _ _ _ G_law_same (.inl rfl) (by exact hr.mono (by decide)) (by rfl) D_law_same.m D_law_same.F.kp D_law_same.b (q_acons (q_UB (q_ixU (qv .B 10) (qv .B 16))) (q_acons (q_UB (q_ixU (qv .B 15) (qv .B 16))) (q_acons q_int (q_acons (qv .B 9) q_anil)))) (by decide) (by rfl) (by rfl)))) (by intro _; rfl)))))) (q_last (q_ret q_bl)) q_nil)) (by intro _; rfl)) (q_cons (@q_setF _ _ _ _ _ _ _ 17 _ _ sclaw.nd rfl (by trivial) (@q_call _ _ _ _ _ _ _ _ _ _ _ _ _ _ _ _ G_law_more_moves (.inl rfl) (by exact hr.mono (by decide)) (by rfl) D_law_more_moves.m D_law_more_moves.F.kp D_law_more_moves.b (q_acons (qv .B 3) (q_acons (qv .B 1) (q_acons (q_CB (q_FC (@q_call _ _ _ _ _ _ _ _ _ _ _ _ _ _ _ _ G_law_cell_at (.inl rfl) (by exact hr.mono (by decide)) (by rfl) D_law_cell_at.m D_law_cell_at.F.kp D_law_cell_at.b (q_acons (qv .B 0) (q_acons q_int q_anil)) (by decide) (by rfl) (by rfl)))) q_anil))) (by decide) (by rfl) (by rfl)) (by rfl) (by trivial)) (q_cons (q_frz (q_if_ (PW.pt (q_tor (@q_tcmp _ _ _ _ _ _ _ _ _ _ _ _ (op_neD (hu64 hr)) (o2_eqD (neg:=true)) (q_CB (q_VC (@q_call _ _ _ _ _ _ _ _ _ _ _ _ _ _ _ _ Gcover (.inr rfl) (by exact hr.mono (by decide)) (by rfl) Dcover.m Dcover.F.kp Dcover.b (q_acons (q_UB (q_tupU (q_acons (qv .U 5) (q_acons (qv .U 17) q_anil)))) (q_acons (qv .B 6) (q_acons (qv .B 7) q_anil))) (by decide) (by rfl) (by rfl)))) (q_UB (q_ixU (qv .B 10) q_int)) (by first | exact nomark _ | rfl)) (q_tor1 (@q_tcmp _ _ _ _ _ _ _ _ _ _ _ _ (op_neD (hu64 hr)) (o2_eqD (neg:=true)) (q_CB (q_VC (@q_call _ _ _ _ _ _ _ _ _ _ _ _ _ _ _ _ Genough (.inr rfl) (by exact hr.mono (by decide)) (by rfl) Denough.m Denough.F.kp Denough.b (q_acons (qv .B 17) (q_acons (qv .B 6) (q_acons (qv .B 7) q_anil))) (by decide) (by rfl) (by rfl)))) (q_UB (q_ixU (qv .B 10) q_int)) (by first | exact nomark _ | rfl))))) (q_last (q_ret q_bl)) q_nil)) (q_cons (q_frz (@q_setF _ _ _ _ _ _ _ 18 _ _ sclaw.nd rfl (by trivial) (@q_call _ _ _ _ _ _ _ _ _ _ _ _ _ _ _ _ Gnever (.inl rfl) (by exact hr.mono (by decide)) (by rfl) Dnever.m Dnever.F.kp Dnever.b (q_acons (q_UB (q_tupU (q_acons (qv .U 5) (q_acons (qv .U 3) q_anil)))) (q_acons (qv .B 7) q_anil)) (by decide) (by rfl) (by rfl)) (by rfl) (by trivial))) (q_cons (q_frz (q_if_ (@q_tcmp _ _ _ _ _ _ _ _ _ _ _ _ (op_neD (hu64 hr)) (o2_eqD (neg:=true)) (q_CB (q_FC (@q_call _ _ _ _ _ _ _ _ _ _ _ _ _ _ _ _ Gnever (.inl rfl) (by exact hr.mono (by decide)) (by rfl) Dnever.m Dnever.F.kp Dnever.b (q_acons (q_UB (q_tupU (q_acons (q_VU (q_FV (@q_call _ _ _ _ _ _ _ _ _ _ _ _ _ _ _ _ G_law_scaled (.inl rfl) (by exact hr.mono (by decide)) (by rfl) D_law_scaled.m D_law_scaled.F.kp D_law_scaled.b (q_acons (qv .B 5) (q_acons (qv .B 8) q_anil)) (by decide) (by rfl) (by rfl)))) (q_acons (qv .U 11) q_anil)))) (q_acons (qv .B 7) q_anil)) (by decide) (by rfl) (by rfl)))) (qv .B 18) (by first | exact nomark _ | rfl)) (q_last (q_ret q_bl)) q_nil)) (q_last (q_frz (q_ret (@q_cmp _ _ _ _ _ _ _ _ _ _ _ _ _ (op_eqD (hu64 hr)) (o2_eqD (neg:=false)) (q_CB (q_FC (@q_call _ _ _ _ _ _ _ _ _ _ _ _ _ _ _ _ Gnever (.inl rfl) (by exact hr.mono (by decide)) (by rfl) Dnever.m Dnever.F.kp Dnever.b (q_acons (q_UB (q_tupU (q_acons (q_VU (q_FV (@q_call _ _ _ _ _ _ _ _ _ _ _ _ _ _ _ _ G_law_put_so (.inl rfl) (by exact hr.mono (by decide)) (by rfl) D_law_put_so.m D_law_put_so.F.kp D_law_put_so.b (q_acons (qv .B 5) (q_acons (qv .B 9) q_anil)) (by decide) (by rfl) (by rfl)))) (q_acons (qv .U 14) q_anil)))) (q_acons (qv .B 7) q_anil)) (by decide) (by rfl) (by rfl)))) (qv .B 18) (by first | exact nomark _ | rfl)))))))))))))))))))))))))),
  c_body (n:=1) (Nl:=["_law_script", "_law_many", "_law_kind", "_law_moves_here", "_law_xs", "_law_begin", "_law_target", "_law_most", "_law_factor", "_law_order_here", "_law_one", "_law_great", "_law_far", "_law_two", "_law_mixed", "_law_three", "_law_k", "_law_more", "_law_due"]) (.inl rfl) h⟩
end
theorem us0 {P:List Value→Prop} (h:P []):∀ us:List Value,us.length=0→P us:=fun us e=>by
 rw [List.length_eq_zero_iff.mp e]; exact h
theorem us1 {P:List Value→Prop} (h:∀ a0,P [a0]):∀ us:List Value,us.length=1→P us:=fun us e=>by
 cases us with
 | nil=>cases e
 | cons a us=>exact us0 (P:=fun us=>P (a::us)) (h a) us (Nat.succ.inj e)
theorem us2 {P:List Value→Prop} (h:∀ a0 a1,P [a0,a1]):∀ us:List Value,us.length=2→P us:=fun us e=>by
 cases us with
 | nil=>cases e
 | cons a us=>exact us1 (P:=fun us=>P (a::us)) (fun a1=>h a a1) us (Nat.succ.inj e)
theorem us3 {P:List Value→Prop} (h:∀ a0 a1 a2,P [a0,a1,a2]):∀ us:List Value,us.length=3→P us:=fun us e=>by
 cases us with
 | nil=>cases e
 | cons a us=>exact us2 (P:=fun us=>P (a::us)) (fun a1 a2=>h a a1 a2) us (Nat.succ.inj e)
theorem us4 {P:List Value→Prop} (h:∀ a0 a1 a2 a3,P [a0,a1,a2,a3]):∀ us:List Value,us.length=4→P us:=fun us e=>by
 cases us with
 | nil=>cases e
 | cons a us=>exact us3 (P:=fun us=>P (a::us)) (fun a1 a2 a3=>h a a1 a2 a3) us (Nat.succ.inj e)
def Pk (K:PySem.W.Frag) (nm:Str) (st:Stmt) (f:Addr):Prop:=∃ (oc:Value) (od an:Option Addr) (sl:Array (Option Value)) (kV dc pm cd ct:Value),PySem.W.nsIn K mainGlobals nm=some (some (.ref f))∧K.lookup f=some ⟨oc,od,.func (PySem.W.fnOf nm nm (defArgs st) (defBody st) (defScope st) .none kV dc pm an cd ct),sl⟩∧PySem.W.codeIn K cd nm=true∧PySem.W.keepIn K (.ref f)=true
theorem pk_mk {K:PySem.W.Frag} {nm:Str} {st:Stmt} {f:Addr} {oc:Value} {od an:Option Addr} {sl:Array (Option Value)} {kV dc pm cd ct:Value} (a:PySem.W.nsIn K mainGlobals nm=some (some (.ref f))) (l:K.lookup f=some ⟨oc,od,.func (PySem.W.fnOf nm nm (defArgs st) (defBody st) (defScope st) .none kV dc pm an cd ct),sl⟩) (c:PySem.W.codeIn K cd nm=true) (k:PySem.W.keepIn K (.ref f)=true):Pk K nm st f:=⟨_,_,_,_,_,_,_,_,_,a,l,c,k⟩
theorem pk_def {K:PySem.W.Frag} {h:Heap} {mg:Str→Option Value} {nm:Str} {st:Stmt} {f:Addr} (ps:List Str) (X:K.In h) (G:h.Ns mainGlobals mg) (p:Pk K nm st f) (hb:∀ (kV doc pm:Value) (an:Option Addr) (cdv ct:Value) (us:List Value),us.length=ps.length→bindArgs (PySem.W.fnOf nm nm (defArgs st) (defBody st) (defScope st) .none kV doc pm an cdv ct) ⟨us,[]⟩=pure (ps.zip us)):∃ fd,Def K mg nm st ps f fd:=by
 obtain ⟨oc,od,an,sl,kV,dc,pm,cd,ct,a,l,c,k⟩:=p
 have F:=fun_mk (st:=st) l c k
 exact ⟨_,F,PySem.W.mg_of X G a,F.binds hb⟩
def spLaw (K:PySem.W.Frag):Sp:=fun vs H Q _=>∃ (a:Addr) (ns:List Int),vs = [.ref a]∧SqL K H a (ns.map V.int)∧ns.length≤63∧∀ H',Q (.bl true) H'
theorem all_mk (hp:∀ ns:List Int,ns.length≤63→f_law [.scr (ns.map W.int)]=.ok (.bl true)) {l:PySem.W.OpenLaw} {w:World} {K:PySem.W.Frag} {h:Heap} {mg:Str→Option Value} {fa:Addr} (X:K.In h) (G:h.Ns mainGlobals mg) (hfa:mg "law" = some (.ref fa))
  {f0:Addr}
  {f1:Addr}
  {f2:Addr}
  {f3:Addr}
  {f4:Addr}
  {f5:Addr}
  {f6:Addr}
  {f7:Addr}
  {f8:Addr}
  {f9:Addr}
  {f10:Addr}
  {f11:Addr}
  {f12:Addr}
  {f13:Addr}
  {f14:Addr}
  {f15:Addr}
  {f16:Addr}
  {f17:Addr}
  {f18:Addr}
  {f19:Addr}
  {f20:Addr}
  {f21:Addr}
  {f22:Addr}
  {f23:Addr}
  {f24:Addr}
  {f25:Addr}
  {f26:Addr}
  {f27:Addr}
  {f28:Addr}
  (p0:Pk K "covers" scovers f0)
  (p1:Pk K "able" sable f1)
  (p2:Pk K "after" safter f2)
  (p3:Pk K "change" schange f3)
  (p4:Pk K "least" sleast f4)
  (p5:Pk K "lifted" slifted f5)
  (p6:Pk K "source" ssource f6)
  (p7:Pk K "sources" ssources f7)
  (p8:Pk K "step_back" sstep_back f8)
  (p9:Pk K "is_shut" sis_shut f9)
  (p10:Pk K "enough" senough f10)
  (p11:Pk K "cover" scover f11)
  (p12:Pk K "ending" sending f12)
  (p13:Pk K "row_inward" srow_inward f13)
  (p14:Pk K "moves_into" smoves_into f14)
  (p15:Pk K "never" snever f15)
  (p16:Pk K "is_never" sis_never f16)
  (p17:Pk K "_law_cell_at" s_law_cell_at f17)
  (p18:Pk K "_law_stream" s_law_stream f18)
  (p19:Pk K "_law_count" s_law_count f19)
  (p20:Pk K "_law_moves" s_law_moves f20)
  (p21:Pk K "_law_order" s_law_order f21)
  (p22:Pk K "_law_scaled" s_law_scaled f22)
  (p23:Pk K "_law_put_so" s_law_put_so f23)
  (p24:Pk K "_law_all_scaled" s_law_all_scaled f24)
  (p25:Pk K "_law_all_put_so" s_law_all_put_so f25)
  (p26:Pk K "_law_more_moves" s_law_more_moves f26)
  (p27:Pk K "_law_same" s_law_same f27)
  (p28:Pk K "law" slaw f28)
  (z0:PySem.W.nsIn K mainGlobals "all" = some none)
  (z1:PySem.W.nsIn K mainGlobals "enumerate" = some none)
  (z2:PySem.W.nsIn K mainGlobals "len" = some none)
  (z3:PySem.W.nsIn K mainGlobals "list" = some none)
  (z4:PySem.W.nsIn K mainGlobals "max" = some none)
  (z5:PySem.W.nsIn K mainGlobals "min" = some none)
  (z6:PySem.W.nsIn K mainGlobals "range" = some none)
  (z7:PySem.W.nsIn K mainGlobals "reversed" = some none)
  (z8:PySem.W.nsIn K mainGlobals "sorted" = some none)
  (z9:PySem.W.nsIn K mainGlobals "tuple" = some none)
  (z10:PySem.W.nsIn K mainGlobals "zip" = some none) :
  ∃ fd:FuncData,(∀ (s:Shared) (v:Value),BindsTo s fd ⟨[v],[]⟩ [("_law_script",v)])∧∀ base:Heap,K.In base→base.Ns mainGlobals mg→FnOk l.prog w K mg base CX0 8 fa fd ["_law_script"] (spLaw K):=by
 obtain ⟨oc,od,an,sl,kV,dc,pm,cd,ct,a,l0,c,k⟩:=p28
 have e:=hfa.symm.trans (PySem.W.mg_of X G a)
 have e2:f28=fa:=by cases e; rfl
 subst e2
 have B:Blt mg:=⟨PySem.W.mg_none_of X G z0,PySem.W.mg_none_of X G z1,PySem.W.mg_none_of X G z2,PySem.W.mg_none_of X G z3,PySem.W.mg_none_of X G z4,PySem.W.mg_none_of X G z5,PySem.W.mg_none_of X G z6,PySem.W.mg_none_of X G z7,PySem.W.mg_none_of X G z8,PySem.W.mg_none_of X G z9,PySem.W.mg_none_of X G z10⟩
 obtain ⟨fd0,D0⟩:=pk_def ["stand", "other"] X G p0 fun _ _ _ _ _ _=>us2 (fun _ _=>rfl)
 obtain ⟨fd1,D1⟩:=pk_def ["stand", "move"] X G p1 fun _ _ _ _ _ _=>us2 (fun _ _=>rfl)
 obtain ⟨fd2,D2⟩:=pk_def ["stand", "move"] X G p2 fun _ _ _ _ _ _=>us2 (fun _ _=>rfl)
 obtain ⟨fd3,D3⟩:=pk_def ["move"] X G p3 fun _ _ _ _ _ _=>us1 (fun _=>rfl)
 obtain ⟨fd4,D4⟩:=pk_def ["stands"] X G p4 fun _ _ _ _ _ _=>us1 (fun _=>rfl)
 obtain ⟨fd5,D5⟩:=pk_def ["stand", "basis"] X G p5 fun _ _ _ _ _ _=>us2 (fun _ _=>rfl)
 obtain ⟨fd6,D6⟩:=pk_def ["stand", "move"] X G p6 fun _ _ _ _ _ _=>us2 (fun _ _=>rfl)
 obtain ⟨fd7,D7⟩:=pk_def ["moves", "basis"] X G p7 fun _ _ _ _ _ _=>us2 (fun _ _=>rfl)
 obtain ⟨fd8,D8⟩:=pk_def ["moves", "basis"] X G p8 fun _ _ _ _ _ _=>us2 (fun _ _=>rfl)
 obtain ⟨fd9,D9⟩:=pk_def ["moves", "basis"] X G p9 fun _ _ _ _ _ _=>us2 (fun _ _=>rfl)
 obtain ⟨fd10,D10⟩:=pk_def ["moves", "target", "most"] X G p10 fun _ _ _ _ _ _=>us3 (fun _ _ _=>rfl)
 obtain ⟨fd11,D11⟩:=pk_def ["moor", "target", "most"] X G p11 fun _ _ _ _ _ _=>us3 (fun _ _ _=>rfl)
 obtain ⟨fd12,D12⟩:=pk_def ["moves", "rings", "most", "word"] X G p12 fun _ _ _ _ _ _=>us4 (fun _ _ _ _=>rfl)
 obtain ⟨fd13,D13⟩:=pk_def ["moor", "rings"] X G p13 fun _ _ _ _ _ _=>us2 (fun _ _=>rfl)
 obtain ⟨fd14,D14⟩:=pk_def ["stand", "moves", "ring"] X G p14 fun _ _ _ _ _ _=>us3 (fun _ _ _=>rfl)
 obtain ⟨fd15,D15⟩:=pk_def ["moor", "most"] X G p15 fun _ _ _ _ _ _=>us2 (fun _ _=>rfl)
 obtain ⟨fd16,D16⟩:=pk_def ["told"] X G p16 fun _ _ _ _ _ _=>us1 (fun _=>rfl)
 obtain ⟨fd17,D17⟩:=pk_def ["_law_script", "_law_k"] X G p17 fun _ _ _ _ _ _=>us2 (fun _ _=>rfl)
 obtain ⟨fd18,D18⟩:=pk_def ["_law_cell", "_law_salt", "_law_many"] X G p18 fun _ _ _ _ _ _=>us3 (fun _ _ _=>rfl)
 obtain ⟨fd19,D19⟩:=pk_def ["_law_x", "_law_kind"] X G p19 fun _ _ _ _ _ _=>us2 (fun _ _=>rfl)
 obtain ⟨fd20,D20⟩:=pk_def ["_law_script", "_law_many", "_law_kind"] X G p20 fun _ _ _ _ _ _=>us3 (fun _ _ _=>rfl)
 obtain ⟨fd21,D21⟩:=pk_def ["_law_cell", "_law_many"] X G p21 fun _ _ _ _ _ _=>us2 (fun _ _=>rfl)
 obtain ⟨fd22,D22⟩:=pk_def ["_law_stand", "_law_factor"] X G p22 fun _ _ _ _ _ _=>us2 (fun _ _=>rfl)
 obtain ⟨fd23,D23⟩:=pk_def ["_law_stand", "_law_order_here"] X G p23 fun _ _ _ _ _ _=>us2 (fun _ _=>rfl)
 obtain ⟨fd24,D24⟩:=pk_def ["_law_moves_here", "_law_factor"] X G p24 fun _ _ _ _ _ _=>us2 (fun _ _=>rfl)
 obtain ⟨fd25,D25⟩:=pk_def ["_law_moves_here", "_law_order_here"] X G p25 fun _ _ _ _ _ _=>us2 (fun _ _=>rfl)
 obtain ⟨fd26,D26⟩:=pk_def ["_law_moves_here", "_law_many", "_law_cell"] X G p26 fun _ _ _ _ _ _=>us3 (fun _ _ _=>rfl)
 obtain ⟨fd27,D27⟩:=pk_def ["_law_one", "_law_other", "_law_form", "_law_by"] X G p27 fun _ _ _ _ _ _=>us4 (fun _ _ _ _=>rfl)
 have F28:=fun_mk (st:=slaw) l0 c k
 have D28:Def K mg "law" slaw ["_law_script"] f28 _:=⟨F28,PySem.W.mg_of X G a,F28.binds (ps:=["_law_script"]) fun _ _ _ _ _ _=>us1 (fun _=>rfl)⟩
 refine ⟨PySem.W.fnOf "law" "law" (defArgs slaw) (defBody slaw) (defScope slaw) .none kV dc pm an cd ct,fun s v=>.of_eq rfl,fun base _ _=>?_⟩
 have G0:FnOk l.prog w K mg base CX0 1 f0 _ ["stand", "other"] (spM K 2 .F (f_covers)):=okcovers D0 B 
 have G1:FnOk l.prog w K mg base CX0 2 f1 _ ["stand", "move"] (spM K 2 .F (f_able)):=okable D1 B D0 G0
 have G3:FnOk l.prog w K mg base CX0 1 f3 _ ["move"] (spM K 1 .F (f_change)):=okchange D3 B 
 have G2:FnOk l.prog w K mg base CX0 3 f2 _ ["stand", "move"] (spM K 2 .F (f_after)):=okafter D2 B D1 G1 D3 G3
 have G5:FnOk l.prog w K mg base CX0 2 f5 _ ["stand", "basis"] (spM K 2 .F (f_lifted)):=oklifted D5 B D0 G0
 have G4:FnOk l.prog w K mg base CX0 3 f4 _ ["stands"] (spM K 1 .F (f_least)):=okleast D4 B D5 G5
 have G6:FnOk l.prog w K mg base CX0 1 f6 _ ["stand", "move"] (spM K 2 .F (f_source)):=oksource D6 B 
 have G7:FnOk l.prog w K mg base CX0 2 f7 _ ["moves", "basis"] (spM K 2 .F (f_sources)):=oksources D7 B D6 G6
 have G8:FnOk l.prog w K mg base CX0 4 f8 _ ["moves", "basis"] (spM K 2 .F (f_step_back)):=okstep_back D8 B D4 G4 D7 G7
 have G9:FnOk l.prog w K mg base CX0 3 f9 _ ["moves", "basis"] (spM K 2 .F (f_is_shut)):=okis_shut D9 B D5 G5 D7 G7
 have G12:FnOk l.prog w K mg base CX0 4 f12 _ ["moves", "rings", "most", "word"] (spX K 4 (f_ending)):=okending D12 B D9 G9
 have G10:FnOk l.prog w K mg base CX0 5 f10 _ ["moves", "target", "most"] (spM K 3 .V (f_enough)):=okenough D10 B D12 G12 D8 G8
 have G14:FnOk l.prog w K mg base CX0 4 f14 _ ["stand", "moves", "ring"] (spM K 3 .F (f_moves_into)):=okmoves_into D14 B D1 G1 D5 G5 D2 G2
 have G13:FnOk l.prog w K mg base CX0 5 f13 _ ["moor", "rings"] (spX K 2 (f_row_inward)):=okrow_inward D13 B D2 G2 D14 G14
 have G11:FnOk l.prog w K mg base CX0 6 f11 _ ["moor", "target", "most"] (spM K 3 .V (f_cover)):=okcover D11 B D5 G5 D12 G12 D13 G13 D8 G8
 have G16:FnOk l.prog w K mg base CX0 1 f16 _ ["told"] (spM K 1 .F (f_is_never)):=okis_never D16 B 
 have G15:FnOk l.prog w K mg base CX0 7 f15 _ ["moor", "most"] (spM K 2 .F (f_never)):=oknever D15 B D16 G16 D11 G11
 have G17:FnOk l.prog w K mg base CX0 1 f17 _ ["_law_script", "_law_k"] (spM K 2 .F (f__law_cell_at)):=ok_law_cell_at D17 B 
 have G18:FnOk l.prog w K mg base CX0 1 f18 _ ["_law_cell", "_law_salt", "_law_many"] (spM K 3 .F (f__law_stream)):=ok_law_stream D18 B 
 have G19:FnOk l.prog w K mg base CX0 1 f19 _ ["_law_x", "_law_kind"] (spM K 2 .F (f__law_count)):=ok_law_count D19 B 
 have G20:FnOk l.prog w K mg base CX0 2 f20 _ ["_law_script", "_law_many", "_law_kind"] (spM K 3 .F (f__law_moves)):=ok_law_moves D20 B D18 G18 D17 G17 D19 G19
 have G21:FnOk l.prog w K mg base CX0 1 f21 _ ["_law_cell", "_law_many"] (spM K 2 .F (f__law_order)):=ok_law_order D21 B 
 have G22:FnOk l.prog w K mg base CX0 1 f22 _ ["_law_stand", "_law_factor"] (spM K 2 .F (f__law_scaled)):=ok_law_scaled D22 B 
 have G23:FnOk l.prog w K mg base CX0 1 f23 _ ["_law_stand", "_law_order_here"] (spM K 2 .F (f__law_put_so)):=ok_law_put_so D23 B 
 have G24:FnOk l.prog w K mg base CX0 2 f24 _ ["_law_moves_here", "_law_factor"] (spM K 2 .F (f__law_all_scaled)):=ok_law_all_scaled D24 B D22 G22
 have G25:FnOk l.prog w K mg base CX0 2 f25 _ ["_law_moves_here", "_law_order_here"] (spM K 2 .F (f__law_all_put_so)):=ok_law_all_put_so D25 B D23 G23
 have G26:FnOk l.prog w K mg base CX0 1 f26 _ ["_law_moves_here", "_law_many", "_law_cell"] (spM K 3 .F (f__law_more_moves)):=ok_law_more_moves D26 B 
 have G27:FnOk l.prog w K mg base CX0 2 f27 _ ["_law_one", "_law_other", "_law_form", "_law_by"] (spM K 4 .F (f__law_same)):=ok_law_same D27 B D22 G22 D23 G23
 have G28:FnOk l.prog w K mg base CX0 8 f28 _ ["_law_script"] (spM K 1 .F (f_law)):=oklaw D28 B D20 G20 D18 G18 D21 G21 D24 G24 D22 G22 D25 G25 D23 G23 D26 G26 D15 G15 D17 G17 D11 G11 D10 G10 D19 G19 D27 G27
 exact law_of G28 hp
end K27
set_option Elab.async false
open PySem PySem.W PyProof.Rows
set_option maxRecDepth 100000 in
set_option maxHeartbeats 0 in
theorem PySem.Challenge.cw_tokenmoor_k27_whole_scaled_and_moved_holds : PySem.Challenge.rw_tokenmoor_k27_whole_scaled_and_moved.Holds := by
 w_on; o_law; k_head; (case hw=>w_witness2)
 k_fill
 refine L2.walk_ofK (l:=PySem.Challenge.rw_tokenmoor_k27_whole_scaled_and_moved) (n:=63) (k:=8) (x := "_law_script") (CX:=L2.CX0) (sp:=K27.spLaw) rfl (by decide) rfl ⟨rfl,by decide,by decide⟩ (fun w h Y=>PySem.W.kIn_of Y) ?F ?S ?C
 case F=>
  intro w mg fa h KX G hmg
  refine' K27.all_mk K27.law_pure KX G hmg ?p0 ?p1 ?p2 ?p3 ?p4 ?p5 ?p6 ?p7 ?p8 ?p9 ?p10 ?p11 ?p12 ?p13 ?p14 ?p15 ?p16 ?p17 ?p18 ?p19 ?p20 ?p21 ?p22 ?p23 ?p24 ?p25 ?p26 ?p27 ?p28 ?z0 ?z1 ?z2 ?z3 ?z4 ?z5 ?z6 ?z7 ?z8 ?z9 ?z10
  (case p0=>refine' K27.pk_mk ?a ?l ?c ?k; (case a=>k_is); (case l=>k_is); (case c=>k_is); (case k=>k_is))
  (case p1=>refine' K27.pk_mk ?a ?l ?c ?k; (case a=>k_is); (case l=>k_is); (case c=>k_is); (case k=>k_is))
  (case p2=>refine' K27.pk_mk ?a ?l ?c ?k; (case a=>k_is); (case l=>k_is); (case c=>k_is); (case k=>k_is))
  (case p3=>refine' K27.pk_mk ?a ?l ?c ?k; (case a=>k_is); (case l=>k_is); (case c=>k_is); (case k=>k_is))
  (case p4=>refine' K27.pk_mk ?a ?l ?c ?k; (case a=>k_is); (case l=>k_is); (case c=>k_is); (case k=>k_is))
  (case p5=>refine' K27.pk_mk ?a ?l ?c ?k; (case a=>k_is); (case l=>k_is); (case c=>k_is); (case k=>k_is))
  (case p6=>refine' K27.pk_mk ?a ?l ?c ?k; (case a=>k_is); (case l=>k_is); (case c=>k_is); (case k=>k_is))
  (case p7=>refine' K27.pk_mk ?a ?l ?c ?k; (case a=>k_is); (case l=>k_is); (case c=>k_is); (case k=>k_is))
  (case p8=>refine' K27.pk_mk ?a ?l ?c ?k; (case a=>k_is); (case l=>k_is); (case c=>k_is); (case k=>k_is))
  (case p9=>refine' K27.pk_mk ?a ?l ?c ?k; (case a=>k_is); (case l=>k_is); (case c=>k_is); (case k=>k_is))
  (case p10=>refine' K27.pk_mk ?a ?l ?c ?k; (case a=>k_is); (case l=>k_is); (case c=>k_is); (case k=>k_is))
  (case p11=>refine' K27.pk_mk ?a ?l ?c ?k; (case a=>k_is); (case l=>k_is); (case c=>k_is); (case k=>k_is))
  (case p12=>refine' K27.pk_mk ?a ?l ?c ?k; (case a=>k_is); (case l=>k_is); (case c=>k_is); (case k=>k_is))
  (case p13=>refine' K27.pk_mk ?a ?l ?c ?k; (case a=>k_is); (case l=>k_is); (case c=>k_is); (case k=>k_is))
  (case p14=>refine' K27.pk_mk ?a ?l ?c ?k; (case a=>k_is); (case l=>k_is); (case c=>k_is); (case k=>k_is))
  (case p15=>refine' K27.pk_mk ?a ?l ?c ?k; (case a=>k_is); (case l=>k_is); (case c=>k_is); (case k=>k_is))
  (case p16=>refine' K27.pk_mk ?a ?l ?c ?k; (case a=>k_is); (case l=>k_is); (case c=>k_is); (case k=>k_is))
  (case p17=>refine' K27.pk_mk ?a ?l ?c ?k; (case a=>k_is); (case l=>k_is); (case c=>k_is); (case k=>k_is))
  (case p18=>refine' K27.pk_mk ?a ?l ?c ?k; (case a=>k_is); (case l=>k_is); (case c=>k_is); (case k=>k_is))
  (case p19=>refine' K27.pk_mk ?a ?l ?c ?k; (case a=>k_is); (case l=>k_is); (case c=>k_is); (case k=>k_is))
  (case p20=>refine' K27.pk_mk ?a ?l ?c ?k; (case a=>k_is); (case l=>k_is); (case c=>k_is); (case k=>k_is))
  (case p21=>refine' K27.pk_mk ?a ?l ?c ?k; (case a=>k_is); (case l=>k_is); (case c=>k_is); (case k=>k_is))
  (case p22=>refine' K27.pk_mk ?a ?l ?c ?k; (case a=>k_is); (case l=>k_is); (case c=>k_is); (case k=>k_is))
  (case p23=>refine' K27.pk_mk ?a ?l ?c ?k; (case a=>k_is); (case l=>k_is); (case c=>k_is); (case k=>k_is))
  (case p24=>refine' K27.pk_mk ?a ?l ?c ?k; (case a=>k_is); (case l=>k_is); (case c=>k_is); (case k=>k_is))
  (case p25=>refine' K27.pk_mk ?a ?l ?c ?k; (case a=>k_is); (case l=>k_is); (case c=>k_is); (case k=>k_is))
  (case p26=>refine' K27.pk_mk ?a ?l ?c ?k; (case a=>k_is); (case l=>k_is); (case c=>k_is); (case k=>k_is))
  (case p27=>refine' K27.pk_mk ?a ?l ?c ?k; (case a=>k_is); (case l=>k_is); (case c=>k_is); (case k=>k_is))
  (case p28=>refine' K27.pk_mk ?a ?l ?c ?k; (case a=>k_is); (case l=>k_is); (case c=>k_is); (case k=>k_is))
  (case z0=>k_is)
  (case z1=>k_is)
  (case z2=>k_is)
  (case z3=>k_is)
  (case z4=>k_is)
  (case z5=>k_is)
  (case z6=>k_is)
  (case z7=>k_is)
  (case z8=>k_is)
  (case z9=>k_is)
  (case z10=>k_is)
 case S=>exact fun K H a ns hl hO hS=>⟨a,ns,rfl,hS,hl,fun _=>rfl⟩
 case C=>exact fun _ _ _ _ z=>z
