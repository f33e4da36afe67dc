import PyProof.Rows.All
import Wide.All
import OpenK.AllK
import Wide.FinOn
import Lean
import PyProof.EqAt
import PyProof.EqKinds
import PyProof.TupleCall
import PyProof.ZipIter
import PyProof.TupleIter
import PyProof.WalksMore
import PyProof.EnumMake
import PyProof.Draws
import PyProof.P3In
import KE.KSortTup
import PyProof.Rows.SortWalk
import KE.IntBitsLaws
import KE.KRevIter
import PyProof.TupleOfGen
import PySem.Challenge.RW_tokenmoor_k43_a_climb_goes
local macro_rules | `(tactic| omega)=>`(tactic| lia)
set_option Elab.async false
set_option linter.all false
set_option maxRecDepth 100000
namespace L2
open PySem PySem.Spec PyProof.Rows
noncomputable abbrev Key:=Sum Int Str
noncomputable def keyIs:Key→Value→Bool
 | .inl k,v=>Value.isInt k v
 | .inr x,v=>Value.isStrOf x v
noncomputable def keyH (w:World):Key→Int
 | .inl k=>hashInt k
 | .inr x=>hashStr w x
theorem keyIs_shape:∀ {k:Key} {v:Value},keyIs k v=true→(∃ i t,k=Sum.inl i∧v=Value.int i t)∨(∃ x t,k=Sum.inr x∧v=Value.str x t)
 | .inl i,v,h=>by
  obtain ⟨t,e⟩:=Value.isInt_shape (k:=i) (v:=v) h
  exact .inl ⟨i,t,rfl,e⟩
 | .inr x,v,h=>by
  obtain ⟨t,e⟩:=Value.isStrOf_shape (x:=x) (v:=v) h
  exact .inr ⟨x,t,rfl,e⟩
theorem key_ll (a b:Int):decide ((Sum.inl a:Key)=Sum.inl b)=(a == b):=by
 by_cases e:a=b
 ·subst e; simp
 ·have h:¬ (Sum.inl a:Key)=Sum.inl b:=fun q=>e (Sum.inl.inj q)
  rw [decide_eq_false h]
  exact (beq_eq_false_iff_ne.mpr e).symm
theorem key_rr (a b:Str):decide ((Sum.inr a:Key)=Sum.inr b)=decide (a=b):=by
 by_cases e:a=b
 ·subst e; simp
 ·have h:¬ (Sum.inr a:Key)=Sum.inr b:=fun q=>e (Sum.inr.inj q)
  rw [decide_eq_false h,decide_eq_false e]
theorem key_lr (a:Int) (b:Str):decide ((Sum.inl a:Key)=Sum.inr b)=false:=decide_eq_false (fun q=>nomatch q)
theorem key_rl (a:Str) (b:Int):decide ((Sum.inr a:Key)=Sum.inl b)=false:=decide_eq_false (fun q=>nomatch q)
noncomputable def mixKind (prog:Program) (w:World):PySem.KeyKind prog w Key where
 is:=keyIs
 hash:=keyH w
 inj:=fun v a b ha hb=>by
  rcases keyIs_shape ha with ⟨i,t,rfl,rfl⟩ | ⟨x,t,rfl,rfl⟩
  ·rcases keyIs_shape hb with ⟨j,u,rfl,e⟩ | ⟨y,u,rfl,e⟩
   ·injection e with e1 _; rw [e1]
   ·exact nomatch e
  ·rcases keyIs_shape hb with ⟨j,u,rfl,e⟩ | ⟨y,u,rfl,e⟩
   ·exact nomatch e
   ·injection e with e1 _; rw [e1]
 byValue:=fun k v h=>by
  rcases keyIs_shape h with ⟨i,t,rfl,rfl⟩ | ⟨x,t,rfl,rfl⟩ <;> rfl
 pyHash:=fun hv h=>by
  rcases keyIs_shape hv with ⟨i,t,rfl,rfl⟩ | ⟨x,t,rfl,rfl⟩
  ·exact wpAny_pyHash_int h
  ·exact wpAny_pyHash_str h
 eqBool:=fun hu hv h=>by
  rcases keyIs_shape hu with ⟨i,t,rfl,rfl⟩ | ⟨x,t,rfl,rfl⟩
  ·rcases keyIs_shape hv with ⟨j,u,rfl,rfl⟩ | ⟨y,u,rfl,rfl⟩
   ·rw [key_ll] at h; exact wpAny_eqBool_int h
   ·rw [key_lr] at h; exact SeqAt.EqAt.int_str i t y u _ _ _ _ h
  ·rcases keyIs_shape hv with ⟨j,u,rfl,rfl⟩ | ⟨y,u,rfl,rfl⟩
   ·rw [key_rl] at h; exact SeqAt.EqAt.str_int x t j u _ _ _ _ h
   ·rw [key_rr] at h; exact wpAny_eqBool_str h
 «strs»:=fun k x t v h=>by
  rcases keyIs_shape h with ⟨i,u,rfl,e⟩ | ⟨y,u,rfl,e⟩
  ·exact nomatch e
  ·injection e with e1 _
   subst e1
   cases v <;> rfl
end L2
namespace L2
open PySem PySem.Spec PyProof.Rows
inductive V where
 | non | bl (b:Bool) | int (i:Int) | str (x:Str) | byt (b:Array UInt8) | flt (b:UInt64) | ref (a:Addr) | ty (n:String)
 deriving DecidableEq
noncomputable def RelV:V→Value→Prop
 | .non,u=>u=Value.none
 | .bl b,u=>u=Value.bool b
 | .int i,u=>∃ t,u=Value.int i t
 | .str x,u=>∃ t,u=Value.str x t
 | .byt b,u=>∃ t,u=Value.bytes b t
 | .flt b,u=>∃ t,u=Value.float b t
 | .ref a,u=>u=Value.ref a
 | .ty n,u=>u=Value.type n
noncomputable abbrev Vals:List V→List Value→Prop:=Paired RelV
theorem Vals.length {xs:List V} {us:List Value} (r:Vals xs us):xs.length=us.length:=Paired.length r
theorem Vals.get:∀ {xs:List V} {us:List Value} {i:Nat} {x:V},Vals xs us→xs[i]?=some x→∃ u,us[i]?=some u∧RelV x u
 | _,_,_,_,.nil,e=>by simp at e
 | _,_,0,_,.cons r _,e=>by simp at e; subst e; exact ⟨_,rfl,r⟩
 | _,_,i+1,x,.cons _ t,e=>by
  obtain ⟨u,h1,h2⟩:=Vals.get (i:=i) (x:=x) t (by simpa using e)
  exact ⟨u,by simpa using h1,h2⟩
theorem Vals.set {x:V} {u:Value} (r:RelV x u):∀ {xs:List V} {us:List Value} (i:Nat),Vals xs us→Vals (xs.set i x) (us.set i u)
 | _,_,_,.nil=>.nil
 | _,_,0,.cons _ t=>.cons r t
 | _,_,i+1,.cons q t=>.cons q (Vals.set r i t)
theorem Vals.append:∀ {xs ys:List V} {us ws:List Value},Vals xs us→Vals ys ws→Vals (xs++ys) (us++ws)
 | _,_,_,_,.nil,s=>s
 | _,_,_,_,.cons r t,s=>.cons r (Vals.append t s)
theorem Vals.take:∀ {xs:List V} {us:List Value} (n:Nat),Vals xs us→Vals (xs.take n) (us.take n)
 | _,_,0,_=>.nil
 | _,_,_+1,.nil=>.nil
 | _,_,n+1,.cons r t=>.cons r (Vals.take n t)
theorem Vals.drop:∀ {xs:List V} {us:List Value} (n:Nat),Vals xs us→Vals (xs.drop n) (us.drop n)
 | _,_,0,r=>r
 | _,_,_+1,.nil=>.nil
 | _,_,n+1,.cons _ t=>Vals.drop n t
noncomputable def RelO:Option V→Option Value→Prop
 | some v,some u=>RelV v u
 | none,none=>True
 | _,_=>False
noncomputable def KV {κ:Type}:List (κ×V)→List (κ×Value)→Prop:=Paired fun (p:κ×V) (q:κ×Value)=>p.1=q.1∧RelV p.2 q.2
noncomputable def kV:Key→V
 | .inl i=>.int i
 | .inr x=>.str x
inductive HO where
 | lst (xs:List V)
 | tup (xs:List V)
 | dK (kvs:List (Key×V)) | dT (kvs:List (List Key×V))
 | set (S:Int→Bool) (n:Nat)
 | ins (C dx:Addr) (fs:List (Str×V))
 | own (x:Addr)
 | xd (fs:List (Str×V))
 | met (f x:Addr)
 | rng (lo hi:Int)
 | frz (o:Obj) (u:HO)
 | tbl (ps:Array Value)
 | ext (φ:Heap→Prop)
noncomputable abbrev Hp:=Addr→Option HO
noncomputable def upd (H:Hp) (a:Addr) (o:HO):Hp:=fun b=>if b=a then some o else H b
theorem upd_same {H:Hp} {a:Addr} {o:HO}:upd H a o a=some o:=by unfold upd; rw [if_pos rfl]
theorem upd_ne {H:Hp} {a b:Addr} {o:HO} (h:b≠a):upd H a o b=H b:=by unfold upd; rw [if_neg h]
theorem ne_of_none {H:Hp} {a b:Addr} {o:HO} (h:H a=some o) (h':H b=none):a≠b:=by
 intro e; subst e; rw [h] at h'; cases h'
section
variable (P:Program) (w:World)
noncomputable def ObjOk (H:Hp) (h:Heap) (a:Addr):HO→Prop
 | .lst xs=>xs.length≤sizeLine∧∃ (its:List Value) (n:Nat),Vals xs its∧h.get? a=some { cls:=.type "list",data:=.seq its.toArray n }
 | .tup xs=>xs.length≤sizeLine∧∃ its:List Value,Vals xs its∧IsTup h a its.toArray
 | .dK kvs=>kvs.length≤sizeLine∧(a == sysModules)=false∧∃ vs,KV kvs vs∧h.DictOf (mixKind P w) a vs
 | .dT kvs=>kvs.length≤sizeLine∧(a == sysModules)=false∧∃ xs:List (List Key×Addr×Value),
   Paired (fun (p:List Key×V) (q:List Key×Addr×Value)=>p.1=q.1∧H q.2.1=some (.tup (p.1.map kV))∧RelV p.2 q.2.2) kvs xs ∧
   ∃ o es ep,h.get? a=some o∧o.ExactDict∧o.data=.dict es ep∧es.toList=xs.map (entryOfKey (tupleKind (mixKind P w)))∧(xs.map (·.1)).Nodup
 | .set S n=>h.SetOf (intKind P w) a S n
 | .ins C dx fs=>H dx=some (.own a)∧fs.length≤1000∧dx≠a∧h.get? a=some (PySem.W.instObj C dx) ∧
   ∃ mA,h.Ns1 dx mA∧(∀ f,RelO (fs.lookup f) (mA f))∧PySem.Within mA (fs.map (·.1))
 | .own _=>∃ o,h.get? a=some o
 | .xd fs=>∃ mA,h.Ns1 a mA∧∀ f,RelO (fs.lookup f) (mA f)
 | .rng lo hi=>∃ t u v,h.get? a=some { cls:=.type "range",data:=.fields #[.int lo t,.int hi u,.int 1 v] }
 | .frz o u=>h.get? a=some o∧ObjOk H h a u
 | .tbl ps=>h.get? a=some { cls:=.none,data:=.fields ps }
 | .met f x=>h.get? a=some (PySem.W.methodObj (.ref f) (.ref x))
 | .ext φ=>φ h∧(∃ o,h.get? a=some o)∧∀ h1 h2:Heap,φ h1→(∀ o,h1.get? a=some o→h2.get? a=some o)→φ h2
noncomputable def HOk (H:Hp) (h:Heap):Prop:=∀ a o,H a=some o→ObjOk P w H h a o
end
section
variable {P:Program} {w:World} {H H':Hp} {h h':Heap} {a:Addr} {o:HO}
theorem ObjOk.lt (x:ObjOk P w H h a o):a<h.objs.size:=by
 cases o with
 | lst xs=>obtain ⟨_,_,_,_,e⟩:=x; exact Heap.lt_size e
 | tup xs=>obtain ⟨_,_,_,p⟩:=x; exact p.lt
 | dK kvs=>obtain ⟨_,_,_,_,o,_,_,e,_⟩:=x; exact Heap.lt_size e
 | dT kvs=>obtain ⟨_,_,_,_,o,_,_,e,_⟩:=x; exact Heap.lt_size e
 | set S n=>obtain ⟨o,_,_,_,e,_⟩:=x; exact Heap.lt_size e
 | ins C dx fs=>obtain ⟨_,_,_,e,_⟩:=x; exact Heap.lt_size e
 | own y=>obtain ⟨_,e⟩:=x; exact Heap.lt_size e
 | xd fs=>obtain ⟨_,⟨_,_,_,e,_⟩,_⟩:=x; exact Heap.lt_size e
 | rng lo hi=>obtain ⟨_,_,_,e⟩:=x; exact Heap.lt_size e
 | frz ob u=>obtain ⟨e,_⟩:=x; exact Heap.lt_size e
 | tbl ps=>exact Heap.lt_size (show h.get? a=some _ from x)
 | met f y=>exact Heap.lt_size (show h.get? a=some _ from x)
 | ext φ=>obtain ⟨_,⟨_,e⟩,_⟩:=x; exact Heap.lt_size e
theorem Paired.mapP {α β:Type} {F G:α→β→Prop}:∀ {l₁:List α} {l₂:List β},Paired F l₁ l₂→(∀ a b,F a b→G a b)→Paired G l₁ l₂
 | _,_,.nil,_=>.nil
 | _,_,.cons r t,f=>.cons (f _ _ r) (Paired.mapP t f)
theorem ObjOk.stay (x:ObjOk P w H h a o) (k:∀ b u,(b=a∨H b=some (.own a))→h.get? b=some u→h'.get? b=some u)
  (ho:∀ b,H b=some (.own a)→H' b=some (.own a)) (ht:∀ b xs,H b=some (.tup xs)→H' b=some (.tup xs)):ObjOk P w H' h' a o:=by
 induction o with
 | lst xs=>obtain ⟨z,its,n,r,e⟩:=x; exact ⟨z,its,n,r,k _ _ (.inl rfl) e⟩
 | tup xs=>obtain ⟨z,its,r,ob,e,c⟩:=x; exact ⟨z,its,r,ob,k _ _ (.inl rfl) e,c⟩
 | dK kvs=>obtain ⟨z,y,vs,r,ob,es,ep,e,c⟩:=x; exact ⟨z,y,vs,r,ob,es,ep,k _ _ (.inl rfl) e,c⟩
 | dT kvs=>
  obtain ⟨z,y,xs,r,ob,es,ep,e,c⟩:=x
  exact ⟨z,y,xs,Paired.mapP r fun p q z=>⟨z.1,ht _ _ z.2.1,z.2.2⟩,ob,es,ep,k _ _ (.inl rfl) e,c⟩
 | set S n=>obtain ⟨ob,es,ep,t,e,c⟩:=x; exact ⟨ob,es,ep,t,k _ _ (.inl rfl) e,c⟩
 | ins C dx fs=>
  obtain ⟨d,z,ne,e,mA,⟨od,es,ep,e2,c⟩,r⟩:=x
  exact ⟨ho _ d,z,ne,k _ _ (.inl rfl) e,mA,⟨od,es,ep,k _ _ (.inr d) e2,c⟩,r⟩
 | own y=>obtain ⟨ob,e⟩:=x; exact ⟨ob,k _ _ (.inl rfl) e⟩
 | xd fs=>obtain ⟨mA,⟨od,es,ep,e,c⟩,r⟩:=x; exact ⟨mA,⟨od,es,ep,k _ _ (.inl rfl) e,c⟩,r⟩
 | rng lo hi=>obtain ⟨t,u,v,e⟩:=x; exact ⟨t,u,v,k _ _ (.inl rfl) e⟩
 | frz ob u ih=>obtain ⟨e,q⟩:=x; exact ⟨k _ _ (.inl rfl) e,ih q⟩
 | tbl ps=>
  have e:h.get? a=some { cls:=.none,data:=.fields ps }:=x
  show h'.get? a=some { cls:=.none,data:=.fields ps }
  exact k a _ (.inl rfl) e
 | met f y=>
  have e:h.get? a=some (PySem.W.methodObj (.ref f) (.ref y)):=x
  show h'.get? a=some (PySem.W.methodObj (.ref f) (.ref y))
  exact k a _ (.inl rfl) e
 | ext φ=>obtain ⟨p,⟨o,e⟩,st⟩:=x; exact ⟨st _ _ p fun o q=>k _ _ (.inl rfl) q,⟨o,k _ _ (.inl rfl) e⟩,st⟩
theorem HOk.lt (x:HOk P w H h) (e:H a=some o):a<h.objs.size:=(x a o e).lt
theorem HOk.fresh (x:HOk P w H h) (e:h.objs.size≤a):H a=none:=by
 cases q:H a with
 | none=>rfl
 | some u=>exact absurd (Nat.lt_of_lt_of_le (x.lt q) e) (Nat.lt_irrefl _)
theorem HOk.kept (x:HOk P w H h) (k:∀ b u,h.get? b=some u→h'.get? b=some u):HOk P w H h':=fun a o e=>
 (x a o e).stay (fun b u _ q=>k b u q) (fun _ q=>q) fun _ _ q=>q
theorem HOk.laid (x:HOk P w H h) (k:∀ b u,h.get? b=some u→h'.get? b=some u) (hp:h.objs.size≤a) (new:ObjOk P w (upd H a o) h' a o):HOk P w (upd H a o) h':=fun b u e=>by
 have hn:=x.fresh hp
 by_cases hb:b=a
 ·subst hb; rw [upd_same] at e; cases e; exact new
 ·rw [upd_ne hb] at e
  exact (x b u e).stay (fun c v _ q=>k c v q) (fun c q=>by rw [upd_ne (ne_of_none q hn)]; exact q) fun c xs q=>by rw [upd_ne (ne_of_none q hn)]; exact q
end
noncomputable def Rd (H:Hp) (a:Addr) (u:HO):Prop:=H a=some u∨∃ o,H a=some (.frz o u)
theorem Rd.ok {P:Program} {w:World} {H:Hp} {h:Heap} {a:Addr} {u:HO} (r:Rd H a u) (x:HOk P w H h):ObjOk P w H h a u:=by
 rcases r with r | ⟨o,r⟩
 ·exact x a u r
 ·obtain ⟨_,q⟩:=x a _ r
  exact q
noncomputable def Mut:Option HO→Prop
 | some (.lst _)=>True
 | some (.dK _)=>True
 | some (.dT _)=>True
 | some (.set _ _)=>True
 | some (.ins _ _ _)=>True
 | some (.ext _)=>True
 | _=>False
section
variable {P:Program} {w:World} {H:Hp} {h h':Heap} {x e:Addr} {o':HO}
theorem HOk.write (ok:HOk P w H h) (mu:Mut (H x)) (he:e=x∨H e=some (.own x)) (k:∀ b u,b≠e→h.get? b=some u→h'.get? b=some u) (heo:∃ u,h'.get? e=some u)
  (new:ObjOk P w (upd H x o') h' x o'):HOk P w (upd H x o') h':=fun b u q=>by
 have nown:∀ c y,H c=some (.own y)→c≠x:=fun c y r z=>by subst z; rw [r] at mu; exact mu
 have ntup:∀ c xs,H c=some (.tup xs)→c≠x:=fun c xs r z=>by subst z; rw [r] at mu; exact mu
 by_cases hb:b=x
 ·subst hb; rw [upd_same] at q; cases q; exact new
 ·rw [upd_ne hb] at q
  by_cases hbe:b=e
  ·have q':H b=some (.own x):=by
    rcases he with z | z
    ·exact absurd (hbe.trans z) hb
    ·rw [hbe]; exact z
   rw [q] at q'; cases q'
   obtain ⟨v,hv⟩:=heo
   exact ⟨v,by rw [hbe]; exact hv⟩
  ·refine (ok b u q).stay (fun c v hc r=>k c v ?_ r) (fun c r=>by rw [upd_ne (nown c b r)]; exact r) fun c xs r=>by rw [upd_ne (ntup c xs r)]; exact r
   rcases hc with rfl | hc
   ·exact hbe
   ·rintro rfl
    rcases he with z | z
    ·exact nown c b hc z
    ·rw [hc] at z; cases z; exact hb rfl
end
structure Un (fs ex:List Addr) (H H':Hp) (h h':Heap):Prop where
 keep:∀ b o,h.get? b=some o→H b=none→b∉fs→b∉ex→h'.get? b=some o
 slot:∀ b o,h.get? b=some o→H b=none→b∈fs→b∉ex→∃ sl,h'.get? b=some { o with slots:=sl }
 free:∀ b o,h.get? b=some o→H b=none→b∉ex→H' b=none
 there:∀ b o,h.get? b=some o→b∉ex→∃ o',h'.get? b=some o'
 tups:∀ b xs,H b=some (.tup xs)→H' b=some (.tup xs)
 frzs:∀ b o u,H b=some (.frz o u)→H' b=some (.frz o u)
 tbls:∀ b ps,H b=some (.tbl ps)→∃ more,H' b=some (.tbl (ps++more))
section
variable {fs fs' ex ex':List Addr} {H H1 H2:Hp} {h h1 h2 h':Heap} {a x e:Addr} {o:HO}
theorem Un.any (u:Un fs ex H H1 h h1) {b:Addr} {ob:Obj} (q:h.get? b=some ob) (n:H b=none) (hx:b∉ex):∃ sl,h1.get? b=some { ob with slots:=sl }:=by
 by_cases hb:b∈fs
 ·exact u.slot b ob q n hb hx
 ·exact ⟨ob.slots,u.keep b ob q n hb hx⟩
theorem Un.kept (k:∀ b u,h.get? b=some u→h'.get? b=some u):Un fs ex H H h h':=
 ⟨fun b ob q _ _ _=>k b ob q,fun b ob q _ _ _=>⟨ob.slots,k b ob q⟩,fun _ _ _ n _=>n,fun b ob q _=>⟨ob,k b ob q⟩,fun _ _ q=>q,fun _ _ _ q=>q,fun _ ps q=>⟨#[],by rw [q]; simp⟩⟩
theorem Un.refl:Un fs ex H H h h:=Un.kept fun _ _ q=>q
theorem Un.laid (k:∀ b u,h.get? b=some u→h'.get? b=some u) (hp:h.objs.size≤a) (hn:H a=none):Un fs ex H (upd H a o) h h' where
 keep:=fun b u q _ _ _=>k b u q
 slot:=fun b u q _ _ _=>⟨u.slots,k b u q⟩
 free:=fun b u q n _=>by rw [upd_ne (Nat.ne_of_lt (Nat.lt_of_lt_of_le (Heap.lt_size q) hp))]; exact n
 there:=fun b u q _=>⟨u,k b u q⟩
 tups:=fun b xs q=>by rw [upd_ne (ne_of_none q hn)]; exact q
 frzs:=fun b u xs q=>by rw [upd_ne (ne_of_none q hn)]; exact q
 tbls:=fun b ps q=>⟨#[],by rw [upd_ne (ne_of_none q hn),q]; simp⟩
theorem Un.write (mu:Mut (H x)) (he:e=x∨H e=some (.own x)) (k:∀ b u,b≠e→h.get? b=some u→h'.get? b=some u) (heo:∃ u,h'.get? e=some u):Un fs ex H (upd H x o) h h':=by
 have hx:∀ b,H b=none→b≠x:=fun b n z=>by subst z; rw [n] at mu; exact mu
 have hb:∀ b,H b=none→b≠e:=fun b n z=>by
  subst z
  rcases he with r | r
  ·exact hx b n r
  ·rw [n] at r; cases r
 have hm:∀ b u,H b=some u→¬ Mut (some u)→b≠x:=fun b u q nm z=>by subst z; rw [q] at mu; exact nm mu
 refine ⟨fun b u q n _ _=>k b u (hb b n) q,fun b u q n _ _=>⟨u.slots,k b u (hb b n) q⟩,fun b u q n _=>by rw [upd_ne (hx b n)]; exact n,fun b u q _=>?_,
  fun b xs q=>by rw [upd_ne (hm b _ q fun z=>z)]; exact q,fun b u xs q=>by rw [upd_ne (hm b _ q fun z=>z)]; exact q,fun b ps q=>⟨#[],by rw [upd_ne (hm b _ q fun z=>z),q]; simp⟩⟩
 by_cases hbe:b=e
 ·subst hbe; exact heo
 ·exact ⟨u,k b u hbe q⟩
end
noncomputable def trk (h:Heap) (H:Hp):List Addr:=(List.range h.objs.size).filter fun a=>(H a).isSome
noncomputable def hidT (h:Heap) (H:Hp):Heap:=PySem.W.hideAll h (trk h H)
theorem hidT_size (h:Heap) (H:Hp):(hidT h H).objs.size=h.objs.size:=PySem.W.hideAll_size _ _
theorem hidT_get {h:Heap} {H:Hp} {b:Addr} {o:Obj} (e:h.get? b=some o) (n:H b=none):(hidT h H).get? b=some o:=
 PySem.W.hideAll_get _ e fun hm=>by
  have q:(H b).isSome=true:=(List.mem_filter.mp hm).2
  rw [n] at q; simp at q
theorem of_hidT {h:Heap} {H:Hp} {b:Addr} {o:Obj} (e:(hidT h H).get? b=some o):h.get? b=some o∧H b=none:=by
 have e':h.get? b=some o:=PySem.W.of_hideAll (trk h H) e
 refine ⟨e',?_⟩
 cases q:H b with
 | none=>rfl
 | some x=>
  have hm:b∈trk h H:=List.mem_filter.mpr ⟨List.mem_range.mpr (Heap.lt_size e'),by simp [q]⟩
  have z:(hidT h H).get? b=none:=PySem.W.hideAll_none (trk h H) hm
  rw [z] at e; cases e
noncomputable def allNews (g h:Heap) (L:Addr):List (Addr×Obj):=(List.range h.objs.size).filterMap fun a=>if a=L∨(g.get? a).isSome=true then none else (h.get? a).map fun o=>(a,o)
noncomputable def rest (g h:Heap) (L d:Addr):List (Addr×Obj):=(allNews g h L).filter fun p=>decide (p.1≠d)
end L2
namespace L2
open PySem PySem.Spec PyProof.Rows
structure Mod (K:PySem.W.Frag) (mg:Str→Option Value) (base:Heap):Prop where
 kin:K.In base
 glob:base.Ns mainGlobals mg
 blt:∃ mb,base.Ns builtinsNs mb∧∀ x:Str,x ≠ "__name__" → mb x=bootBuiltins x
 nolimit:base.NoLimit
structure Cx where
 prog:Program
 w:World
 K:PySem.W.Frag
 mg:Str→Option Value
 base:Heap
 A:Around
 N:List Str
 s₀:Shared
 H₀:Hp
 env:Env
 outer:List Env
 stack:List Env
 ex:List Addr
 fn:Str→Bool
 calm:Bool
 pn:List (Addr×Obj)
 xe:Value→Shared→Prop
noncomputable def frs (l:List Env):List Addr:=l.filterMap (·.frame)
noncomputable abbrev Cx.fs (X:Cx):List Addr:=frs X.outer
noncomputable def Vis (sc:Scope) (x:Str):Prop:=sc.names.lookup x=some .local∨sc.names.lookup x=some .cell∨sc.names.lookup x=some .free
noncomputable def Loc (sc:Scope) (x:Str):Prop:=sc.names.lookup x=some .local∨sc.names.lookup x=some .cell
noncomputable def Look (env:Env) (h:Heap) (m:Str→Option Value) (x:Str) (u:Value):Prop:=
 (env.kindOf x=some .local∧m x=some u)∨((env.kindOf x=some .cell∨env.kindOf x=some .free)∧∃ c,env.cells.lookup x=some c∧h.IsCell c (some u))
structure Cx.Ok (X:Cx):Prop where
 mod:Mod X.K X.mg X.base
 kind:X.env.scope.kind=.function
 glob:X.env.globals=mainGlobals
 blt:X.env.builtins=builtinsNs
 above:X.s₀.heap.objs.size≤X.env.locals
 inj:∀ x y c,X.env.cells.lookup x=some c→X.env.cells.lookup y=some c→x=y
 has:∀ x,(X.env.kindOf x=some .cell∨X.env.kindOf x=some .free)→∃ c,X.env.cells.lookup x=some c
 cab:∀ x c,X.fn x=true→X.env.cells.lookup x=some c→X.s₀.heap.objs.size≤c
 hd:X.calm=true→X.A.handled=none
 frames:X.A.frames=some X.stack
 stk:X.stack=X.outer∨(X.stack=X.env::X.outer∧X.env.frame=some X.env.locals)
 exf:∀ b∈X.ex,b≠X.env.locals∧∀ x c,X.env.cells.lookup x=some c→c≠b
 bs:∀ b o,X.base.get? b=some o→X.s₀.heap.get? b=some o∧X.H₀ b=none
 bsz:X.base.objs.size≤X.s₀.heap.objs.size
 noex:∀ b o,X.base.get? b=some o→b∉X.ex
 exfs:∀ b∈X.ex,b∉X.fs
 funs:X.s₀.heap.FunFrames X.base X.outer
 frf:∀ b∈X.fs,X.H₀ b=none
structure Inv (X:Cx) (pins:List (Addr×Obj)) (σ:List (Option V)) (H:Hp) (s:Shared):Prop where
 ok:X.Ok
 os:s.os=X.s₀.os
 bare:AllBare s.gens
 base:Un X.fs X.ex X.H₀ H X.s₀.heap s.heap
 loc:∃ m,s.heap.Ns X.env.locals m∧∀ (i:Nat) (x:Str) (v:V),X.N[i]?=some x→σ[i]?=some (some v)→Vis X.env.scope x→∃ u,RelV v u∧Look X.env s.heap m x u
 cell:∀ x c,X.env.cells.lookup x=some c→∃ v,s.heap.IsCell c v
 free:H X.env.locals=none
 freeC:∀ x c,X.env.cells.lookup x=some c→H c=none
 pin:∀ p∈X.pn++pins,s.heap.get? p.1=some p.2∧H p.1=none∧p.1≠X.env.locals∧p.1∉X.fs∧∀ v,p.2.data≠.cell v
 hok:HOk X.prog X.w H s.heap
 len:σ.length=X.N.length
section
variable {X:Cx} {pins:List (Addr×Obj)} {σ:List (Option V)} {H H':Hp} {s:Shared} {h':Heap}
theorem Cx.Ok.nofr (ok:X.Ok) {b:Addr} {o:Obj} (e:X.base.get? b=some o):b∉X.fs:=fun hb=>by
 have:=(ok.funs.mem hb).1
 rw [e] at this; cases this
theorem Inv.bs (I:Inv X pins σ H s):∀ b o,X.base.get? b=some o→s.heap.get? b=some o∧H b=none:=fun b o e=>
 ⟨I.base.keep b o (I.ok.bs b o e).1 (I.ok.bs b o e).2 (I.ok.nofr e) (I.ok.noex b o e),I.base.free b o (I.ok.bs b o e).1 (I.ok.bs b o e).2 (I.ok.noex b o e)⟩
theorem Inv.bk (I:Inv X pins σ H s):∀ b o,X.base.get? b=some o→s.heap.get? b=some o:=fun b o e=>(I.bs b o e).1
theorem Inv.mod (I:Inv X pins σ H s):Mod X.K X.mg X.base:=I.ok.mod
theorem Inv.kIn (I:Inv X pins σ H s):X.K.In s.heap:=I.ok.mod.kin.keeps I.bk
theorem Inv.fr (I:Inv X pins σ H s):∃ m,Fr X.base X.env.locals s.heap m:=
 let ⟨m,hn,_⟩:=I.loc
 ⟨m,hn,I.bk,Nat.le_trans I.ok.bsz I.ok.above⟩
theorem Inv.lt (I:Inv X pins σ H s):X.env.locals<s.heap.objs.size:=let ⟨_,hn,_⟩:=I.loc; hn.lt
theorem Inv.sz (I:Inv X pins σ H s):X.s₀.heap.objs.size≤s.heap.objs.size:=Nat.le_trans I.ok.above (Nat.le_of_lt I.lt)
theorem Inv.nofs (I:Inv X pins σ H s) {a:Addr} (h:s.heap.objs.size≤a):a∉X.fs:=fun hb=>by
 obtain ⟨_,o,ho,_⟩:=I.ok.funs.mem hb
 exact absurd (Nat.lt_of_lt_of_le (Heap.lt_size ho) (Nat.le_trans I.sz h)) (Nat.lt_irrefl _)
theorem Inv.cne (I:Inv X pins σ H s):∀ x c,X.env.cells.lookup x=some c→c≠X.env.locals:=fun x c e z=>by
 obtain ⟨v,o,ho,hd⟩:=I.cell x c e
 obtain ⟨m,⟨o',es,ep,ho',hd',_⟩,_⟩:=I.loc
 rw [z,ho'] at ho; cases ho; rw [hd'] at hd; cases hd
theorem Inv.funs (I:Inv X pins σ H s):s.heap.FunFrames X.base X.outer:=by
 have all:∀ (l:List Env),(∀ b∈frs l,b∈X.fs)→X.s₀.heap.FunFrames X.base l→s.heap.FunFrames X.base l:=by
  intro l
  induction l with
  | nil=>intro _ _; trivial
  | cons env r ih=>
   intro hs hl
   obtain ⟨hk,⟨L,o,hf,hn,ho,hd⟩,hr⟩:=hl
   have hL:L∈X.fs:=hs L (by unfold frs; rw [List.filterMap_cons,hf]; exact List.mem_cons_self)
   obtain ⟨sl,e⟩:=I.base.slot L o ho (I.ok.frf L hL) hL fun z=>I.ok.exfs L z hL
   exact ⟨hk,⟨L,_,hf,hn,e,hd⟩,ih (fun b hb=>hs b (by unfold frs; rw [List.filterMap_cons,hf]; exact List.mem_cons_of_mem _ hb)) hr⟩
 exact all X.outer (fun _ hb=>hb) I.ok.funs
theorem Inv.stack (I:Inv X pins σ H s):s.heap.FunFrames X.base X.stack:=by
 rcases I.ok.stk with e | ⟨e,hf⟩
 ·rw [e]; exact I.funs
 ·rw [e]
  obtain ⟨m,hn,_⟩:=I.loc
  refine .cons (by rw [I.ok.kind]; decide) hf hn ?_ I.funs
  exact Heap.get?_none_of_le (Nat.le_trans I.ok.bsz I.ok.above)
theorem Inv.stkSub (I:Inv X pins σ H s):∀ b∈frs X.stack,b∈X.env.locals::X.fs:=fun b hb=>by
 rcases I.ok.stk with e | ⟨e,hf⟩
 ·rw [e] at hb; exact List.mem_cons_of_mem _ hb
 ·rw [e] at hb
  unfold frs at hb
  rw [List.filterMap_cons,hf] at hb
  exact hb
theorem Inv.stkFree (I:Inv X pins σ H s):∀ b∈frs X.stack,H b=none:=fun b hb=>by
 rcases List.mem_cons.mp (I.stkSub b hb) with e | hb
 ·rw [e]; exact I.free
 ·obtain ⟨_,o,ho,_⟩:=I.ok.funs.mem hb
  exact I.base.free b o ho (I.ok.frf b hb) fun z=>I.ok.exfs b z hb
theorem Inv.step {g':Array GenState} {t':Nat} {d':Drawn} {ch:List Addr} (I:Inv X pins σ H s)
  (hch:∀ b∈ch,(b∈X.ex∨X.s₀.heap.objs.size≤b)∧b≠X.env.locals∧(∀ x c,X.env.cells.lookup x=some c→c≠b)∧∀ p∈X.pn++pins,p.1≠b)
  (keep:∀ b o,b≠X.env.locals→b∉X.fs→b∉ch→s.heap.get? b=some o→H b=none→h'.get? b=some o)
  (slot:∀ b o,b≠X.env.locals→b∈X.fs→b∉ch→s.heap.get? b=some o→H b=none→∃ sl,h'.get? b=some { o with slots:=sl }) (free:∀ b o,b∉ch→s.heap.get? b=some o→H b=none→H' b=none)
  (there:∀ b o,b∉ch→s.heap.get? b=some o→∃ o',h'.get? b=some o')
  (tups:∀ b xs,H b=some (.tup xs)→H' b=some (.tup xs)) (frzs:∀ b o u,H b=some (.frz o u)→H' b=some (.frz o u)) (tbls:∀ b ps,H b=some (.tbl ps)→∃ more,H' b=some (.tbl (ps++more)))
  (ns:∀ m,s.heap.Ns X.env.locals m→h'.Ns X.env.locals m) (hok:HOk X.prog X.w H' h') (hg:AllBare g') :
  Inv X pins σ H' { s with heap:=h',gens:=g',drawn:=d',toks:=t' }:=by
 have neL:∀ b o,X.s₀.heap.get? b=some o→b≠X.env.locals:=fun b o e=>Nat.ne_of_lt (Nat.lt_of_lt_of_le (Heap.lt_size e) I.ok.above)
 have neC:∀ b o,X.s₀.heap.get? b=some o→b∉X.ex→b∉ch:=fun b o e hx hb=>by
  rcases (hch b hb).1 with z | z
  ·exact hx z
  ·exact absurd (Nat.lt_of_lt_of_le (Heap.lt_size e) z) (Nat.lt_irrefl _)
 have cellK:∀ x c,X.env.cells.lookup x=some c→∀ v,s.heap.IsCell c v→h'.IsCell c v:=fun x c e v zz1=>by
  obtain ⟨o,ho,hd⟩:=zz1
  have nch:c∉ch:=fun z=>(hch c z).2.2.1 x c e rfl
  by_cases hc:c∈X.fs
  ·obtain ⟨sl,q⟩:=slot c o (I.cne x c e) hc nch ho (I.freeC x c e)
   exact ⟨_,q,hd⟩
  ·exact ⟨o,keep c o (I.cne x c e) hc nch ho (I.freeC x c e),hd⟩
 refine ⟨I.ok,I.os,hg,⟨fun b o e n hb hx=>?_,fun b o e n hb hx=>?_,fun b o e n hx=>?_,fun b o e hx=>?_,fun b xs e=>tups b xs (I.base.tups b xs e),fun b o xs e=>frzs b o xs (I.base.frzs b o xs e),fun b ps e=>?_⟩,?_,fun x c e=>?_,?_,fun x c e=>?_,fun p hp=>?_,hok,I.len⟩
 ·exact keep b o (neL b o e) hb (neC b o e hx) (I.base.keep b o e n hb hx) (I.base.free b o e n hx)
 ·obtain ⟨sl,e1⟩:=I.base.slot b o e n hb hx
  obtain ⟨sl',e2⟩:=slot b _ (neL b o e) hb (neC b o e hx) e1 (I.base.free b o e n hx)
  exact ⟨sl',e2⟩
 ·obtain ⟨o',e1⟩:=I.base.there b o e hx
  exact free b o' (neC b o e hx) e1 (I.base.free b o e n hx)
 ·obtain ⟨o',e1⟩:=I.base.there b o e hx
  exact there b o' (neC b o e hx) e1
 ·obtain ⟨m1,e1⟩:=I.base.tbls b ps e
  obtain ⟨m2,e2⟩:=tbls b _ e1
  exact ⟨m1++m2,by rw [e2,Array.append_assoc]⟩
 ·obtain ⟨m,hn,hl⟩:=I.loc
  refine ⟨m,ns m hn,fun i x v e1 e2 e3=>?_⟩
  obtain ⟨u,r,l⟩:=hl i x v e1 e2 e3
  refine ⟨u,r,?_⟩
  rcases l with l | ⟨k,c,e,z⟩
  ·exact .inl l
  ·exact .inr ⟨k,c,e,cellK x c e _ z⟩
 ·obtain ⟨v,z⟩:=I.cell x c e
  exact ⟨v,cellK x c e v z⟩
 ·obtain ⟨m,⟨o,_,_,ho,_⟩,_⟩:=I.loc
  exact free _ o (fun z=>(hch _ z).2.1 rfl) ho I.free
 ·obtain ⟨v,o,ho,hd⟩:=I.cell x c e
  exact free c o (fun z=>(hch c z).2.2.1 x c e rfl) ho (I.freeC x c e)
 ·obtain ⟨e,n,ne,nf,d⟩:=I.pin p hp
  have nch:p.1∉ch:=fun z=>(hch p.1 z).2.2.2 p hp rfl
  exact ⟨keep p.1 p.2 ne nf nch e n,free p.1 p.2 nch e n,ne,nf,d⟩
theorem Inv.un {t':Nat} (I:Inv X pins σ H s) (u:Un X.fs [] H H' s.heap h') (hok:HOk X.prog X.w H' h'):Inv X pins σ H' { s with heap:=h',toks:=t' }:=by
 obtain ⟨m,⟨o,es,ep,ho,r⟩,_⟩:=id I.loc
 obtain ⟨sl,hL⟩:=u.any ho I.free (by simp)
 exact I.step (g':=s.gens) (d':=s.drawn) (ch:=[]) (fun _ z=>nomatch z) (fun b o _ hb _ e n=>u.keep b o e n hb (by simp)) (fun b o _ hb _ e n=>u.slot b o e n hb (by simp)) (fun b o _ e n=>u.free b o e n (by simp)) (fun b o _ e=>u.there b o e (by simp)) u.tups u.frzs u.tbls (fun m' hm=>by
  obtain ⟨o',es',ep',ho',r'⟩:=hm
  rw [ho] at ho'; cases ho'
  exact ⟨_,es',ep',hL,r'⟩) hok I.bare
theorem Inv.call {g':Array GenState} {t':Nat} {d':Drawn} {ch:List Addr} (I:Inv X pins σ H s) (u:Un (frs X.stack) ch H H' s.heap h') (hok:HOk X.prog X.w H' h') (hg:AllBare g')
  (hch:∀ b∈ch,(b∈X.ex∨X.s₀.heap.objs.size≤b)∧b≠X.env.locals∧(∀ x c,X.env.cells.lookup x=some c→c≠b)∧∀ p∈X.pn++pins,p.1≠b) :
  Inv X pins σ H' { s with heap:=h',gens:=g',drawn:=d',toks:=t' }:=by
 obtain ⟨m,⟨o,es,ep,ho,r⟩,_⟩:=id I.loc
 obtain ⟨sl,hL⟩:=u.any ho I.free fun z=>(hch _ z).2.1 rfl
 exact I.step (ch:=ch) hch (fun b o hL hb hc e n=>u.keep b o e n (fun z=>(List.mem_cons.mp (I.stkSub b z)).elim hL hb) hc) (fun b o _ _ hc e n=>u.any e n hc) (fun b o hc e n=>u.free b o e n hc) (fun b o hc e=>u.there b o e hc) u.tups u.frzs u.tbls (fun m' hm=>by
  obtain ⟨o',es',ep',ho',r'⟩:=hm
  rw [ho] at ho'; cases ho'
  exact ⟨_,es',ep',hL,r'⟩) hok hg
theorem Inv.turned {t':Nat} {it:Addr} (I:Inv X pins σ H s) (k:∀ b o,b≠it→s.heap.get? b=some o→h'.get? b=some o) (hn:H it=none) (hL:it≠X.env.locals)
  (h1:it∈X.ex∨X.s₀.heap.objs.size≤it) (h2:∀ x c,X.env.cells.lookup x=some c→c≠it) (h3:∀ p∈X.pn++pins,p.1≠it):Inv X pins σ H { s with heap:=h',toks:=t' }:=by
 have nit:∀ b u,H b=some u→b≠it:=fun b u e z=>by rw [z,hn] at e; cases e
 refine I.step (g':=s.gens) (d':=s.drawn) (ch:=[it]) (fun b hb=>?_) (fun b o _ _ hc e _=>k b o (fun z=>hc (by simp [z])) e) (fun b o _ _ hc e _=>⟨o.slots,k b o (fun z=>hc (by simp [z])) e⟩) (fun _ _ _ _ n=>n)
  (fun b o hc e=>⟨o,k b o (fun z=>hc (by simp [z])) e⟩) (fun _ _ e=>e) (fun _ _ _ e=>e) (fun b ps e=>⟨#[],by rw [e]; simp⟩) (fun m hm=>?_) (fun b u e=>?_) I.bare
 ·have e:b=it:=by simpa using hb
  subst e
  exact ⟨h1,hL,h2,h3⟩
 ·obtain ⟨o,es,ep,ho,r⟩:=hm
  exact ⟨o,es,ep,k _ o (Ne.symm hL) ho,r⟩
 ·refine (I.hok b u e).stay (fun c v hc q=>k c v ?_ q) (fun _ q=>q) fun _ _ q=>q
  rcases hc with z | z
  ·rw [z]; exact nit b u e
  ·exact nit c _ z
theorem Inv.tok (I:Inv X pins σ H s) (t:Nat):Inv X pins σ H { s with toks:=t }:=I.un (h':=s.heap) (t':=t) Un.refl I.hok
theorem Inv.kept {t':Nat} (I:Inv X pins σ H s) (k:∀ b u,s.heap.get? b=some u→h'.get? b=some u):Inv X pins σ H { s with heap:=h',toks:=t' }:=I.un (Un.kept k) (I.hok.kept k)
theorem Inv.laid {a:Addr} {o:HO} {t':Nat} (I:Inv X pins σ H s) (k:∀ b u,s.heap.get? b=some u→h'.get? b=some u) (hp:s.heap.objs.size≤a) (new:ObjOk X.prog X.w (upd H a o) h' a o) :
  Inv X pins σ (upd H a o) { s with heap:=h',toks:=t' }:=I.un (Un.laid k hp (I.hok.fresh hp)) (I.hok.laid k hp new)
theorem Inv.write {x e:Addr} {o:HO} {t':Nat} (I:Inv X pins σ H s) (mu:Mut (H x)) (he:e=x∨H e=some (.own x)) (k:∀ b u,b≠e→s.heap.get? b=some u→h'.get? b=some u) (heo:∃ u,h'.get? e=some u)
  (new:ObjOk X.prog X.w (upd H x o) h' x o):Inv X pins σ (upd H x o) { s with heap:=h',toks:=t' }:=I.un (Un.write mu he k heo) (I.hok.write mu he k heo new)
theorem Inv.weak {σ':List (Option V)} (I:Inv X pins σ H s) (hl:σ'.length=σ.length) (w:∀ (i:Nat) v,σ'[i]?=some (some v)→σ[i]?=some (some v)):Inv X pins σ' H s:=
 ⟨I.ok,I.os,I.bare,I.base,let ⟨m,hn,hl'⟩:=I.loc; ⟨m,hn,fun i x v e1 e2 e3=>hl' i x v e1 (w i v e2) e3⟩,I.cell,I.free,I.freeC,I.pin,I.hok,hl.trans I.len⟩
theorem Inv.pins_of {pins':List (Addr×Obj)} (I:Inv X pins σ H s) (h:∀ p∈pins',s.heap.get? p.1=some p.2∧H p.1=none∧p.1≠X.env.locals∧p.1∉X.fs∧∀ v,p.2.data≠.cell v):Inv X pins' σ H s:=
 ⟨I.ok,I.os,I.bare,I.base,I.loc,I.cell,I.free,I.freeC,fun p hp=>(List.mem_append.mp hp).elim (fun z=>I.pin p (List.mem_append_left _ z)) (h p),I.hok,I.len⟩
theorem nodup_ix {N:List Str} (hN:N.Nodup) {i j:Nat} {x:Str} (a:N[i]?=some x) (b:N[j]?=some x):i=j:=by
 obtain ⟨h1,e1⟩:=List.getElem?_eq_some_iff.mp a
 obtain ⟨h2,e2⟩:=List.getElem?_eq_some_iff.mp b
 exact (List.getElem_inj hN).mp (e1.trans e2.symm)
theorem store_ok2 {M:Model} {A:Around} {E:Value→Shared→Prop} {i:Nat} {x:Str} {v:V} {u:Value} {Q:Unit→Shared→Prop} (I:Inv X pins σ H s) (hN:X.N.Nodup) (hi:X.N[i]?=some x) (hx:Loc X.env.scope x) (r:RelV v u)
  (h:∀ s',Inv X pins (σ.set i (some v)) H s'→(∃ a,Heap.SameBut a s.heap s'.heap∧(a=X.env.locals∨X.env.cells.lookup x=some a))→Q () s') (hf:X.fn x=true∨X.env.scope.names.lookup x=some .local:=by first | exact .inl rfl | exact .inr rfl | assumption):wpAny M A (storeName X.env x u) Q E s:=by
 obtain ⟨m,hn,hl⟩:=id I.loc
 have hcls:(X.env.scope.kind == .class||(X.env.scope.kind == .module&&X.env.locals != X.env.globals))=false:=by rw [I.ok.kind]; rfl
 have hiσ:i<σ.length:=by rw [I.len]; exact (List.getElem?_eq_some_iff.mp hi).1
 have cne:=I.cne
 have tracked:∀ {a:Addr} {h':Heap},(∃ o,s.heap.get? a=some o∧H a=none)→Heap.SameBut a s.heap h'→HOk X.prog X.w H h':=fun {a h'} ha hs b ob e=>by
  obtain ⟨_,_,hfree⟩:=ha
  refine (I.hok b ob e).stay (fun c w' hc q=>(hs.2 c ?_).trans q) (fun _ q=>q) fun _ _ q=>q
  rintro rfl
  rcases hc with rfl | hc
  ·rw [hfree] at e; cases e
  ·rw [hfree] at hc; cases hc
 rcases hx with hk | hk
 ·refine wpAny_storeName_local hk hn (fun h' hn' hs=>?_) hcls
  obtain ⟨oL,_,_,hoL,_⟩:=id hn
  refine h _ ⟨I.ok,I.os,I.bare,⟨fun b o e n hb hx=>?_,fun b o e n hb hx=>?_,I.base.free,fun b o e hx=>?_,I.base.tups,I.base.frzs,I.base.tbls⟩,⟨_,hn',fun j y v' e1 e2 e3=>?_⟩,fun y c e=>?_,I.free,I.freeC,fun p hp=>?_,tracked ⟨oL,hoL,I.free⟩ hs,by simpa using I.len⟩ ⟨_,hs,.inl rfl⟩
  ·exact (hs.2 b (Nat.ne_of_lt (Nat.lt_of_lt_of_le (Heap.lt_size e) I.ok.above))).trans (I.base.keep b o e n hb hx)
  ·obtain ⟨sl,e1⟩:=I.base.slot b o e n hb hx
   exact ⟨sl,(hs.2 b (Nat.ne_of_lt (Nat.lt_of_lt_of_le (Heap.lt_size e) I.ok.above))).trans e1⟩
  ·obtain ⟨o',e1⟩:=I.base.there b o e hx
   exact ⟨o',(hs.2 b (Nat.ne_of_lt (Nat.lt_of_lt_of_le (Heap.lt_size e) I.ok.above))).trans e1⟩
  ·by_cases hj:j=i
   ·subst hj
    rw [hi] at e1; cases e1
    rw [List.getElem?_set_self hiσ] at e2
    cases e2
    exact ⟨u,r,.inl ⟨hk,by simp⟩⟩
   ·rw [List.getElem?_set_ne (Ne.symm hj)] at e2
    obtain ⟨u',r',q⟩:=hl j y v' e1 e2 e3
    refine ⟨u',r',?_⟩
    rcases q with ⟨k,e⟩ | ⟨k,c,e,z⟩
    ·refine .inl ⟨k,?_⟩
     have:y≠x:=fun e=>hj (nodup_ix hN e1 (e ▸ hi))
     simp [this,e]
    ·exact .inr ⟨k,c,e,z.sameBut hs (cne y c e)⟩
  ·obtain ⟨w',z⟩:=I.cell y c e
   exact ⟨w',z.sameBut hs (cne y c e)⟩
  ·obtain ⟨e,n,ne,nf,d⟩:=I.pin p hp
   exact ⟨(hs.2 p.1 ne).trans e,n,ne,nf,d⟩
 ·have hfn:X.fn x=true:=by
   rcases hf with z | z
   ·exact z
   ·rw [z] at hk; cases hk
  obtain ⟨c,hc⟩:=I.ok.has x (.inl hk)
  obtain ⟨w',z⟩:=I.cell x c hc
  refine wpAny_storeName_cell I.ok.kind hk hc z (fun h' hc' hs=>?_)
  obtain ⟨oc,hoc,hocd⟩:=id z
  refine h { s with heap:=h' } ⟨I.ok,I.os,I.bare,⟨fun b o e n hb hx=>?_,fun b o e n hb hx=>?_,I.base.free,fun b o e hx=>?_,I.base.tups,I.base.frzs,I.base.tbls⟩,⟨m,hn.sameBut hs (Ne.symm (cne x c hc)),fun j y v' e1 e2 e3=>?_⟩,fun y c' e=>?_,I.free,I.freeC,fun p hp=>?_,tracked ⟨oc,hoc,I.freeC x c hc⟩ hs,by simpa using I.len⟩ ⟨c,hs,.inr hc⟩
  ·exact (hs.2 b (Nat.ne_of_lt (Nat.lt_of_lt_of_le (Heap.lt_size e) (I.ok.cab x c hfn hc)))).trans (I.base.keep b o e n hb hx)
  ·obtain ⟨sl,e1⟩:=I.base.slot b o e n hb hx
   exact ⟨sl,(hs.2 b (Nat.ne_of_lt (Nat.lt_of_lt_of_le (Heap.lt_size e) (I.ok.cab x c hfn hc)))).trans e1⟩
  ·obtain ⟨o',e1⟩:=I.base.there b o e hx
   exact ⟨o',(hs.2 b (Nat.ne_of_lt (Nat.lt_of_lt_of_le (Heap.lt_size e) (I.ok.cab x c hfn hc)))).trans e1⟩
  ·by_cases hj:j=i
   ·subst hj
    rw [hi] at e1; cases e1
    rw [List.getElem?_set_self hiσ] at e2
    cases e2
    exact ⟨u,r,.inr ⟨.inl hk,c,hc,hc'⟩⟩
   ·rw [List.getElem?_set_ne (Ne.symm hj)] at e2
    obtain ⟨u',r',q⟩:=hl j y v' e1 e2 e3
    refine ⟨u',r',?_⟩
    rcases q with q | ⟨k,c',e,z'⟩
    ·exact .inl q
    ·refine .inr ⟨k,c',e,z'.sameBut hs ?_⟩
     rintro rfl
     exact hj (nodup_ix hN e1 (I.ok.inj _ _ _ e hc ▸ hi))
  ·by_cases hcc:c'=c
   ·subst hcc; exact ⟨_,hc'⟩
   ·obtain ⟨w2,z2⟩:=I.cell y c' e
    exact ⟨w2,z2.sameBut hs hcc⟩
  ·obtain ⟨e,n,ne,nf,d⟩:=I.pin p hp
   refine ⟨(hs.2 p.1 ?_).trans e,n,ne,nf,d⟩
   intro q
   rw [q,hoc] at e
   have q':oc=p.2:=Option.some.inj e
   exact d w' (by rw [← q']; exact hocd)
theorem store_ok {M:Model} {A:Around} {E:Value→Shared→Prop} {i:Nat} {x:Str} {v:V} {u:Value} {Q:Unit→Shared→Prop} (I:Inv X pins σ H s) (hN:X.N.Nodup) (hi:X.N[i]?=some x) (hx:Loc X.env.scope x) (r:RelV v u)
  (h:∀ s',Inv X pins (σ.set i (some v)) H s'→Q () s') (hf:X.fn x=true∨X.env.scope.names.lookup x=some .local:=by first | exact .inl rfl | exact .inr rfl | assumption):wpAny M A (storeName X.env x u) Q E s:=
 store_ok2 I hN hi hx r (fun s' I' _=>h s' I') hf
theorem Inv.call' {s':Shared} {ch:List Addr} (I:Inv X pins σ H s) (ho:s'.os=s.os) (u:Un (frs X.stack) ch H H' s.heap s'.heap) (hok:HOk X.prog X.w H' s'.heap) (hg:AllBare s'.gens)
  (hch:∀ b∈ch,(b∈X.ex∨X.s₀.heap.objs.size≤b)∧b≠X.env.locals∧(∀ x c,X.env.cells.lookup x=some c→c≠b)∧∀ p∈X.pn++pins,p.1≠b):Inv X pins σ H' s':=by
 obtain ⟨h',g',d',t',o'⟩:=s'
 have e:o'=s.os:=ho
 subst e
 exact I.call (g':=g') (t':=t') (d':=d') u hok hg hch
end
noncomputable abbrev XK:=Value→Option Addr→Hp→Prop
noncomputable abbrev St:=List (Option V)
noncomputable abbrev VK:=V→Hp→Prop
noncomputable abbrev TE:=St→Hp→VK→Prop
noncomputable abbrev TT:=St→Hp→(Bool→Hp→Prop)→Prop
noncomputable abbrev TA:=St→Hp→(List V→Hp→Prop)→Prop
structure Ends where
 nx:St→Hp→Prop
 rt:VK
 bk:St→Hp→Prop:=fun _ _=>False
 ct:St→Hp→Prop:=fun _ _=>False
noncomputable abbrev TS:=Ends→St→Hp→Prop
noncomputable def EP (X:Cx) (pins:List (Addr×Obj)) (σ:St) (Q:VK) (u:Value) (s':Shared):Prop:=∃ v H',Inv X pins σ H' s'∧RelV v u∧Q v H'
noncomputable def TP (X:Cx) (pins:List (Addr×Obj)) (σ:St) (Q:Bool→Hp→Prop) (b:Bool) (s':Shared):Prop:=∃ H',Inv X pins σ H' s'∧Q b H'
noncomputable def AP (X:Cx) (pins:List (Addr×Obj)) (σ:St) (Q:List V→Hp→Prop) (us:List Value) (s':Shared):Prop:=∃ vs H',Inv X pins σ H' s'∧Vals vs us∧Q vs H'
noncomputable def SP (X:Cx) (pins:List (Addr×Obj)) (D:Ends) (f:Flow) (s':Shared):Prop:=
 match f with
 | .next=>∃ σ' H',Inv X pins σ' H' s'∧D.nx σ' H'
 | .brk=>∃ σ' H',Inv X pins σ' H' s'∧D.bk σ' H'
 | .cont=>∃ σ' H',Inv X pins σ' H' s'∧D.ct σ' H'
 | .ret u=>∃ v σ' H',Inv X pins σ' H' s'∧RelV v u∧D.rt v H'
noncomputable def PE (X:Cx) (e:Expr) (t:TE):Prop:=
 ∀ (pins:List (Addr×Obj)) (s:Shared) (σ:St) (H:Hp) (Q:VK),Inv X pins σ H s→t σ H Q→wpAny (model X.prog X.w) X.A (eval e X.env) (EP X pins σ Q) X.xe s
noncomputable def PT (X:Cx) (e:Expr) (t:TT):Prop:=
 ∀ (pins:List (Addr×Obj)) (s:Shared) (σ:St) (H:Hp) (Q:Bool→Hp→Prop),Inv X pins σ H s→t σ H Q→wpAny (model X.prog X.w) X.A (isTrue e X.env (eval e X.env)) (TP X pins σ Q) X.xe s
noncomputable def PW (X:Cx) (e:Expr) (t:TT):Prop:=
 ∀ (whole:Sem Value) (pins:List (Addr×Obj)) (s:Shared) (σ:St) (H:Hp) (Q:Bool→Hp→Prop),Inv X pins σ H s→t σ H Q→wpAny (model X.prog X.w) X.A (isTrue e X.env whole) (TP X pins σ Q) X.xe s
theorem PW.pt {X:Cx} {e:Expr} {t:TT} (h:PW X e t):PT X e t:=h _
noncomputable def PA (X:Cx) (es:List Expr) (t:TA):Prop:=
 ∀ (pos:Pos) (pins:List (Addr×Obj)) (s:Shared) (σ:St) (H:Hp) (Q:List V→Hp→Prop),Inv X pins σ H s→t σ H Q→wpAny (model X.prog X.w) X.A (spliced (backTo pos (starEach es X.env))) (AP X pins σ Q) X.xe s
noncomputable def PS (X:Cx) (st:Stmt) (t:TS):Prop:=
 ∀ (pins:List (Addr×Obj)) (s:Shared) (σ:St) (H:Hp) (D:Ends),Inv X pins σ H s→t D σ H→wpAny (model X.prog X.w) X.A (exec st X.env) (SP X pins D) X.xe s
noncomputable def PSs (X:Cx) (st:List Stmt) (t:TS):Prop:=
 ∀ (pins:List (Addr×Obj)) (s:Shared) (σ:St) (H:Hp) (D:Ends),Inv X pins σ H s→t D σ H→wpAny (model X.prog X.w) X.A (execs st X.env) (SP X pins D) X.xe s
theorem thn {α:Type} {t:Sem α} {Q Q':α→Shared→Prop} {M:Model} {A:Around} {E:Value→Shared→Prop} {s:Shared} (h:wpAny M A t Q E s) (hQ:∀ a s,Q a s→Q' a s):wpAny M A t Q' E s:=wpAny_mono h hQ fun _ _ x=>x
end L2
namespace L2
open PySem PySem.Spec PyProof.Rows
section
variable {X:Cx}
noncomputable def tVar (i:Nat):TE:=fun σ H Q=>∃ v,σ[i]?=some (some v)∧Q v H
noncomputable def tC (v:V):TE:=fun _ H Q=>Q v H
theorem pe_var {i:Nat} {x:Str} {pos:Pos} (hN:X.N[i]?=some x) (hv:Vis X.env.scope x) (hd:(x == ("__debug__" : Str))=false:=by decide) (hcd:(x == ("__classdict__" : Str))=false:=by decide):PE X (.Name x pos) (tVar i):=by
 intro pins s σ H Q I h
 obtain ⟨v,e,h⟩:=h
 obtain ⟨m,hn,hl⟩:=I.loc
 obtain ⟨u,r,l⟩:=hl i x v hN e hv
 have fin:EP X pins σ Q u s:=⟨v,H,I,r,h⟩
 rcases l with ⟨hk,hm⟩ | ⟨hk,c,hc,hcell⟩
 ·exact wpAny_Name (wpAny_loadName_local I.ok.kind hk hn hm fin) hd
 ·rcases hk with hk | hk
  ·exact wpAny_Name (wpAny_loadName_cell I.ok.kind hk hc hcell fin) hd
  ·exact wpAny_Name (wpAny_loadName_free I.ok.kind hk hc hcell fin hcd) hd
theorem pe_int {i j pos}:PE X (.Constant (.int i) j pos) (tC (.int i)):=fun _ _ _ H _ I h=>wpAny_Constant_int ⟨.int i,H,I.tok _,⟨_,rfl⟩,h⟩
theorem pe_bl {b j pos}:PE X (.Constant (.bool b) j pos) (tC (.bl b)):=fun _ _ _ H _ I h=>Constant_bool ⟨.bl b,H,I,rfl,h⟩
theorem pe_non {j pos}:PE X (.Constant .none j pos) (tC .non):=fun _ _ _ H _ I h=>Constant_none ⟨.non,H,I,rfl,h⟩
noncomputable def Gl (X:Cx) (x:Str):Prop:=X.env.kindOf x=some .globalImplicit
theorem ld_glob {E:Value→Shared→Prop} {pins:List (Addr×Obj)} {s:Shared} {σ:St} {H:Hp} {x:Str} {u:Value} {pos:Pos} {Q:Value→Shared→Prop} (I:Inv X pins σ H s) (hg:Gl X x) (hm:X.mg x=some u) (h:Q u s)
  (hd:(x == ("__debug__" : Str))=false:=by decide):wpAny (model X.prog X.w) X.A (eval (.Name x pos) X.env) Q E s:=
 Calls.Name_function_global I.ok.kind hg (Calls.loadGlobal_global (by rw [I.ok.glob]; exact I.mod.glob.keeps I.bk) hm h) hd
theorem ld_blt {E:Value→Shared→Prop} {pins:List (Addr×Obj)} {s:Shared} {σ:St} {H:Hp} {x:Str} {u:Value} {pos:Pos} {Q:Value→Shared→Prop} (I:Inv X pins σ H s) (hg:Gl X x) (hm:X.mg x=none) (hv:bootBuiltins x=some u) (h:Q u s)
  (hn:x ≠ "__name__" := by decide) (hd:(x == ("__debug__" : Str))=false:=by decide):wpAny (model X.prog X.w) X.A (eval (.Name x pos) X.env) Q E s:=by
 obtain ⟨mb,h1,h2⟩:=I.mod.blt
 exact Calls.Name_function_global I.ok.kind hg (Calls.loadGlobal_builtin (by rw [I.ok.glob]; exact I.mod.glob.keeps I.bk) hm (by rw [I.ok.blt]; exact h1.keeps I.bk) ((h2 x hn).trans hv) h) hd
theorem pe_bltn {x:Str} {v:V} {u:Value} {pos:Pos} (hg:Gl X x) (hm:X.mg x=none) (hv:bootBuiltins x=some u) (r:RelV v u) (hn:x ≠ "__name__" := by decide) (hd:(x == ("__debug__" : Str))=false:=by decide):PE X (.Name x pos) (tC v):=
 fun _ _ _ H _ I h=>ld_blt I hg hm hv ⟨v,H,I,r,h⟩ hn hd
variable {a b:Expr} {ta tb:TE} {pos:Pos}
noncomputable def tB (t:TE):TT:=fun σ H Q=>t σ H fun x H1=>∃ c,x=.bl c∧Q c H1
theorem pt_val {e:Expr} {t:TE} (h:PE X e t) (he:∀ whole,isTrue e X.env whole=(do let v ← whole; standAt e.pos; holding [v] (truthy v)):=by intro _; rfl):PT X e (tB t):=by
 intro pins s σ H Q I hw
 refine isTrue_plain (thn (h pins s σ H _ I hw) fun v s1 zz2=>?_) (he _)
 obtain ⟨x,H1,I1,r1,q1⟩:=zz2
 obtain ⟨d,rfl,q⟩:=q1
 cases r1
 exact wpAny_truthy_bool ⟨H1,I1,q⟩
variable {tA tB':TT} {rest:List Expr}
noncomputable def tAnd (t u:TT):TT:=fun σ H Q=>t σ H fun c H1=>if c=true then u σ H1 Q else Q false H1
noncomputable def tOr (t u:TT):TT:=fun σ H Q=>t σ H fun c H1=>if c=true then Q true H1 else u σ H1 Q
noncomputable def tNot (t:TT):TT:=fun σ H Q=>t σ H fun c H1=>Q (!c) H1
theorem pw_and1 (ha:PT X a tA):PW X (.BoolOp .And [a] pos) tA:=by
 intro wh pins s σ H Q I h
 refine isTrue_and (thn (ha pins s σ H Q I h) fun c s1 e=>?_)
 cases c with
 | true=>exact isTrue_and_nil e
 | false=>exact e
theorem pw_or1 (ha:PT X a tA):PW X (.BoolOp .Or [a] pos) tA:=by
 intro wh pins s σ H Q I h
 refine isTrue_or (thn (ha pins s σ H Q I h) fun c s1 e=>?_)
 cases c with
 | false=>exact isTrue_or_nil e
 | true=>exact e
theorem pw_and (ha:PT X a tA) (hb:PW X (.BoolOp .And (b::rest) pos) tB'):PW X (.BoolOp .And (a::b::rest) pos) (tAnd tA tB'):=by
 intro wh pins s σ H Q I h
 refine isTrue_and (thn (ha pins s σ H _ I h) fun c s1 zz3=>?_)
 obtain ⟨H1,I1,q1⟩:=zz3
 cases c with
 | true=>exact hb wh pins s1 σ H1 Q I1 q1
 | false=>exact ⟨H1,I1,q1⟩
theorem pw_or (ha:PT X a tA) (hb:PW X (.BoolOp .Or (b::rest) pos) tB'):PW X (.BoolOp .Or (a::b::rest) pos) (tOr tA tB'):=by
 intro wh pins s σ H Q I h
 refine isTrue_or (thn (ha pins s σ H _ I h) fun c s1 zz4=>?_)
 obtain ⟨H1,I1,q1⟩:=zz4
 cases c with
 | true=>exact ⟨H1,I1,q1⟩
 | false=>exact hb wh pins s1 σ H1 Q I1 q1
theorem pt_not (ha:PT X a tA):PT X (.UnaryOp .Not a pos) (tNot tA):=by
 intro pins s σ H Q I h
 exact isTrue_not (ha pins s σ H (fun c H1=>Q (!c) H1) I h)
noncomputable def tAndV (ta tb:TE):TE:=fun σ H Q=>ta σ H fun x H1=>∃ c,x=.bl c∧if c=true then tb σ H1 Q else Q (.bl false) H1
noncomputable def tNotV (ta:TE):TE:=fun σ H Q=>ta σ H fun x H1=>∃ c,x=.bl c∧Q (.bl (!c)) H1
theorem pe_one {op} {t:TE} (h:PE X a t):PE X (.BoolOp op [a] pos) t:=fun pins s σ H Q I hw=>BoolOp_one (h pins s σ H Q I hw)
theorem pe_and (ha:PE X a ta) (hb:PE X (.BoolOp .And (b::rest) pos) tb):PE X (.BoolOp .And (a::b::rest) pos) (tAndV ta tb):=by
 intro pins s σ H Q I h
 refine BoolOp_and (thn (ha pins s σ H _ I h) fun v s1 zz5=>?_)
 obtain ⟨x,H1,I1,r1,q1⟩:=zz5
 obtain ⟨c,rfl,q1⟩:=q1
 cases r1
 refine wpAny_truthy_bool ?_
 cases c with
 | true=>exact hb pins s1 σ H1 Q I1 q1
 | false=>exact ⟨.bl false,H1,I1,rfl,q1⟩
theorem pe_not (ha:PE X a ta):PE X (.UnaryOp .Not a pos) (tNotV ta):=by
 intro pins s σ H Q I h
 refine UnaryOp_ (thn (ha pins s σ H _ I h) fun v s1 zz6=>?_)
 obtain ⟨x,H1,I1,r1,q1⟩:=zz6
 obtain ⟨c,rfl,q1⟩:=q1
 cases r1
 exact not_of (wpAny_truthy_bool ⟨.bl (!c),H1,I1,rfl,q1⟩)
noncomputable def tIf (t:TT) (ta tb:TE):TE:=fun σ H Q=>t σ H fun c H1=>if c=true then ta σ H1 Q else tb σ H1 Q
theorem pe_ifExp {c:Expr} (hc:PT X c tA) (ha:PE X a ta) (hb:PE X b tb):PE X (.IfExp c a b pos) (tIf tA ta tb):=by
 intro pins s σ H Q I h
 refine wpAny_IfExp (thn (hc pins s σ H _ I h) fun d s1 zz7=>?_)
 obtain ⟨H1,I1,q1⟩:=zz7
 cases d with
 | true=>exact ha pins s1 σ H1 Q I1 q1
 | false=>exact hb pins s1 σ H1 Q I1 q1
end
end L2
namespace L2
open PySem PySem.Spec PyProof.Rows
noncomputable def SqL (K:PySem.W.Frag) (H:Hp) (a:Addr) (xs:List V):Prop:=
 Rd H a (.lst xs) ∨
  ∃ (o:Obj) (its:Array Value) (n:Nat),K.lookup a=some o∧o.cls=.type "list" ∧ o.dict=none∧o.data=.seq its n∧its.size≤sizeLine∧Vals xs its.toList
noncomputable def SqT (K:PySem.W.Frag) (H:Hp) (a:Addr) (xs:List V):Prop:=
 Rd H a (.tup xs) ∨
  ∃ (o:Obj) (its:Array Value) (n:Nat),K.lookup a=some o∧o.cls=.type "tuple" ∧ o.data=.seq its n∧its.size≤sizeLine∧Vals xs its.toList
noncomputable def absV:Value→Option V
 | .none=>some .non
 | .bool b=>some (.bl b)
 | .int i _=>some (.int i)
 | .str x _=>some (.str x)
 | .bytes b _=>some (.byt b)
 | .float b _=>some (.flt b)
 | .ref a=>some (.ref a)
 | .type n=>some (.ty n)
 | _=>none
theorem RelV.abs {x:V} {u:Value} (r:RelV x u):absV u=some x:=by
 cases x with
 | non=>cases r; rfl
 | bl _=>cases r; rfl
 | int _=>obtain ⟨t,rfl⟩:=r; rfl
 | str _=>obtain ⟨t,rfl⟩:=r; rfl
 | byt _=>obtain ⟨t,rfl⟩:=r; rfl
 | flt _=>obtain ⟨t,rfl⟩:=r; rfl
 | ref _=>cases r; rfl
 | ty _=>cases r; rfl
theorem RelV.inj {x y:V} {u:Value} (r:RelV x u) (q:RelV y u):x=y:=Option.some.inj (r.abs.symm.trans q.abs)
theorem Vals.inj:∀ {xs ys:List V} {us:List Value},Vals xs us→Vals ys us→xs=ys
 | _,_,_,.nil,.nil=>rfl
 | _,_,_,.cons r t,.cons r' t'=>by rw [r.inj r',Vals.inj t t']
section
variable {X:Cx} {pins:List (Addr×Obj)} {σ:St} {H:Hp} {s:Shared} {a:Addr} {xs ys:List V}
theorem SqL.of {K:PySem.W.Frag} (h:H a=some (.lst xs)):SqL K H a xs:=.inl (.inl h)
theorem SqT.of {K:PySem.W.Frag} (h:H a=some (.tup xs)):SqT K H a xs:=.inl (.inl h)
theorem Inv.list (I:Inv X pins σ H s) (h:SqL X.K H a xs):∃ its:List Value,Vals xs its∧PlainL s.heap a its.toArray∧xs.length≤sizeLine:=by
 rcases h with h | ⟨o,its,n,hk,hc,hd,hs,hz,r⟩
 ·obtain ⟨z,its,n,r,e⟩:=h.ok I.hok
  exact ⟨its,r,⟨_,n,e,rfl,rfl,rfl⟩,z⟩
 ·refine ⟨its.toList,r,⟨o,n,I.kIn a o hk,hc,hd,by simpa using hs⟩,?_⟩
  have e:=r.length
  simp only [Array.length_toList] at e
  omega
theorem Inv.tuple (I:Inv X pins σ H s) (h:SqT X.K H a xs):∃ its:List Value,Vals xs its∧IsTup s.heap a its.toArray∧xs.length≤sizeLine:=by
 rcases h with h | ⟨o,its,n,hk,hc,hs,hz,r⟩
 ·obtain ⟨z,its,r,p⟩:=h.ok I.hok
  exact ⟨its,r,p,z⟩
 ·refine ⟨its.toList,r,⟨o,I.kIn a o hk,hc,n,by simpa using hs⟩,?_⟩
  have e:=r.length
  simp only [Array.length_toList] at e
  omega
theorem Inv.list_inj (I:Inv X pins σ H s) (h:SqL X.K H a xs) (h':SqL X.K H a ys):xs=ys:=by
 obtain ⟨its,r,⟨o,n,e,_,_,d⟩,_⟩:=I.list h
 obtain ⟨its',r',⟨o',n',e',_,_,d'⟩,_⟩:=I.list h'
 rw [e] at e'; cases e'
 rw [d] at d'
 injection d' with d1 _
 have:its=its':=by simpa using congrArg Array.toList d1
 subst this
 exact r.inj r'
theorem Inv.tuple_inj (I:Inv X pins σ H s) (h:SqT X.K H a xs) (h':SqT X.K H a ys):xs=ys:=by
 obtain ⟨its,r,⟨o,e,_,n,d⟩,_⟩:=I.tuple h
 obtain ⟨its',r',⟨o',e',_,n',d'⟩,_⟩:=I.tuple h'
 rw [e] at e'; cases e'
 rw [d] at d'
 injection d' with d1 _
 have:its=its':=by simpa using congrArg Array.toList d1
 subst this
 exact r.inj r'
end
noncomputable abbrev Cx.wish (X:Cx) (E:Value→Shared→Prop):Cx:={ X with xe:=E }
noncomputable abbrev Cx.nox (X:Cx):Cx:=X.wish fun _ _=>False
theorem Cx.Ok.wish {X:Cx} (ok:X.Ok) (E:Value→Shared→Prop):(X.wish E).Ok:=
 ⟨ok.mod,ok.kind,ok.glob,ok.blt,ok.above,ok.inj,ok.has,ok.cab,ok.hd,ok.frames,ok.stk,ok.exf,ok.bs,ok.bsz,ok.noex,ok.exfs,ok.funs,ok.frf⟩
theorem Cx.Ok.unwish {X:Cx} {E:Value→Shared→Prop} (ok:(X.wish E).Ok):X.Ok:=
 ⟨ok.mod,ok.kind,ok.glob,ok.blt,ok.above,ok.inj,ok.has,ok.cab,ok.hd,ok.frames,ok.stk,ok.exf,ok.bs,ok.bsz,ok.noex,ok.exfs,ok.funs,ok.frf⟩
section
variable {X:Cx} {pins:List (Addr×Obj)} {σ:St} {H:Hp} {s:Shared} {E:Value→Shared→Prop}
theorem Inv.wish (I:Inv X pins σ H s) (E:Value→Shared→Prop):Inv (X.wish E) pins σ H s:=⟨I.ok.wish E,I.os,I.bare,I.base,I.loc,I.cell,I.free,I.freeC,I.pin,I.hok,I.len⟩
theorem Inv.unwish (I:Inv (X.wish E) pins σ H s):Inv X pins σ H s:=⟨I.ok.unwish,I.os,I.bare,I.base,I.loc,I.cell,I.free,I.freeC,I.pin,I.hok,I.len⟩
theorem SP.unwish {D:Ends} {f:Flow} {s':Shared} (h:SP (X.wish E) pins D f s'):SP X pins D f s':=by
 cases f with
 | next=>obtain ⟨σ',H',I,q⟩:=h; exact ⟨σ',H',I.unwish,q⟩
 | brk=>obtain ⟨σ',H',I,q⟩:=h; exact ⟨σ',H',I.unwish,q⟩
 | cont=>obtain ⟨σ',H',I,q⟩:=h; exact ⟨σ',H',I.unwish,q⟩
 | ret u=>obtain ⟨v,σ',H',I,r,q⟩:=h; exact ⟨v,σ',H',I.unwish,r,q⟩
theorem PSs.nox {st:List Stmt} {t:TS} (h:PSs X.nox st t):PSs X st t:=fun pins s σ H D I hw=>
 wpAny_mono (h pins s σ H D (I.wish _) hw) (fun _ _ q=>q.unwish) fun _ _ z=>False.elim z
end
section
variable {X:Cx} {st:Stmt} {rest:List Stmt} {t u:TS} {e:Expr} {te:TE} {pos:Pos}
noncomputable def tNext:TS:=fun D σ H=>D.nx σ H
noncomputable def tSeq (t u:TS):TS:=fun D σ H=>t { D with nx:=u D } σ H
theorem pss_nil:PSs X [] tNext:=fun _ _ σ H _ I h=>wpAny_execs_nil ⟨σ,H,I,h⟩
theorem pss_cons (h1:PS X st t) (h2:PSs X rest u):PSs X (st::rest) (tSeq t u):=by
 intro pins s σ H D I h
 refine wpAny_execs_cons (thn (h1 pins s σ H { D with nx:=u D } I h) fun f s1 q=>?_)
 cases f with
 | next=>
  obtain ⟨σ',H',I',q⟩:=q
  exact h2 pins s1 σ' H' D I' q
 | ret v=>exact q
 | brk=>exact q
 | cont=>exact q
theorem pss_one (h1:PS X st t):PSs X [st] t:=by
 intro pins s σ H D I h
 refine wpAny_execs_cons (thn (h1 pins s σ H D I h) fun f s1 q=>?_)
 cases f with
 | next=>exact wpAny_execs_nil q
 | ret v=>exact q
 | brk=>exact q
 | cont=>exact q
theorem Inv.quiet {pins:List (Addr×Obj)} {σ:St} {H:Hp} {s:Shared} (I:Inv X pins σ H s):interactive X.env=false:=by simp [interactive,I.ok.kind]
noncomputable def tDrop (te:TE):TS:=fun D σ H=>te σ H fun _ H1=>D.nx σ H1
theorem ps_expr (he:PE X e te) (hs:swapsWith e none pos.line X.env=pure false:=by rfl):PS X (.Expr e pos) (tDrop te):=by
 intro pins s σ H D I h
 exact wpAny_Expr_any (thn (he pins s σ H _ I h) fun v s1 zz8=>by obtain ⟨x,H1,I1,r1,q1⟩:=zz8; exact ⟨σ,H1,I1,q1⟩) I.quiet hs
noncomputable def tRet (te:TE):TS:=fun D σ H=>te σ H D.rt
theorem ps_ret (he:PE X e te):PS X (.Return (some e) pos) (tRet te):=by
 intro pins s σ H D I h
 exact wpAny_Return_some (thn (he pins s σ H _ I h) fun v s1 zz9=>by obtain ⟨x,H1,I1,r1,q1⟩:=zz9; exact ⟨x,σ,H1,I1,r1,q1⟩)
noncomputable def tRetN:TS:=fun D _ H=>D.rt .non H
theorem ps_retN:PS X (.Return none pos) tRetN:=fun _ _ σ H _ I h=>wpAny_Return_none ⟨.non,σ,H,I,rfl,h⟩
noncomputable def tIfS (c:TT) (t u:TS):TS:=fun D σ H=>c σ H fun b H1=>if b=true then t D σ H1 else u D σ H1
theorem ps_if {c:Expr} {a b:List Stmt} {tc:TT} (hc:PT X c tc) (ha:PSs X a t) (hb:PSs X b u):PS X (.If c a b pos) (tIfS tc t u):=by
 intro pins s σ H D I h
 refine wpAny_If (thn (hc pins s σ H _ I h) fun d s1 zz10=>?_)
 obtain ⟨H1,I1,q1⟩:=zz10
 cases d with
 | true=>exact ha pins s1 σ H1 D I1 q1
 | false=>exact hb pins s1 σ H1 D I1 q1
noncomputable def tNever:TS:=fun _ _ _=>False
theorem ps_never:PS X st tNever:=fun _ _ _ _ _ _ h=>h.elim
end
noncomputable abbrev TG:=V→St→Hp→(St→Hp→Prop)→Prop
noncomputable abbrev TGs:=List V→St→Hp→(St→Hp→Prop)→Prop
noncomputable def PG (X:Cx) (target:Expr) (t:TG):Prop:=
 ∀ (pins:List (Addr×Obj)) (s:Shared) (σ:St) (H:Hp) (v:V) (u:Value) (Q:St→Hp→Prop),Inv X pins σ H s→RelV v u→t v σ H Q →
  wpAny (model X.prog X.w) X.A (assign target X.env u) (fun _ s'=>∃ σ' H',Inv X pins σ' H' s'∧Q σ' H') X.xe s
noncomputable def PGs (X:Cx) (ts:List Expr) (t:TGs):Prop:=
 ∀ (pins:List (Addr×Obj)) (s:Shared) (σ:St) (H:Hp) (vs:List V) (us:List Value) (Q:St→Hp→Prop),Inv X pins σ H s→Vals vs us→t vs σ H Q →
  wpAny (model X.prog X.w) X.A (assignInOrder ((assignEach ts X.env).map (·.2)) us) (fun _ s'=>∃ σ' H',Inv X pins σ' H' s'∧Q σ' H') X.xe s
noncomputable abbrev TSet:=V→V→V→Hp→(Hp→Prop)→Prop
noncomputable def PSet (X:Cx) (t:TSet):Prop:=
 ∀ (pins:List (Addr×Obj)) (s:Shared) (σ:St) (H:Hp) (o i v:V) (ov iv u:Value) (Q:Hp→Prop),Inv X pins σ H s→RelV o ov→RelV i iv→RelV v u→t o i v H Q →
  wpAny (model X.prog X.w) X.A (setItem ov iv u) (fun _ s'=>∃ H',Inv X pins σ H' s'∧Q H') X.xe s
noncomputable abbrev TIp:=V→V→Hp→VK→Prop
noncomputable def PIp (X:Cx) (op:Operator) (t:TIp):Prop:=
 ∀ (pins:List (Addr×Obj)) (s:Shared) (σ:St) (H:Hp) (x y:V) (v u:Value) (Q:VK),Inv X pins σ H s→RelV x v→RelV y u→t x y H Q →
  wpAny (model X.prog X.w) X.A (inplaceOp op v u) (EP X pins σ Q) X.xe s
section
variable {X:Cx} {pos:Pos}
noncomputable def gName (i:Nat):TG:=fun v σ H Q=>Q (σ.set i (some v)) H
theorem pg_name {i:Nat} {x:Str} (hN:X.N.Nodup) (hi:X.N[i]?=some x) (hx:Loc X.env.scope x) (hf:X.fn x=true∨X.env.scope.names.lookup x=some .local:=by first | exact .inl rfl | exact .inr rfl | assumption):PG X (.Name x pos) (gName i):=by
 intro pins s σ H v u Q I r h
 exact wpAny_assign_Name (store_ok I hN hi hx r (fun s' I'=>⟨_,H,I',h⟩) hf)
noncomputable def gNil:TGs:=fun vs σ H Q=>vs = []∧Q σ H
noncomputable def gCons (t:TG) (u:TGs):TGs:=fun vs σ H Q=>∃ v r,vs=v::r∧t v σ H fun σ' H'=>u r σ' H' Q
theorem pgs_nil:PGs X [] gNil:=by
 intro pins s σ H vs us Q I r h
 obtain ⟨e,h⟩:=h
 subst e
 cases r
 exact assignInOrder_nil ⟨σ,H,I,h⟩
theorem pgs_cons {e:Expr} {es:List Expr} {t:TG} {u:TGs} (h1:PG X e t) (h2:PGs X es u)
  (hs:(assignEach (e::es) X.env).map (·.2)=assign e X.env::(assignEach es X.env).map (·.2):=by rfl):PGs X (e::es) (gCons t u):=by
 intro pins s σ H vs us Q I r h
 obtain ⟨v,vr,e1,h⟩:=h
 subst e1
 cases r with
 | cons r rr=>
  rw [hs]
  refine assignInOrder_cons (thn (h1 pins s σ H _ _ _ I r h) fun _ s1 zz11=>?_)
  obtain ⟨σ1,H1,I1,q1⟩:=zz11
  exact h2 pins s1 σ1 H1 _ _ Q I1 rr q1
noncomputable def gTup (K:PySem.W.Frag) (n:Nat) (t:TGs):TG:=fun v σ H Q=>∃ a xs,v=.ref a∧SqT K H a xs∧xs.length=n∧t xs σ H Q
theorem pg_tup {es:List Expr} {k:Nat} {t:TGs} {n:Nat} (hc:X.calm=true) (h:PGs X es t)
  (hn:(assignEach es X.env).length=n:=by rfl) (hst:(assignEach es X.env).findIdx? (·.1)=none:=by rfl):PG X (.Tuple es k pos) (gTup X.K n t):=by
 intro pins s σ H v u Q I r hw
 obtain ⟨a,xs,e1,hq,hl,hw⟩:=hw
 subst e1
 cases r
 obtain ⟨its,rv,ht,hz⟩:=I.tuple hq
 refine assign_Tuple_tuple (I.ok.hd hc) ht (by simp [hn,← hl,rv.length]) hst fun h' hx=>?_
 have I1:Inv X pins σ H { s with heap:=h' }:=I.kept (t':=s.toks) fun b o e=>hx b o (Nat.ne_of_lt (Heap.lt_size e)) e
 exact h pins _ σ H xs _ Q I1 (by simpa using rv) hw
noncomputable def gSub (to ti:TE) (t:TSet):TG:=fun v σ H Q=>to σ H fun o H1=>ti σ H1 fun i H2=>t o i v H2 fun H3=>Q σ H3
theorem pg_sub {o i:Expr} {to ti:TE} {t:TSet} (ho:PE X o to) (hi:PE X i ti) (hs:PSet X t)
  (ha:∀ v,assign (.Subscript o i pos) X.env v=(do
   let ov ← holding [v] (eval o X.env)
   let iv ← holding [v,ov] (eval i X.env)
   standAt pos
   holding [v,ov,iv] (setItem ov iv v)
   release [v,ov,iv] []):=by intro _; rfl):PG X (.Subscript o i pos) (gSub to ti t):=by
 intro pins s σ H v u Q I r h
 rw [ha]
 refine wpAny_bind (wpAny_holding (thn (ho pins s σ H _ I h) fun ov s1 zz12=>?_))
 obtain ⟨x,H1,I1,r1,q1⟩:=zz12
 refine wpAny_bind (wpAny_holding (thn (hi pins s1 σ H1 _ I1 q1) fun iv s2 zz13=>?_))
 obtain ⟨y,H2,I2,r2,q2⟩:=zz13
 refine wpAny_bind (wpAny_standAt (wpAny_bind (wpAny_holding (thn (hs pins s2 σ H2 x y v ov iv u _ I2 r1 r2 r q2) fun _ s3 zz14=>?_))))
 obtain ⟨H3,I3,q3⟩:=zz14
 exact wpAny_release ⟨σ,H3,I3,q3⟩
noncomputable def tAsg (te:TE) (g:TG):TS:=fun D σ H=>te σ H fun x H1=>g x σ H1 D.nx
theorem ps_asg {tg e:Expr} {te:TE} {g:TG} (he:PE X e te) (hg:PG X tg g) (hs:swapsWithSole [tg] e pos.line X.env=pure false:=by rfl) (hw:swappedStores [tg] e X.env=pure none:=by rfl)
  (h1:(assignEach [tg] X.env).map (·.2) = [assign tg X.env]:=by rfl):PS X (.Assign [tg] e pos) (tAsg te g):=by
 intro pins s σ H D I h
 refine wpAny_Assign_stores (thn (he pins s σ H _ I h) fun v s1 zz15=>?_) hs hw
 obtain ⟨x,H1,I1,r1,q1⟩:=zz15
 rw [h1]
 exact thn (hg pins s1 σ H1 x v _ I1 r1 q1) fun _ s2 q=>q
theorem ps_set {i:Nat} {x:Str} {e:Expr} {te:TE} {pos':Pos} (hN:X.N.Nodup) (hi:X.N[i]?=some x) (hx:Loc X.env.scope x) (he:PE X e te) (hs:swapsWith e (some (.Name x pos')) pos.line X.env=pure false:=by rfl) (hf:X.fn x=true∨X.env.scope.names.lookup x=some .local:=by first | exact .inl rfl | exact .inr rfl | assumption) :
  PS X (.Assign [.Name x pos'] e pos) (tAsg te (gName i)):=by
 intro pins s σ H D I h
 refine wpAny_Assign_Name (thn (he pins s σ H _ I h) fun v s1 zz16=>?_) hs
 obtain ⟨y,H1,I1,r1,q1⟩:=zz16
 exact store_ok I1 hN hi hx r1 (fun s2 I2=>⟨_,H1,I2,q1⟩) hf
noncomputable def tAug (i:Nat) (te:TE) (ti:TIp):TS:=fun D σ H=>∃ x,σ[i]?=some (some x)∧te σ H fun y H1=>ti x y H1 fun z H2=>D.nx (σ.set i (some z)) H2
theorem ps_aug {i:Nat} {x:Str} {e:Expr} {te:TE} {op:Operator} {ti:TIp} {pos':Pos} (hN:X.N.Nodup) (hi:X.N[i]?=some x) (hx:Loc X.env.scope x) (he:PE X e te) (ho:PIp X op ti) (hf:X.fn x=true∨X.env.scope.names.lookup x=some .local:=by first | exact .inl rfl | exact .inr rfl | assumption) :
  PS X (.AugAssign (.Name x pos') op e pos) (tAug i te ti):=by
 intro pins s σ H D I h
 obtain ⟨v,e1,h⟩:=h
 obtain ⟨m,hn,hl⟩:=I.loc
 have vis:Vis X.env.scope x:=by rcases hx with k | k; exact .inl k; exact .inr (.inl k)
 obtain ⟨u,r,l⟩:=hl i x v hi e1 vis
 refine wpAny_AugAssign_Name ?_
 have go:wpAny (model X.prog X.w) X.A (eval e X.env) (fun w s₂=>wpAny (model X.prog X.w) X.A (inplaceOp op u w) (fun r s₃=>wpAny (model X.prog X.w) X.A (storeName X.env x r) (fun _=>SP X pins D .next) X.xe s₃) X.xe s₂) X.xe s:=by
  refine thn (he pins s σ H _ I h) fun w s1 zz17=>?_
  obtain ⟨y,H1,I1,r1,q1⟩:=zz17
  refine thn (ho pins s1 σ H1 v y u w _ I1 r r1 q1) fun z s2 zz18=>?_
  obtain ⟨zv,H2,I2,r2,q2⟩:=zz18
  exact store_ok I2 hN hi hx r2 (fun s3 I3=>⟨_,H2,I3,q2⟩) hf
 rcases l with ⟨hk,hm⟩ | ⟨hk,c,hc,hcell⟩
 ·exact wpAny_loadName_local I.ok.kind hk hn hm go
 ·rcases hk with hk | hk
  ·exact wpAny_loadName_cell I.ok.kind hk hc hcell go
  ·rcases hx with k | k
   ·have:X.env.scope.names.lookup x=some .free:=hk
    rw [k] at this; cases this
   ·have:X.env.scope.names.lookup x=some .free:=hk
    rw [k] at this; cases this
noncomputable def ipI (f:Int→Int→Int):TIp:=fun x y H Q=>∃ i j,x=.int i∧y=.int j∧Q (.int (f i j)) H
theorem ip_add:PIp X .Add (ipI fun i j=>i+j):=by
 intro pins s σ H x y v u Q I r1 r2 h
 obtain ⟨i,j,e1,e2,q⟩:=h
 subst e1; subst e2
 obtain ⟨t,rfl⟩:=r1
 obtain ⟨t',rfl⟩:=r2
 exact iadd_int ⟨.int _,H,I.tok _,⟨_,rfl⟩,q⟩
end
section
variable {X:Cx} {pos:Pos}
noncomputable def tWhile (c:TT) (tb:TS):TS:=fun D σ H=>∃ W:Nat→St→Hp→Prop,(∃ m,W m σ H)∧∀ m σ H,W m σ H →
 c σ H fun b H1=>if b=true then ∃ N:St→Hp→Prop,(∀ σ' H',N σ' H'→∃ m',m'<m∧W m' σ' H')∧tb { D with nx:=N,ct:=N,bk:=D.nx } σ H1 else D.nx σ H1
theorem ps_while {c:Expr} {body:List Stmt} {tc:TT} {tb:TS} (hp:PassesOwn (model X.prog X.w) X.A X.env X.xe) (hc:PT X c tc) (hb:PSs X body tb):PS X (.While c body [] pos) (tWhile tc tb):=by
 intro pins s σ H D I h
 obtain ⟨W,⟨m0,w0⟩,turn⟩:=h
 refine wpAny_While (codeAny_whileLoop (fun n s'=>∃ σ' H',Inv X pins σ' H' s'∧W n σ' H') ?_ m0 ⟨σ,H,I,w0⟩)
 rintro n s1 ⟨σ1,H1,I1,w1⟩
 refine wpAny_passesOwn hp (thn (hc pins s1 σ1 H1 _ I1 (turn n σ1 H1 w1)) fun b s2 zz19=>?_)
 obtain ⟨H2,I2,q2⟩:=zz19
 cases b with
 | true=>
  obtain ⟨N,hN,q2⟩:=q2
  rw [if_pos rfl]
  refine wpAny_passesOwn hp (thn (hb pins s2 σ1 H2 _ I2 q2) fun f s3 q3=>?_)
  cases f with
  | next=>
   obtain ⟨σ3,H3,I3,n3⟩:=q3
   obtain ⟨m',hm,w3⟩:=hN σ3 H3 n3
   exact ⟨m',hm,σ3,H3,I3,w3⟩
  | cont=>
   obtain ⟨σ3,H3,I3,n3⟩:=q3
   obtain ⟨m',hm,w3⟩:=hN σ3 H3 n3
   exact ⟨m',hm,σ3,H3,I3,w3⟩
  | brk=>exact q3
  | ret v=>exact q3
 | false=>
  rw [if_neg Bool.false_ne_true]
  exact wpAny_execs_nil ⟨σ1,H2,I2,q2⟩
end
structure It where
 go:Nat→Hp→Prop
 yld:Nat→Hp→V→Hp→Prop
 stop:Nat→Hp→Prop
noncomputable def FpOk (X:Cx) (pins:List (Addr×Obj)) (H:Hp) (b:Addr):Prop:=
 H b=none∧b≠X.env.locals∧b∉X.fs∧(b∈X.ex∨X.s₀.heap.objs.size≤b)∧(∀ x c,X.env.cells.lookup x=some c→c≠b)∧∀ p∈X.pn++pins,p.1≠b
theorem Inv.fpOk {X:Cx} {pins:List (Addr×Obj)} {σ:St} {H H':Hp} {s:Shared} {b:Addr} (I:Inv X pins σ H s) (hb:s.heap.objs.size≤b) (hn:H' b=none):FpOk X pins H' b:=by
 refine ⟨hn,Nat.ne_of_gt (Nat.lt_of_lt_of_le I.lt hb),I.nofs hb,.inr (Nat.le_trans I.sz hb),fun x c e z=>?_,fun p hp z=>?_⟩
 ·obtain ⟨v,q⟩:=I.cell x c e
  exact absurd (Nat.lt_of_lt_of_le q.lt (by rw [z]; exact hb)) (Nat.lt_irrefl _)
 ·exact absurd (Nat.lt_of_lt_of_le (Heap.lt_size (I.pin p hp).1) (by rw [z]; exact hb)) (Nat.lt_irrefl _)
structure Turn (P:Program) (w:World) (K:PySem.W.Frag) (tg:Expr) (J:It) (fp:List Addr) (it:Addr) (tn:Nat→Heap→Prop):Prop where
 mem:it∈fp
 obj:∀ i h,tn i h→∀ b∈fp,∃ o,h.get? b=some o∧∀ v,o.data≠.cell v
 keep:∀ i h h',tn i h→(∀ b∈fp,∀ o,h.get? b=some o→h'.get? b=some o)→tn i h'
 item:∀ (X:Cx),X.prog=P→X.w=w→X.K=K→X.calm=true→∀ (i:Nat) (pins:List (Addr×Obj)) (s:Shared) (σ:St) (H:Hp) (E:Value→Shared→Prop),Inv X pins σ H s→(∀ b∈fp,FpOk X pins H b)→tn i s.heap→J.go i H →
  wpAny (model P w) X.A (pyNext (.ref it)) (fun r s1=>∃ u,r=some u ∧
   wpAny (model P w) X.A (letOwnedTupleGo tg (.ref it) u) (fun _ s2=>∃ x H',Inv X pins σ H' s2∧RelV x u∧J.yld i H x H'∧tn (i+1) s2.heap∧∀ b∈fp,H' b=none) E s1) E s
 done:∀ (X:Cx),X.prog=P→X.w=w→X.K=K→X.calm=true→∀ (i:Nat) (pins:List (Addr×Obj)) (s:Shared) (σ:St) (H:Hp) (E:Value→Shared→Prop),Inv X pins σ H s→(∀ b∈fp,FpOk X pins H b)→tn i s.heap→J.stop i H →
  wpAny (model P w) X.A (pyNext (.ref it)) (fun r s1=>r=none∧Inv X pins σ H s1) E s
 self:∀ (A:Around) (i:Nat) (s:Shared) (Q:Value→Shared→Prop) (E:Value→Shared→Prop),tn i s.heap→Q (.ref it) s→wpAny (model P w) A (pyIter (.ref it)) Q E s
noncomputable abbrev TI:=St→Hp→(It→Hp→Prop)→Prop
noncomputable def PIE (X:Cx) (pins:List (Addr×Obj)) (σ:St) (tg:Expr) (R:It→Hp→Prop) (itv:Value) (s2:Shared):Prop:=
 ∃ (it:Addr) (fp:List Addr) (tn:Nat→Heap→Prop) (J:It) (H':Hp),itv=.ref it∧Inv X pins σ H' s2∧Turn X.prog X.w X.K tg J fp it tn∧tn 0 s2.heap∧(∀ b∈fp,FpOk X pins H' b)∧R J H'
noncomputable def PI (X:Cx) (tg iter:Expr) (wi:TI):Prop:=
 ∀ (pins:List (Addr×Obj)) (s:Shared) (σ:St) (H:Hp) (R:It→Hp→Prop),Inv X pins σ H s→wi σ H R →
  wpAny (model X.prog X.w) X.A (eval iter X.env) (fun v s1=>wpAny (model X.prog X.w) X.A (pyIter v) (PIE X pins σ tg R) X.xe s1) X.xe s
theorem go_of {M:Model} {A:Around} {E:Value→Shared→Prop} {s:Shared} {tg:Expr} {it:Addr} {u:Value} {o:Obj} {n:String} {vs:Array Value} {Q:Unit→Shared→Prop} (ho:s.heap.get? it=some o) (hc:o.cls=.type n) (hd:o.data=.fields vs)
    (hn:["enumerate", "zip", "dict_itemiterator", "dict_reverseitemiterator", "odict_iterator", "itertools.zip_longest", "itertools.pairwise"].contains n=false) (hQ:Q () s):wpAny M A (letOwnedTupleGo tg (.ref it) u) Q E s:=by
  unfold letOwnedTupleGo
  cases tg <;> first
    | exact wpAny_pure hQ
    | (cases u <;> first
        | exact wpAny_pure hQ
        | (refine wpAny_bind (wpAny_load ho ?_)
           rw [hc,hd]
           show wpAny M A (if (["enumerate", "zip", "dict_itemiterator", "dict_reverseitemiterator", "odict_iterator", "itertools.zip_longest", "itertools.pairwise"].contains n&&vs[0]? == some (rawInt _))=true then _ else _) Q E s
           rw [if_neg (by intro h; rw [hn,Bool.false_and] at h; cases h)]
           exact wpAny_pure hQ))
noncomputable def Itl (K:PySem.W.Frag) (a:Addr):It:=
 ⟨fun i H=>∃ xs x,SqL K H a xs∧xs[i]?=some x,fun i H x H'=>H'=H∧∀ xs,SqL K H a xs→xs[i]?=some x,fun i H=>∃ xs,SqL K H a xs∧xs.length≤i⟩
noncomputable def Itt (K:PySem.W.Frag) (a:Addr):It:=
 ⟨fun i H=>∃ xs x,SqT K H a xs∧xs[i]?=some x,fun i H x H'=>H'=H∧∀ xs,SqT K H a xs→xs[i]?=some x,fun i H=>∃ xs,SqT K H a xs∧xs.length≤i⟩
noncomputable def Itr (lo:Int) (n:Nat):It:=⟨fun i _=>i<n,fun i H x H'=>H'=H∧x=.int (lo+i),fun i _=>n≤i⟩
theorem turn_list {P:Program} {w:World} {K:PySem.W.Frag} {tg:Expr} (a it:Addr):Turn P w K tg (Itl K a) [it] it (fun i h=>h.IsListIter it a i) where
 mem:=by simp
 obj:=fun i h st b hb=>by
  have e:b=it:=by simpa using hb
  subst e
  obtain ⟨o,e,c,d⟩:=st
  exact ⟨o,e,fun v z=>by rw [d] at z; cases z⟩
 keep:=fun i h h' st k=>st.at fun o e=>k it (by simp) o e
 item:=by
  intro X hP hw hK hc i pins s σ H E I hf st hg
  subst hP hw hK
  obtain ⟨xs,x,hq,hx⟩:=hg
  obtain ⟨its,rv,p,hz⟩:=I.list hq
  obtain ⟨u,hu,ru⟩:=rv.get hx
  obtain ⟨f0,f1,f2,f3,f4,f5⟩:=hf it (by simp)
  refine wpAny_pyNext_list_item st p.isList (x:=u) (by simpa using hu) fun h' st' sb=>?_
  have I1:Inv X pins σ H { s with heap:=h' }:=I.turned (t':=s.toks) (fun b o hb e=>(sb.2 b hb).trans e) f0 f1 f3 f4 f5
  obtain ⟨o,e,c,d⟩:=id st'
  exact ⟨u,rfl,go_of (s:={ s with heap:=h' }) e c d (by decide) ⟨x,H,I1,ru,⟨rfl,fun ys hy=>by rw [I.list_inj hy hq]; exact hx⟩,st',fun b hb=>(hf b hb).1⟩⟩
 done:=by
  intro X hP hw hK hc i pins s σ H E I hf st hg
  subst hP hw hK
  obtain ⟨xs,hq,hx⟩:=hg
  obtain ⟨its,rv,p,hz⟩:=I.list hq
  obtain ⟨f0,f1,f2,f3,f4,f5⟩:=hf it (by simp)
  have hl:=rv.length
  exact wpAny_pyNext_list_end (I.ok.hd hc) st p.isList (by simp; omega) fun h' eb=>⟨rfl,I.turned (t':=s.toks) (fun b o hb e=>eb b o hb e) f0 f1 f3 f4 f5⟩
 self:=fun _ _ _ _ _ st h=>wpAny_pyIter_listiter st h
theorem turn_tuple {P:Program} {w:World} {K:PySem.W.Frag} {tg:Expr} (a it:Addr):Turn P w K tg (Itt K a) [it] it (fun i h=>h.IsTupleIter it a i) where
 mem:=by simp
 obj:=fun i h st b hb=>by
  have e:b=it:=by simpa using hb
  subst e
  obtain ⟨o,e,c,d⟩:=st
  exact ⟨o,e,fun v z=>by rw [d] at z; cases z⟩
 keep:=fun i h h' st k=>st.at fun o e=>k it (by simp) o e
 item:=by
  intro X hP hw hK hc i pins s σ H E I hf st hg
  subst hP hw hK
  obtain ⟨xs,x,hq,hx⟩:=hg
  obtain ⟨its,rv,p,hz⟩:=I.tuple hq
  obtain ⟨u,hu,ru⟩:=rv.get hx
  obtain ⟨f0,f1,f2,f3,f4,f5⟩:=hf it (by simp)
  refine wpAny_pyNext_tuple_item st (show s.heap.IsTuple a its.toArray from p) (x:=u) (by simpa using hu) fun h' st' sb=>?_
  have I1:Inv X pins σ H { s with heap:=h' }:=I.turned (t':=s.toks) (fun b o hb e=>(sb.2 b hb).trans e) f0 f1 f3 f4 f5
  obtain ⟨o,e,c,d⟩:=id st'
  exact ⟨u,rfl,go_of (s:={ s with heap:=h' }) e c d (by decide) ⟨x,H,I1,ru,⟨rfl,fun ys hy=>by rw [I.tuple_inj hy hq]; exact hx⟩,st',fun b hb=>(hf b hb).1⟩⟩
 done:=by
  intro X hP hw hK hc i pins s σ H E I hf st hg
  subst hP hw hK
  obtain ⟨xs,hq,hx⟩:=hg
  obtain ⟨its,rv,p,hz⟩:=I.tuple hq
  obtain ⟨f0,f1,f2,f3,f4,f5⟩:=hf it (by simp)
  have hl:=rv.length
  exact wpAny_pyNext_tuple_end (I.ok.hd hc) st (show s.heap.IsTuple a its.toArray from p) (by simp; omega) fun h' eb=>⟨rfl,I.turned (t':=s.toks) (fun b o hb e=>eb b o hb e) f0 f1 f3 f4 f5⟩
 self:=fun _ _ _ _ _ st h=>wpAny_pyIter_tupleiter st h
theorem turn_range {P:Program} {w:World} {K:PySem.W.Frag} {tg:Expr} (it:Addr) (lo:Int) (n:Nat):Turn P w K tg (Itr lo n) [it] it (fun i h=>IsRangeIter h it (lo+(i:Nat)*1) ((n:Int)-(i:Nat)) 1) where
 mem:=by simp
 obj:=fun i h st b hb=>by
  have e:b=it:=by simpa using hb
  subst e
  exact ⟨_,st,fun v z=>by
   have z':Data.fields _=Data.cell v:=z
   cases z'⟩
 keep:=fun i h h' st k=>k it (by simp) _ st
 item:=by
  intro X hP hw hK hc i pins s σ H E I hf st hg
  subst hP hw hK
  obtain ⟨f0,f1,f2,f3,f4,f5⟩:=hf it (by simp)
  have W:=Walks.range (prog:=X.prog) (w:=X.w) (I.ok.hd hc) it lo 1 n
  refine W.item i s _ _ hg st fun v h' tk hv st' kk=>?_
  obtain ⟨t,rfl⟩:=hv
  have I1:Inv X pins σ H { s with heap:=h',toks:=tk }:=I.turned (fun b o hb e=>kk b o (by simpa using hb) e) f0 f1 f3 f4 f5
  refine ⟨_,rfl,go_of (s:={ s with heap:=h',toks:=tk }) (n := "range_iterator") st' rfl rfl (by decide) ⟨.int (lo+i),H,I1,⟨t,?_⟩,⟨rfl,rfl⟩,st',fun b hb=>(hf b hb).1⟩⟩
  rw [Int.mul_one]
 done:=by
  intro X hP hw hK hc i pins s σ H E I hf st hg
  subst hP hw hK
  obtain ⟨f0,f1,f2,f3,f4,f5⟩:=hf it (by simp)
  exact wpAny_pyNext_range_end (I.ok.hd hc) st (by have:n≤i:=hg; omega) fun h' eb=>⟨rfl,I.turned (t':=s.toks) (fun b o hb e=>eb b o hb e) f0 f1 f3 f4 f5⟩
 self:=fun _ _ _ _ _ st h=>wpAny_pyIter_rangeiter st h
end L2
namespace L2
open PySem PySem.Spec PyProof.Rows
section
variable {X:Cx} {tg:Expr}
theorem range_it {pins:List (Addr×Obj)} {σ:St} {H:Hp} {s:Shared} {R:It→Hp→Prop} {E:Value→Shared→Prop} {lo hi:Int} {t u v:Tok} {tk:Nat} (I:Inv X pins σ H s) (h1:-(2^62)≤lo) (h2:lo<2^62) (h3:-(2^62)≤hi) (h4:hi<2^62)
  (q:R (Itr lo (hi-lo).toNat) H):wpAny (model X.prog X.w) X.A (pyIter (.ref s.heap.objs.size)) (PIE X pins σ tg R) E { s with heap:=s.heap.push { cls:=.type "range",data:=.fields #[.int lo t,.int hi u,.int 1 v] },toks:=tk }:=by
 refine wpAny_pyIter_range (IsRange.new ..) (small_one h1 h2 h3 h4) ?_
 have I1:Inv X pins σ H { s with heap:=s.heap.push { cls:=.type "range",data:=.fields #[.int lo t,.int hi u,.int 1 v] },toks:=tk }:=I.kept fun b o e=>Heap.get?_push_of_some _ e
 refine ⟨(s.heap.push { cls:=.type "range",data:=.fields #[.int lo t,.int hi u,.int 1 v] }).objs.size,[(s.heap.push { cls:=.type "range",data:=.fields #[.int lo t,.int hi u,.int 1 v] }).objs.size],_,_,H,rfl,
  I1.kept (t':=tk) fun b o e=>Heap.get?_push_of_some _ e,turn_range _ lo (hi-lo).toNat,?_,fun b hb=>?_,q⟩
 ·have e1:lo+((0:Nat):Int)*1=lo:=by simp
  have e2:(((hi-lo).toNat:Nat):Int)-((0:Nat):Int)=Builtin.Range.rangeSize lo hi 1:=by rw [rangeSize_one]; split <;> omega
  show IsRangeIter _ _ (lo+((0:Nat):Int)*1) ((((hi-lo).toNat:Nat):Int)-((0:Nat):Int)) 1
  rw [e1,e2]
  exact Heap.get?_push_size _ rfl
 ·have e:b=(s.heap.push { cls:=.type "range",data:=.fields #[.int lo t,.int hi u,.int 1 v] }).objs.size:=by simpa using hb
  subst e
  exact I1.fpOk (Nat.le_refl _) (I1.hok.fresh (Nat.le_refl _))
noncomputable def iRng1 (ta:TA):TI:=fun σ H R=>ta σ H fun vs H1=>∃ j:Int,vs = [.int j] ∧ -(2^62)≤j∧j<2^62∧R (Itr 0 j.toNat) H1
theorem pi_range1 {a:Expr} {ta:TA} {p pos:Pos} (hg:Gl X "range") (hm:X.mg "range" = none) (ha:PA X [a] ta) (hs:starEach [a] X.env = [(false,eval a X.env)]:=by rfl):PI X tg (.Call (.Name "range" p) [a] [] pos) (iRng1 ta):=by
 intro pins s σ H R I h
 refine Call_ (ld_blt I hg hm boot_range (PyProof.Rows.callWith_type1 (thn (ha pos pins s σ H _ I h) fun us s1 zz20=>?_) hs rfl))
 obtain ⟨vs,H1,I1,r1,q1⟩:=zz20
 obtain ⟨j,e,q1,q2,q⟩:=q1
 subst e
 cases r1 with
 | cons r rr=>
  cases rr
  obtain ⟨t,rfl⟩:=r
  exact call_range_1 (range_it I1 (by omega) (by omega) q1 q2 (by simpa using q))
noncomputable def tFor (wi:TI) (g:TG) (tb:TS):TS:=fun D σ H=>wi σ H fun J H1=>∃ W:Nat→Nat→St→Hp→Prop,(∃ m,W 0 m σ H1)∧∀ i m σ H,W i m σ H →
 (J.stop i H∧D.nx σ H)∨(J.go i H∧∃ N:St→Hp→Prop,(∀ σ' H',N σ' H'→∃ m',m'<m∧W (i+1) m' σ' H')∧∀ x H',J.yld i H x H'→g x σ H' fun σ2 H2=>tb { D with nx:=N,ct:=N,bk:=D.nx } σ2 H2)
noncomputable def pinsAt (fp:List Addr) (h:Heap):List (Addr×Obj):=fp.filterMap fun b=>(h.get? b).map fun o=>(b,o)
theorem mem_pinsAt {fp:List Addr} {h:Heap} {b:Addr} {o:Obj} (hb:b∈fp) (e:h.get? b=some o):(b,o)∈pinsAt fp h:=List.mem_filterMap.mpr ⟨b,hb,by rw [e]; rfl⟩
theorem of_pinsAt {fp:List Addr} {h:Heap} {p:Addr×Obj} (hp:p∈pinsAt fp h):p.1∈fp∧h.get? p.1=some p.2:=by
 obtain ⟨b,hb,e⟩:=List.mem_filterMap.mp hp
 cases q:h.get? b with
 | none=>rw [q] at e; cases e
 | some o=>
  rw [q] at e
  have e':(b,o)=p:=Option.some.inj e
  subst e'
  exact ⟨hb,q⟩
theorem Inv.pinned {pins:List (Addr×Obj)} {σ:St} {H:Hp} {s:Shared} {fp:List Addr} (I:Inv X pins σ H s) (hf:∀ b∈fp,FpOk X pins H b) (ho:∀ b∈fp,∃ o,s.heap.get? b=some o∧∀ v,o.data≠.cell v):Inv X (pins++pinsAt fp s.heap) σ H s:=
 I.pins_of fun p hp=>(List.mem_append.mp hp).elim (fun z=>I.pin p (List.mem_append_right _ z)) fun z=>by
  obtain ⟨hb,e⟩:=of_pinsAt z
  obtain ⟨f0,f1,f2,_⟩:=hf p.1 hb
  obtain ⟨o,e',d⟩:=ho p.1 hb
  rw [e] at e'; cases e'
  exact ⟨e,f0,f1,f2,d⟩
theorem Inv.unpinned {pins pl:List (Addr×Obj)} {σ:St} {H:Hp} {s:Shared} (I:Inv X (pins++pl) σ H s):Inv X pins σ H s:=I.pins_of fun p hp=>I.pin p (List.mem_append_right _ (List.mem_append_left _ hp))
theorem ps_for {iter:Expr} {body:List Stmt} {wi:TI} {g:TG} {tb:TS} {pos:Pos} (hp:PassesOwn (model X.prog X.w) X.A X.env X.xe) (hc:X.calm=true) (hi:PI X tg iter wi) (hg:PG X tg g) (hb:PSs X body tb)
  (hs:∀ x,foldedSetIterable iter X.env x=pure x:=by intro _; rfl):PS X (.For tg iter body [] pos) (tFor wi g tb):=by
 intro pins s σ H D I h
 refine wpAny_For (thn (hi pins s σ H _ I h) fun v s1 h1=>thn h1 fun itv s2 h2=>?_) hs
 obtain ⟨it,fp,tn,J,H2,e,I2,T,st2,f2,W,⟨m0,w0⟩,turn⟩:=h2
 subst e
 -- what stays true of the iterator's objects through the loop
 have stat:∀ {H':Hp},(∀ b∈fp,H' b=none)→∀ b∈fp,FpOk X pins H' b:=fun hn b hb=>⟨hn b hb,(f2 b hb).2⟩
 refine codeAny_forLoop_any (fun n s'=>∃ i σ' H',Inv X pins σ' H' s'∧tn i s'.heap∧(∀ b∈fp,H' b=none)∧W i n σ' H') ?_ m0 ⟨0,σ,H2,I2,st2,fun b hb=>(f2 b hb).1,w0⟩
 rintro n s3 ⟨i,σ3,H3,I3,st3,fr3,w3⟩
 rcases turn i n σ3 H3 w3 with ⟨stop,qn⟩ | ⟨go,N,hN,step⟩
 ·refine wpAny_passesOwn hp (thn (T.done X rfl rfl rfl hc i pins s3 σ3 H3 X.xe I3 (stat fr3) st3 stop) fun r s4 ⟨hr,I4⟩=>?_)
  subst hr
  exact wpAny_execs_nil ⟨σ3,H3,I4,qn⟩
 ·refine wpAny_passesOwn hp (thn (T.item X rfl rfl rfl hc i pins s3 σ3 H3 X.xe I3 (stat fr3) st3 go) fun r s4 ⟨u,hr,h4⟩=>?_)
  subst hr
  refine wpAny_passesOwn hp (thn h4 fun _ s5 zz23=>?_)
  obtain ⟨x,H5,I5,r5,y5,st5,fr5⟩:=zz23
  have I5':=I5.pinned (stat fr5) (T.obj _ _ st5)
  refine wpAny_passesOwn hp (thn (hg _ s5 σ3 H5 x u _ I5' r5 (step x H5 y5)) fun _ s6 zz24=>?_)
  obtain ⟨σ6,H6,I6,q6⟩:=zz24
  refine wpAny_passesOwn hp (thn (hb _ s6 σ6 H6 _ I6 q6) fun f s7 q7=>?_)
  have again:∀ {σ7:St} {H7:Hp},Inv X (pins++pinsAt fp s5.heap) σ7 H7 s7→N σ7 H7→∃ m,m<n∧∃ i σ' H',Inv X pins σ' H' s7∧tn i s7.heap∧(∀ b∈fp,H' b=none)∧W i m σ' H':=fun {σ7 H7} I7 n7=>by
   obtain ⟨m',hm,w7⟩:=hN σ7 H7 n7
   refine ⟨m',hm,i+1,σ7,H7,I7.unpinned,T.keep _ _ _ st5 fun b hb o e=>(I7.pin (b,o) (List.mem_append_right _ (List.mem_append_right _ (mem_pinsAt hb e)))).1,fun b hb=>?_,w7⟩
   obtain ⟨o,e,d⟩:=T.obj _ _ st5 b hb
   exact (I7.pin (b,o) (List.mem_append_right _ (List.mem_append_right _ (mem_pinsAt hb e)))).2.1
  cases f with
  | next=>obtain ⟨σ7,H7,I7,n7⟩:=q7; exact again I7 n7
  | cont=>obtain ⟨σ7,H7,I7,n7⟩:=q7; exact again I7 n7
  | brk=>obtain ⟨σ7,H7,I7,q7⟩:=q7; exact ⟨σ7,H7,I7.unpinned,q7⟩
  | ret v=>obtain ⟨x7,σ7,H7,I7,r7,q7⟩:=q7; exact ⟨x7,σ7,H7,I7.unpinned,r7,q7⟩
end
end L2
namespace L2
open PySem PySem.Spec PyProof.Rows
noncomputable abbrev R2:=V→V→Hp→VK→Prop
noncomputable def OpR (X:Cx) (f:Value→Value→Sem Value) (r:R2):Prop:=
 ∀ (pins:List (Addr×Obj)) (s:Shared) (σ:St) (H:Hp) (x y:V) (v u:Value) (Q:VK),Inv X pins σ H s→RelV x v→RelV y u→r x y H Q →
  wpAny (model X.prog X.w) X.A (f v u) (EP X pins σ Q) X.xe s
noncomputable def UnR (X:Cx) (f:Value→Sem Value) (r:V→Hp→VK→Prop):Prop:=
 ∀ (pins:List (Addr×Obj)) (s:Shared) (σ:St) (H:Hp) (x:V) (v:Value) (Q:VK),Inv X pins σ H s→RelV x v→r x H Q →
  wpAny (model X.prog X.w) X.A (f v) (EP X pins σ Q) X.xe s
noncomputable def CallR (X:Cx) (f:Value) (r:List V→Hp→VK→Prop):Prop:=
 ∀ (pins:List (Addr×Obj)) (s:Shared) (σ:St) (H:Hp) (xs:List V) (us:List Value) (Q:VK),Inv X pins σ H s→Vals xs us→r xs H Q →
  wpAny (model X.prog X.w) X.A (call f us) (EP X pins σ Q) X.xe s
noncomputable def tOp (r:R2) (ta tb:TE):TE:=fun σ H Q=>ta σ H fun x H1=>tb σ H1 fun y H2=>r x y H2 Q
noncomputable def tUn (r:V→Hp→VK→Prop) (ta:TE):TE:=fun σ H Q=>ta σ H fun x H1=>r x H1 Q
noncomputable def rI (C:Int→Int→Prop) (g:Int→Int→V):R2:=fun x y H Q=>∃ i j,x=.int i∧y=.int j∧C i j∧Q (g i j) H
noncomputable def rI0 (g:Int→Int→V):R2:=fun x y H Q=>∃ i j,x=.int i∧y=.int j∧Q (g i j) H
noncomputable def rU (g:Int→V):V→Hp→VK→Prop:=fun x H Q=>∃ i,x=.int i∧Q (g i) H
section
variable {X:Cx} {a b c:Expr} {ta tb tc:TE} {pos:Pos}
theorem binT (ha:PE X a ta) (hb:PE X b tb) {pins:List (Addr×Obj)} {s:Shared} {σ:St} {H:Hp} {R:V→V→Hp→Prop} (I:Inv X pins σ H s)
  (h:ta σ H fun x H1=>tb σ H1 fun y H2=>R x y H2) {Q:Value→Shared→Prop} {f:Value→Value→Sem Value}
  (hf:∀ v u s2 x y H2,Inv X pins σ H2 s2→RelV x v→RelV y u→R x y H2→wpAny (model X.prog X.w) X.A (f v u) Q X.xe s2) :
  wpAny (model X.prog X.w) X.A (eval a X.env) (fun v s₁=>wpAny (model X.prog X.w) X.A (eval b X.env) (fun u s₂=>wpAny (model X.prog X.w) X.A (f v u) Q X.xe s₂) X.xe s₁) X.xe s:=by
 refine thn (ha pins s σ H _ I h) fun v s1 zz25=>?_
 obtain ⟨x,H1,I1,r1,q1⟩:=zz25
 refine thn (hb pins s1 σ H1 _ I1 q1) fun u s2 zz26=>?_
 obtain ⟨y,H2,I2,r2,q2⟩:=zz26
 exact hf v u s2 x y H2 I2 r1 r2 q2
theorem pe_op {op:Operator} {r:R2} (ho:OpR X (binaryOp op) r) (ha:PE X a ta) (hb:PE X b tb):PE X (.BinOp a op b pos) (tOp r ta tb):=by
 intro pins s σ H Q I h
 exact wpAny_BinOp (binT ha hb I h fun v u s2 x y H2 I2 rx ry q=>ho pins s2 σ H2 x y v u Q I2 rx ry q)
theorem pe_un {op:UnaryOp} {r:V→Hp→VK→Prop} (ho:UnR X (unaryOp op) r) (ha:PE X a ta):PE X (.UnaryOp op a pos) (tUn r ta):=by
 intro pins s σ H Q I h
 exact UnaryOp_ (thn (ha pins s σ H _ I h) fun v s1 zz27=>by obtain ⟨x,H1,I1,r1,q1⟩:=zz27; exact ho pins s1 σ H1 x v Q I1 r1 q1)
theorem opI {f:Value→Value→Sem Value} {C:Int→Int→Prop} {g:Int→Int→Int}
  (rule:∀ (i j:Int) (t u:Tok) (s:Shared) (Q:Value→Shared→Prop) (E:Value→Shared→Prop),C i j→Q (.int (g i j) s.toks) { s with toks:=s.toks+1 }→wpAny (model X.prog X.w) X.A (f (.int i t) (.int j u)) Q E s) :
  OpR X f (rI C fun i j=>.int (g i j)):=by
 intro pins s σ H x y v u Q I rx ry h
 obtain ⟨i,j,rfl,rfl,hc,q⟩:=h
 obtain ⟨t,rfl⟩:=rx
 obtain ⟨t',rfl⟩:=ry
 exact rule i j t t' s _ _ hc ⟨.int (g i j),H,I.tok _,⟨_,rfl⟩,q⟩
theorem opI0 {f:Value→Value→Sem Value} {g:Int→Int→Int}
  (rule:∀ (i j:Int) (t u:Tok) (s:Shared) (Q:Value→Shared→Prop) (E:Value→Shared→Prop),Q (.int (g i j) s.toks) { s with toks:=s.toks+1 }→wpAny (model X.prog X.w) X.A (f (.int i t) (.int j u)) Q E s) :
  OpR X f (rI0 fun i j=>.int (g i j)):=by
 intro pins s σ H x y v u Q I rx ry h
 obtain ⟨i,j,rfl,rfl,q⟩:=h
 obtain ⟨t,rfl⟩:=rx
 obtain ⟨t',rfl⟩:=ry
 exact rule i j t t' s _ _ ⟨.int (g i j),H,I.tok _,⟨_,rfl⟩,q⟩
theorem opB0 {f:Value→Value→Sem Value} {g:Int→Int→Bool}
  (rule:∀ (i j:Int) (t u:Tok) (s:Shared) (Q:Value→Shared→Prop) (E:Value→Shared→Prop),Q (.bool (g i j)) s→wpAny (model X.prog X.w) X.A (f (.int i t) (.int j u)) Q E s) :
  OpR X f (rI0 fun i j=>.bl (g i j)):=by
 intro pins s σ H x y v u Q I rx ry h
 obtain ⟨i,j,rfl,rfl,q⟩:=h
 obtain ⟨t,rfl⟩:=rx
 obtain ⟨t',rfl⟩:=ry
 exact rule i j t t' s _ _ ⟨.bl (g i j),H,I,rfl,q⟩
noncomputable def CDiv (i j:Int):Prop:=0<j∧j<1073741824
noncomputable def CPow (i j:Int):Prop:=0≤j∧j≤1000000∧i.natAbs<2^64
noncomputable def CMul (i j:Int):Prop:=(-(2^64)<i∧i<2^64)∨(-(2^64)<j∧j<2^64)
theorem CMul.ok {i j:Int} (h:CMul i j):IntMulOk i j:=by
 rcases h with ⟨h1,h2⟩ | ⟨h1,h2⟩
 ·exact .of_left (intBits_le_64 h1 h2)
 ·exact .of_right (intBits_le_64 h1 h2)
theorem op_add:OpR X (binaryOp .Add) (rI0 fun i j=>.int (i+j)):=opI0 fun _ _ _ _ _ _ _ q=>add_int q
theorem op_sub:OpR X (binaryOp .Sub) (rI0 fun i j=>.int (i-j)):=opI0 fun _ _ _ _ _ _ _ q=>sub_int q
theorem op_mul:OpR X (binaryOp .Mult) (rI CMul fun i j=>.int (i*j)):=opI fun _ _ _ _ _ _ _ hc q=>mul_int q hc.ok
theorem op_fdiv:OpR X (binaryOp .FloorDiv) (rI CDiv fun i j=>.int (i/j)):=opI fun i j _ _ _ _ _ hc q=>by
 have h1:(0:Int)<j:=hc.1
 have h2:j<1073741824:=hc.2
 exact floordiv_int (by omega) (by rw [Int.fdiv_eq_ediv_of_nonneg i (by omega)]; exact q) (.inl (PyProof.noPylong_small (by omega)))
theorem op_mod:OpR X (binaryOp .Mod) (rI (fun _ j=>0<j) fun i j=>.int (i%j)):=opI fun i j _ _ _ _ _ hc q=>by
 have h1:(0:Int)<j:=hc
 exact mod_int' (by omega) (by rw [Int.fmod_eq_emod_of_nonneg i (by omega)]; exact q)
theorem op_pow:OpR X (binaryOp .Pow) (rI CPow fun i j=>.int (i^j.toNat)):=opI fun _ _ _ _ _ _ _ hc q=>pow_int_small hc.1 hc.2.1 hc.2.2 q
theorem unI {f:Value→Sem Value} {g:Int→Int}
  (rule:∀ (i:Int) (t:Tok) (s:Shared) (Q:Value→Shared→Prop) (E:Value→Shared→Prop),Q (.int (g i) s.toks) { s with toks:=s.toks+1 }→wpAny (model X.prog X.w) X.A (f (.int i t)) Q E s) :
  UnR X f (rU fun i=>.int (g i)):=by
 intro pins s σ H x v Q I rx h
 obtain ⟨i,rfl,q⟩:=h
 obtain ⟨t,rfl⟩:=rx
 exact rule i t s _ _ ⟨.int (g i),H,I.tok _,⟨_,rfl⟩,q⟩
theorem un_neg:UnR X (unaryOp .USub) (rU fun i=>.int (-i)):=unI fun _ _ _ _ _ q=>neg_int q
end
noncomputable def scal:V→V→Bool
 | .non,.non=>true | .non,.int _=>true | .int _,.non=>true | .non,.bl _=>true | .bl _,.non=>true | .non,.str _=>true | .str _,.non=>true
 | .int _,.int _=>true | .bl _,.bl _=>true | .str _,.str _=>true | .byt _,.byt _=>true
 | .int _,.str _=>true | .str _,.int _=>true | .bl _,.str _=>true | .str _,.bl _=>true
 | _,_=>false
noncomputable def rEq:R2:=fun x y H Q=>scal x y=true∧Q (.bl (decide (x=y))) H
noncomputable def rNe:R2:=fun x y H Q=>scal x y=true∧Q (.bl (!decide (x=y))) H
theorem dec_int {i j:Int}:decide (V.int i=V.int j)=(i == j):=by
 rw [Bool.eq_iff_iff]
 simp
theorem dec_bl {i j:Bool}:decide (V.bl i=V.bl j)=(i == j):=by
 rw [Bool.eq_iff_iff]
 simp
theorem dec_str {i j:Str}:decide (V.str i=V.str j)=(i == j):=by
 rw [Bool.eq_iff_iff]
 simp
theorem dec_byt {i j:Array UInt8}:decide (V.byt i=V.byt j)=(i.toList == j.toList):=by
 rw [Bool.eq_iff_iff]
 cases i
 cases j
 simp
section
variable {X:Cx} {a b c:Expr} {ta tb tc:TE} {pos:Pos}
theorem fin_bl {pins:List (Addr×Obj)} {σ:St} {H:Hp} {s:Shared} {Q:VK} {k k':Bool} (I:Inv X pins σ H s) (q:Q (.bl k) H) (e:k=k'):EP X pins σ Q (.bool k') s:=by
 subst e
 exact ⟨.bl k,H,I,rfl,q⟩
theorem op_eq:OpR X (compareOp .Eq) rEq:=by
 intro pins s σ H x y v u Q I rx ry h
 obtain ⟨hs,q⟩:=h
 cases x with
 | non=>
  cases rx
  cases y with
  | non=>cases ry; exact PySem.EqNone.eq_none_none (fin_bl I q (by simp))
  | bl j=>cases ry; exact PySem.EqNone.eq_none_bool (fin_bl I q (by simp))
  | int j=>obtain ⟨t',rfl⟩:=ry; exact PySem.EqNone.eq_none_int (fin_bl I q (by simp))
  | str j=>obtain ⟨t',rfl⟩:=ry; exact PySem.EqNone.eq_none_str (fin_bl I q (by simp))
  | _=>exact absurd (show false=true from hs) Bool.false_ne_true
 | bl i=>
  cases rx
  cases y with
  | non=>cases ry; exact PySem.EqNone.eq_bool_none (fin_bl I q (by simp))
  | bl j=>cases ry; exact eq_bool (fin_bl I q dec_bl)
  | str j=>obtain ⟨t',rfl⟩:=ry; exact PySem.EqMixed.eq_bool_str (fin_bl I q (by simp))
  | _=>exact absurd (show false=true from hs) Bool.false_ne_true
 | int i=>
  obtain ⟨t,rfl⟩:=rx
  cases y with
  | non=>cases ry; exact PySem.EqNone.eq_int_none (fin_bl I q (by simp))
  | int j=>obtain ⟨t',rfl⟩:=ry; exact eq_int (fin_bl I q dec_int)
  | str j=>obtain ⟨t',rfl⟩:=ry; exact PySem.EqMixed.eq_int_str (fin_bl I q (by simp))
  | _=>exact absurd (show false=true from hs) Bool.false_ne_true
 | str i=>
  obtain ⟨t,rfl⟩:=rx
  cases y with
  | non=>cases ry; exact PySem.EqNone.eq_str_none (fin_bl I q (by simp))
  | bl j=>cases ry; exact PySem.EqMixed.eq_str_bool (fin_bl I q (by simp))
  | int j=>obtain ⟨t',rfl⟩:=ry; exact PySem.EqMixed.eq_str_int (fin_bl I q (by simp))
  | str j=>obtain ⟨t',rfl⟩:=ry; exact eq_str (fin_bl I q dec_str)
  | _=>exact absurd (show false=true from hs) Bool.false_ne_true
 | byt i=>
  obtain ⟨t,rfl⟩:=rx
  cases y with
  | byt j=>obtain ⟨t',rfl⟩:=ry; exact PySem.W.eq_bytes (fin_bl I q dec_byt)
  | _=>exact absurd (show false=true from hs) Bool.false_ne_true
 | _=>cases y <;> exact absurd (show false=true from hs) Bool.false_ne_true
theorem op_ne:OpR X (compareOp .NotEq) rNe:=by
 intro pins s σ H x y v u Q I rx ry h
 obtain ⟨hs,q⟩:=h
 cases x with
 | non=>
  cases rx
  cases y with
  | non=>cases ry; exact PySem.EqNone.ne_none_none (fin_bl I q (by simp))
  | bl j=>cases ry; exact PySem.EqNone.ne_none_bool (fin_bl I q (by simp))
  | int j=>obtain ⟨t',rfl⟩:=ry; exact PySem.EqNone.ne_none_int (fin_bl I q (by simp))
  | str j=>obtain ⟨t',rfl⟩:=ry; exact PySem.EqNone.ne_none_str (fin_bl I q (by simp))
  | _=>exact absurd (show false=true from hs) Bool.false_ne_true
 | bl i=>
  cases rx
  cases y with
  | non=>cases ry; exact PySem.EqNone.ne_bool_none (fin_bl I q (by simp))
  | bl j=>cases ry; exact ne_bool (fin_bl I q (congrArg not dec_bl))
  | str j=>obtain ⟨t',rfl⟩:=ry; exact PySem.EqMixed.ne_bool_str (fin_bl I q (by simp))
  | _=>exact absurd (show false=true from hs) Bool.false_ne_true
 | int i=>
  obtain ⟨t,rfl⟩:=rx
  cases y with
  | non=>cases ry; exact PySem.EqNone.ne_int_none (fin_bl I q (by simp))
  | int j=>obtain ⟨t',rfl⟩:=ry; exact ne_int (fin_bl I q (congrArg not dec_int))
  | str j=>obtain ⟨t',rfl⟩:=ry; exact PySem.EqMixed.ne_int_str (fin_bl I q (by simp))
  | _=>exact absurd (show false=true from hs) Bool.false_ne_true
 | str i=>
  obtain ⟨t,rfl⟩:=rx
  cases y with
  | non=>cases ry; exact PySem.EqNone.ne_str_none (fin_bl I q (by simp))
  | bl j=>cases ry; exact PySem.EqMixed.ne_str_bool (fin_bl I q (by simp))
  | int j=>obtain ⟨t',rfl⟩:=ry; exact PySem.EqMixed.ne_str_int (fin_bl I q (by simp))
  | str j=>obtain ⟨t',rfl⟩:=ry; exact ne_str (fin_bl I q (congrArg not dec_str))
  | _=>exact absurd (show false=true from hs) Bool.false_ne_true
 | byt i=>
  obtain ⟨t,rfl⟩:=rx
  cases y with
  | byt j=>obtain ⟨t',rfl⟩:=ry; exact PySem.W.ne_bytes (fin_bl I q (congrArg not dec_byt))
  | _=>exact absurd (show false=true from hs) Bool.false_ne_true
 | _=>cases y <;> exact absurd (show false=true from hs) Bool.false_ne_true
theorem op_lt:OpR X (compareOp .Lt) (rI0 fun i j=>.bl (decide (i<j))):=opB0 fun _ _ _ _ _ _ _ q=>lt_int q
theorem op_le:OpR X (compareOp .LtE) (rI0 fun i j=>.bl (decide (i≤j))):=opB0 fun _ _ _ _ _ _ _ q=>le_int q
theorem op_gt:OpR X (compareOp .Gt) (rI0 fun i j=>.bl (decide (j<i))):=opB0 fun _ _ _ _ _ _ _ q=>gt_int q
theorem op_isN:OpR X (compareOp .Is) (fun x y H Q=>y=.non∧Q (.bl (decide (x=.non))) H):=by
 intro pins s σ H x y v u Q I rx ry h
 obtain ⟨rfl,q⟩:=h
 cases ry
 refine is_none_gen (fin_bl I q ?_)
 cases x <;> first
  | (cases rx; rfl)
  | (obtain ⟨t,rfl⟩:=rx; rfl)
theorem op_notN:OpR X (compareOp .IsNot) (fun x y H Q=>y=.non∧Q (.bl (!decide (x=.non))) H):=by
 intro pins s σ H x y v u Q I rx ry h
 obtain ⟨rfl,q⟩:=h
 cases ry
 refine isnot_none_gen (fin_bl I q ?_)
 cases x <;> first
  | (cases rx; rfl)
  | (obtain ⟨t,rfl⟩:=rx; rfl)
theorem nomark (b:Expr) {op:CmpOp} (h:op≠.In:=by decide) (h2:op≠.NotIn:=by decide):behindInMarks op b=false:=by
 have e1:(op == CmpOp.In)=false:=by cases op <;> first | rfl | exact absurd rfl h
 have e2:(op == CmpOp.NotIn)=false:=by cases op <;> first | rfl | exact absurd rfl h2
 cases b <;> simp [behindInMarks,e1,e2]
theorem pe_cmpR {op:CmpOp} {r:R2} (ho:OpR X (compareOp op) r) (ha:PE X a ta) (hb:PE X b tb) (hm:behindInMarks op b=false):PE X (.Compare a [op] [b] pos) (tOp r ta tb):=by
 intro pins s σ H Q I h
 exact wpAny_Compare1 (binT ha hb I h fun v u s2 x y H2 I2 rx ry q=>ho pins s2 σ H2 x y v u Q I2 rx ry q) hm
noncomputable def tTest (t:TE):TT:=fun σ H Q=>t σ H fun x H'=>∃ k,x=.bl k∧Q k H'
theorem pt_cmpR {op:CmpOp} {r:R2} (ho:OpR X (compareOp op) r) (ha:PE X a ta) (hb:PE X b tb) (hm:behindInMarks op b=false):PT X (.Compare a [op] [b] pos) (tTest (tOp r ta tb)):=by
 intro pins s σ H Q I h
 refine wpAny_isTrue_Compare1 (thn (ha pins s σ H _ I h) fun v s1 ⟨x,H1,I1,r1,q1⟩=>thn (hb pins s1 σ H1 _ I1 q1) fun u s2 ⟨y,H2,I2,r2,q2⟩=>
  thn (ho pins s2 σ H2 x y v u _ I2 r1 r2 q2) fun c s3 ⟨z,H3,I3,r3,k,e,q3⟩=>?_) hm
 subst e
 cases r3
 exact wpAny_truthy_bool ⟨H3,I3,q3⟩
noncomputable def tChain (r r':R2) (ta tb tc:TE):TE:=fun σ H Q=>ta σ H fun x H1=>tb σ H1 fun y H2=>r x y H2 fun z H3=>∃ k,z=.bl k ∧
 (if k=true then tc σ H3 fun w' H4=>r' y w' H4 Q else Q (.bl false) H3)
theorem pe_chain {op op':CmpOp} {r r':R2} (ho:OpR X (compareOp op) r) (ho':OpR X (compareOp op') r') (ha:PE X a ta) (hb:PE X b tb) (hc:PE X c tc)
  (hm:lastMarks [op,op'] [b,c]=false:=by with_unfolding_all rfl):PE X (.Compare a [op,op'] [b,c] pos) (tChain r r' ta tb tc):=by
 intro pins s σ H Q I h
 refine Compare_chain (thn (ha pins s σ H _ I h) fun v s1 ⟨x,H1,I1,r1,q1⟩=>chain_link (thn (hb pins s1 σ H1 _ I1 q1) fun u s2 ⟨y,H2,I2,r2,q2⟩=>
  thn (ho pins s2 σ H2 x y v u _ I2 r1 r2 q2) fun d s3 ⟨z,H3,I3,r3,k,e,q3⟩=>?_)) hm
 subst e
 cases r3
 refine wpAny_truthy_bool ?_
 cases k with
 | false=>exact ite_ff ⟨.bl false,H3,I3,rfl,q3⟩
 | true=>exact ite_tt (chain_last (thn (hc pins s3 σ H3 _ I3 q3) fun w' s4 zz34=>by obtain ⟨z',H4,I4,r4,q4⟩:=zz34; exact ho' pins s4 σ H4 y z' u w' Q I4 r2 r4 q4))
theorem line63:(sizeLine:Nat)<2^63:=by rw [sizeLine_eq]; decide
theorem vals1 {x:V} {us:List Value} (r:Vals [x] us):∃ u,us = [u]∧RelV x u:=by
 cases r with
 | cons r1 r2=>cases r2; exact ⟨_,rfl,r1⟩
theorem vals2 {x y:V} {us:List Value} (r:Vals [x,y] us):∃ u w',us = [u,w']∧RelV x u∧RelV y w':=by
 cases r with
 | cons r1 r2=>
  cases r2 with
  | cons r3 r4=>cases r4; exact ⟨_,_,rfl,r1,r3⟩
theorem call_max2 (hc:X.calm=true):CallR X (.builtin "max") (fun xs H Q=>∃ i j,xs = [.int i,.int j]∧Q (.int (if j>i then j else i)) H):=by
 intro pins s σ H xs us Q I r h
 obtain ⟨i,j,rfl,q⟩:=h
 obtain ⟨u,w',rfl,⟨t,rfl⟩,⟨t',rfl⟩⟩:=vals2 r
 refine max_two_ints (I.ok.hd hc) fun h' tk k=>⟨_,H,I.kept k,?_,q⟩
 by_cases hj:j>i
 ·rw [if_pos hj,if_pos hj]; exact ⟨_,rfl⟩
 ·rw [if_neg hj,if_neg hj]; exact ⟨_,rfl⟩
theorem call_int1:CallR X (.type "int") (fun xs H Q=>(∃ i,xs = [.int i]∧Q (.int i) H)∨∃ k,xs = [.bl k]∧Q (.int (if k then 1 else 0)) H):=by
 intro pins s σ H xs us Q I r h
 rcases h with ⟨i,rfl,q⟩ | ⟨k,rfl,q⟩
 ·obtain ⟨u,rfl,t,rfl⟩:=vals1 r
  exact call_int_int ⟨.int i,H,I,⟨_,rfl⟩,q⟩
 ·obtain ⟨u,rfl,r1⟩:=vals1 r
  cases r1
  exact call_int_bool ⟨.int (if k then 1 else 0),H,I.tok _,⟨_,rfl⟩,q⟩
end
end L2
namespace L2
open PySem PySem.Spec PyProof.Rows
structure ObjM (h:Heap) (x dx C:Addr) (mA:Str→Option Value):Prop where
 obj:h.get? x=some (PySem.W.instObj C dx)
 ns:h.Ns1 dx mA
 ne:dx≠x
theorem lookIn_ns {h:Heap} {dx:Addr} {mA:Str→Option Value} (n:h.Ns1 dx mA):∃ od,h.get? dx=some od∧∀ name,PySem.W.lookIn name od=some (mA name):=by
 obtain ⟨o,es,ep,ho,hd,hk,_,hm⟩:=n
 refine ⟨o,ho,fun name=>?_⟩
 have e:=hm name
 unfold nsFind findBy at e
 rw [← Array.find?_toList] at e
 unfold PySem.W.lookIn
 rw [hd]
 dsimp only
 split
 ·rename_i y q
  rw [q] at e
  exact congrArg some e
 ·rename_i q
  rw [q] at e
  have a:es.toList.any (·.refKey)=false:=by
   rw [List.any_eq_false]
   intro y hy
   obtain ⟨z,t,hkey⟩:=hk y (Array.mem_toList_iff.mp hy)
   simp [DictEntry.refKey,hkey]
  have a':¬ es.toList.any (·.refKey)=true:=by rw [a]; exact Bool.false_ne_true
  rw [if_neg a']
  exact congrArg some e
theorem ObjM.look {h:Heap} {x dx C:Addr} {mA:Str→Option Value} (I:ObjM h x dx C mA):∃ od,PySem.W.InstAt h x (PySem.W.instObj C dx) C (some od)∧∀ name,PySem.W.lookIn name od=some (mA name):=
 let ⟨od,ho,hl⟩:=lookIn_ns I.ns
 ⟨od,⟨I.obj,rfl,rfl,ho⟩,hl⟩
section
variable {prog:Program} {w:World} {A:Around} {E:Value→Shared→Prop} {s:Shared} {K:PySem.W.Frag} {x dx C f:Addr} {mA:Str→Option Value} {name:Str} {v:Value}
end
section
variable {P:Program} {w:World} {H H':Hp} {h h':Heap} {a C dx:Addr} {fs fs':List (Str×V)}
theorem ins_get (hok:HOk P w H h) (e:H a=some (.ins C dx fs)):∃ mA,ObjM h a dx C mA∧(∀ f,RelO (fs.lookup f) (mA f))∧PySem.Within mA (fs.map (·.1))∧fs.length≤1000∧H dx=some (.own a):=by
 obtain ⟨d,z,ne,ob,mA,n,r,q⟩:=(show ObjOk P w H h a (.ins C dx fs) from hok a _ e)
 exact ⟨mA,⟨ob,n,ne⟩,r,q,z,d⟩
end
structure Cls (K:PySem.W.Frag) (C:Addr):Prop where
 pg:PySem.W.plainGet K C Str.empty=true
 hd:PySem.W.hasDictIn K C=true
 po:PySem.W.plainOver K C=true
 sa:PySem.W.findIn K (.ref C) "__setattr__" = some (some (.builtin "object.__setattr__"))
theorem Cls.get {K:PySem.W.Frag} {C:Addr} (c:Cls K C) (f:Str):PySem.W.plainGet K C f=true:=c.pg
section
variable {X:Cx} {pins:List (Addr×Obj)} {σ:St} {H:Hp} {s:Shared} {a C dx:Addr} {fs:List (Str×V)} {f:Str} {v:V} {A:Around} {E:Value→Shared→Prop}
end
section
variable {X:Cx} {o e value:Expr} {f:Str} {pos pos' tpos:Pos} {ta tv:TE}
end
section
variable {X:Cx} {pins:List (Addr×Obj)} {σ:St} {H:Hp} {s:Shared} {A:Around} {E:Value→Shared→Prop} {Q:Value→Shared→Prop} {c:Value} {b:Bool}
inductive TyOf (K:PySem.W.Frag) (H:Hp):V→Value→Prop where
 | non:TyOf K H .non (.type "NoneType")
 | bl (x:Bool):TyOf K H (.bl x) (.type "bool")
 | int (i:Int):TyOf K H (.int i) (.type "int")
 | str (x:Str):TyOf K H (.str x) (.type "str")
 | flt (x:UInt64):TyOf K H (.flt x) (.type "float")
 | lst {a:Addr} {xs:List V} (e:H a=some (.lst xs)):TyOf K H (.ref a) (.type "list")
 | frz {a:Addr} {o:Obj} {xs:List V} (e:H a=some (.frz o (.lst xs))):TyOf K H (.ref a) (.type "list")
 | tup {a:Addr} {xs:List V} (e:H a=some (.tup xs)):TyOf K H (.ref a) (.type "tuple")
 | dK {a:Addr} {kvs:List (Key×V)} (e:H a=some (.dK kvs)):TyOf K H (.ref a) (.type "dict")
 | dT {a:Addr} {kvs:List (List Key×V)} (e:H a=some (.dT kvs)):TyOf K H (.ref a) (.type "dict")
 | ins {a C dx:Addr} {fs:List (Str×V)} (e:H a=some (.ins C dx fs)) (cl:Cls K C) (ha:PySem.W.findIn K (.ref C) "__class__" = some (some (.builtin "object.__class__")))
   (hn:PySem.W.specialIn K (.builtin "object.__class__") "__get__" = some (some (.builtin "getset_descriptor.__get__"))) (htk:PySem.W.takesIn K (.builtin "object.__class__")=some true)
   (hm:PySem.W.mroIn K C (.type "object")=some true):TyOf K H (.ref a) (.ref C)
theorem isinst_ok {x:V} {u t:Value} (I:Inv X pins σ H s) (rx:RelV x u) (ty:TyOf X.K H x t) (e:PySem.W.kitOne X.K t c=some b) (h:∀ tk,Q (.bool b) { s with toks:=tk }) :
  wpAny (model X.prog X.w) A (call (.builtin "isinstance") [u,c]) Q E s:=by
 cases ty with
 | non=>cases (show u=Value.none from rx); exact PySem.W.kia_one PySem.W.kitx_none I.kIn True.intro e (fun z=>nomatch z) h
 | bl y=>cases (show u=Value.bool y from rx); exact PySem.W.kia_one PySem.W.kitx_bool I.kIn True.intro e (fun z=>nomatch z) h
 | int i=>obtain ⟨t,q⟩:=(show ∃ t,u=Value.int i t from rx); cases q; exact PySem.W.kia_one PySem.W.kitx_int I.kIn True.intro e (fun z=>nomatch z) h
 | str y=>obtain ⟨t,q⟩:=(show ∃ t,u=Value.str y t from rx); cases q; exact PySem.W.kia_one PySem.W.kitx_str I.kIn True.intro e (fun z=>nomatch z) h
 | flt y=>obtain ⟨t,q⟩:=(show ∃ t,u=Value.float y t from rx); cases q; exact PySem.W.kia_one PySem.W.kitx_float I.kIn True.intro e (fun z=>nomatch z) h
 | @lst a xs ea=>
  cases (show u=Value.ref a from rx)
  obtain ⟨_,_,n,_,h1⟩:=(show ObjOk X.prog X.w H s.heap a (.lst xs) from I.hok a _ ea)
  exact PySem.W.kia_one PySem.W.kitx_list I.kIn ⟨_,h1,rfl⟩ e (fun z=>nomatch z) h
 | @frz a ob xs ea=>
  cases (show u=Value.ref a from rx)
  obtain ⟨_,_,_,n,_,h1⟩:=(show ObjOk X.prog X.w H s.heap a (.frz ob (.lst xs)) from I.hok a _ ea)
  exact PySem.W.kia_one PySem.W.kitx_list I.kIn ⟨_,h1,rfl⟩ e (fun z=>nomatch z) h
 | @tup a xs ea=>
  cases (show u=Value.ref a from rx)
  obtain ⟨_,_,_,p⟩:=(show ObjOk X.prog X.w H s.heap a (.tup xs) from I.hok a _ ea)
  obtain ⟨o,h1,h2,_⟩:=p
  exact PySem.W.kia_one PySem.W.kitx_tuple I.kIn ⟨o,h1,h2⟩ e (fun z=>nomatch z) h
 | @dK a kvs ea=>
  cases (show u=Value.ref a from rx)
  obtain ⟨_,_,vs,_,p⟩:=(show ObjOk X.prog X.w H s.heap a (.dK kvs) from I.hok a _ ea)
  obtain ⟨o,es,ep,h1,h2,_⟩:=p
  exact PySem.W.kia_one PySem.W.kitx_dict I.kIn ⟨o,h1,h2.1⟩ e (fun z=>nomatch z) h
 | @dT a kvs ea=>
  cases (show u=Value.ref a from rx)
  obtain ⟨_,_,xs,_,o,es,ep,h1,h2,_⟩:=(show ObjOk X.prog X.w H s.heap a (.dT kvs) from I.hok a _ ea)
  exact PySem.W.kia_one PySem.W.kitx_dict I.kIn ⟨o,h1,h2.1⟩ e (fun z=>nomatch z) h
 | @ins a C dx fs ea cl ha hn htk hm=>
  cases (show u=Value.ref a from rx)
  obtain ⟨mA,O,_⟩:=ins_get I.hok ea
  obtain ⟨od,J,_⟩:=O.look
  exact PySem.W.kia_one (PySem.W.kitx_own (cl.get _) cl.hd ha hn htk hm) I.kIn J e (fun z=>nomatch z) h
end
end L2
namespace L2
open PySem PySem.Spec PyProof.Rows
structure Room (k:Nat) (A:Around):Prop where
 hd:A.handled=none
 dp:A.depth+3*k+5<recursionLimit
 un:A.units+16*k+200<cLine
theorem Room.mono {j k:Nat} {A:Around} (r:Room k A) (h:j≤k):Room j A:=⟨r.hd,by have:=r.dp; omega,by have:=r.un; omega⟩
theorem Room.deeper {k:Nat} {A:Around} (r:Room (k+1) A) (env:Env):Room k (A.deeper env):=
 ⟨r.hd,by have:=r.dp; show A.depth+1+3*k+5<_; omega,by have:=r.un; show A.units+3+16*k+200<_; omega⟩
theorem Room.depth {k:Nat} {A:Around} (r:Room k A):A.depth<recursionLimit:=by have:=r.dp; omega
theorem Room.units {k:Nat} {A:Around} (r:Room k A):A.units+64<cLine:=by have:=r.un; omega
noncomputable def tNil:TA:=fun _ H Q=>Q [] H
noncomputable def tCons (ta:TE) (tr:TA):TA:=fun σ H Q=>ta σ H fun x H1=>tr σ H1 fun xs H2=>Q (x::xs) H2
section
variable {X:Cx} {e:Expr} {es:List Expr} {te:TE} {t:TA} {pos:Pos}
theorem pa_nil:PA X [] tNil:=fun _ _ _ _ H Q I h=>Calls.spliced_nil ⟨[],H,I,.nil,h⟩
theorem pa_cons (ha:PE X e te) (hr:PA X es t) (hs:starEach (e::es) X.env=(false,eval e X.env)::starEach es X.env:=by rfl):PA X (e::es) (tCons te t):=by
 intro pos pins s σ H Q I h
 rw [hs]
 show wpAny _ _ (spliced ((false,eval e X.env)::backTo pos (starEach es X.env))) _ _ s
 refine Calls.spliced_cons (thn (ha pins s σ H _ I h) fun u s1 zz35=>?_)
 obtain ⟨x,H1,I1,r1,q1⟩:=zz35
 exact thn (hr pos pins s1 σ H1 _ I1 q1) fun us s2 zz36=>by obtain ⟨xs,H2,I2,r2,q2⟩:=zz36; exact ⟨x::xs,H2,I2,.cons r1 r2,q2⟩
noncomputable def tTup (t:TA):TE:=fun σ H Q=>t σ H fun xs H1=>xs.length≤sizeLine∧∀ p,H1 p=none→Q (.ref p) (upd H1 p (.tup xs))
noncomputable def tLst (t:TA):TE:=fun σ H Q=>t σ H fun xs H1=>xs.length≤sizeLine∧∀ p,H1 p=none→Q (.ref p) (upd H1 p (.lst xs))
theorem pe_tup {x1} (h:PA X es t):PE X (.Tuple es x1 pos) (tTup t):=by
 intro pins s σ H Q I hq
 refine wpAny_Tuple_spliced (thn (h pos pins s σ H _ I hq) fun us s1 ⟨xs,H1,I1,r,z,q⟩=>⟨by rw [← r.length]; exact z,?_⟩)
 have hf:H1 s1.heap.objs.size=none:=I1.hok.fresh (Nat.le_refl _)
 refine ⟨.ref s1.heap.objs.size,upd H1 s1.heap.objs.size (.tup xs),I1.laid (t':=s1.toks) (fun b u e=>Heap.get?_push_of_some _ e) (Nat.le_refl _) ?_,rfl,q _ hf⟩
 exact ⟨z,us,r,⟨_,Heap.get?_push_size _ rfl,rfl,_,rfl⟩⟩
theorem pe_lst (h:PA X es t):PE X (.List es pos) (tLst t):=by
 intro pins s σ H Q I hq
 refine wpAny_List_spliced (thn (h pos pins s σ H _ I hq) fun us s1 ⟨xs,H1,I1,r,z,q⟩=>⟨by rw [← r.length]; exact z,?_⟩)
 have hf:H1 s1.heap.objs.size=none:=I1.hok.fresh (Nat.le_refl _)
 refine ⟨.ref s1.heap.objs.size,upd H1 s1.heap.objs.size (.lst xs),I1.laid (t':=s1.toks) (fun b u e=>Heap.get?_push_of_some _ e) (Nat.le_refl _) ?_,rfl,q _ hf⟩
 exact ⟨z,us,0,r,Heap.get?_push_size _ rfl⟩
end
noncomputable abbrev Sp:=List V→Hp→VK→XK→Prop
noncomputable abbrev CXT:=List Env→Hp→Shared→XK→Value→Shared→Prop
structure Env0 (P:Program) (w:World) (K:PySem.W.Frag) (mg:Str→Option Value) (base:Heap) (A:Around) (outer:List Env) (s:Shared) (H:Hp):Prop where
 frames:A.frames=some outer
 mod:Mod K mg base
 bs:∀ b o,base.get? b=some o→s.heap.get? b=some o∧H b=none
 bsz:base.objs.size≤s.heap.objs.size
 funs:s.heap.FunFrames base outer
 frf:∀ b∈frs outer,H b=none
 hok:HOk P w H s.heap
 bare:AllBare s.gens
noncomputable def CE (outer:List Env) (P:Program) (w:World) (H:Hp) (s:Shared) (Q:VK) (u:Value) (s':Shared):Prop:=
 ∃ v H',s'.os=s.os∧AllBare s'.gens∧Un (frs outer) [] H H' s.heap s'.heap∧HOk P w H' s'.heap∧RelV v u∧Q v H'
noncomputable def CR (CX:CXT) (outer:List Env) (P:Program) (w:World) (H:Hp) (s:Shared) (Q:VK) (E:XK) (r:Result) (s':Shared):Prop:=
 match r with
 | .ok (.ret u)=>CE outer P w H s Q u s'
 | .ok _=>False
 | .error e=>CX outer H s E e s'
structure FnOk (P:Program) (w:World) (K:PySem.W.Frag) (mg:Str→Option Value) (base:Heap) (CX:CXT) (k:Nat) (f:Addr) (fd:FuncData) (ps:List Str) (sp:Sp):Prop where
 len:∀ vs H Q E,sp vs H Q E→vs.length=ps.length
 run:∀ (A:Around) (outer:List Env) (s:Shared) (H:Hp) (args:Args) (us:List Value) (vs:List V) (Q:VK) (E:XK),Room k A→Env0 P w K mg base A outer s H→BindsTo s fd args (ps.zip us)→Vals vs us→sp vs H Q E →
  codeAny (model P w) A (.call (.ref f) args) (CR CX outer P w H s Q E) s
theorem FnOk.imp {P:Program} {w:World} {K:PySem.W.Frag} {mg:Str→Option Value} {base:Heap} {CX:CXT} {k:Nat} {f:Addr} {fd:FuncData} {ps:List Str} {sp sp':Sp} (F:FnOk P w K mg base CX k f fd ps sp)
  (h:∀ vs H Q E,sp' vs H Q E→sp vs H Q E):FnOk P w K mg base CX k f fd ps sp':=
 ⟨fun vs H Q E q=>F.len vs H Q E (h _ _ _ _ q),fun A outer s H args us vs Q E hr he hb hv hs=>F.run A outer s H args us vs Q E hr he hb hv (h _ _ _ _ hs)⟩
section
variable {X:Cx} {pins:List (Addr×Obj)} {σ:St} {H:Hp} {s s':Shared}
theorem Inv.env0 (I:Inv X pins σ H s):Env0 X.prog X.w X.K X.mg X.base X.A X.stack s H:=
 ⟨I.ok.frames,I.ok.mod,I.bs,Nat.le_trans I.ok.bsz I.sz,I.stack,I.stkFree,I.hok,I.bare⟩
theorem Inv.after {Q:VK} {u:Value} (I:Inv X pins σ H s) (h:CE X.stack X.prog X.w H s Q u s'):EP X pins σ Q u s':=by
 obtain ⟨v,H',os,bare,un,hok,r,q⟩:=h
 obtain ⟨hh,g,d,t,os'⟩:=s'
 obtain rfl:os'=s.os:=os
 exact ⟨v,H',I.call (h':=hh) (g':=g) (d':=d) (t':=t) (ch:=[]) un hok bare (fun b z=>absurd z (by simp)),r,q⟩
end
noncomputable def tCall (sp:Sp) (dvs:List V) (E:XK) (t:TA):TE:=fun σ H Q=>t σ H fun vs H1=>sp (vs++dvs) H1 Q E
noncomputable def Binds (K:PySem.W.Frag) (fd:FuncData) (ps:List Str) (ds:List Value):Prop:=
 ∀ (s:Shared) (us:List Value),K.In s.heap→(us++ds).length=ps.length→BindsTo s fd ⟨us,[]⟩ (ps.zip (us++ds))
theorem Binds.all {K:PySem.W.Frag} {fd:FuncData} {ps:List Str} (h:∀ us:List Value,us.length=ps.length→bindArgs fd ⟨us,[]⟩=pure (ps.zip us)):Binds K fd ps []:=fun s us _ hl=>by
 rw [List.append_nil] at hl ⊢
 exact .of_eq (h us hl)
noncomputable def Passes (CX:CXT) (X:Cx) (E:XK):Prop:=∀ (pins:List (Addr×Obj)) (σ:St) (H:Hp) (s:Shared) (e:Value) (s':Shared),Inv X pins σ H s→CX X.stack H s E e s'→X.xe e s'
section
variable {X:Cx} {CX:CXT} {k:Nat} {f C:Addr} {fd:FuncData} {ps:List Str} {sp:Sp} {dvs:List V} {ds:List Value} {E:XK} {x m:Str} {p pos apos:Pos} {e o:Expr} {es:List Expr} {ta:TE} {t:TA}
theorem run_fn {pins:List (Addr×Obj)} {σ:St} {H:Hp} {s:Shared} {Q:VK} {us:List Value} {vs:List V} (F:FnOk X.prog X.w X.K X.mg X.base CX k f fd ps sp) (hr:Room k X.A) (hb:Binds X.K fd ps ds) (hd:Vals dvs ds) (hx:Passes CX X E)
  (I:Inv X pins σ H s) (r:Vals vs us) (h:sp (vs++dvs) H Q E):wpAny (model X.prog X.w) X.A (call (.ref f) us) (EP X pins σ Q) X.xe s:=by
 have r2:Vals (vs++dvs) (us++ds):=r.append hd
 have hl:(us++ds).length=ps.length:=by rw [← r2.length]; exact F.len _ _ _ _ h
 refine wpAny_call (codeAny_mono (F.run X.A X.stack s H ⟨us,[]⟩ (us++ds) (vs++dvs) Q E hr I.env0 (hb s us I.kIn hl) r2 h) fun r s' hq=>?_)
 cases r with
 | error e=>exact hx pins σ H s e s' I hq
 | ok fl=>
  cases fl with
  | ret u=>exact I.after hq
  | next=>exact False.elim hq
  | brk=>exact False.elim hq
  | cont=>exact False.elim hq
theorem pe_call (F:FnOk X.prog X.w X.K X.mg X.base CX k f fd ps sp) (hr:Room k X.A) (hg:Gl X x) (hm:X.mg x=some (.ref f)) (hk:PySem.W.keepIn X.K (.ref f)=true) (hb:Binds X.K fd ps ds) (hd:Vals dvs ds) (hx:Passes CX X E)
  (ha:PA X (e::es) t) (hdb:(x == ("__debug__" : Str))=false:=by decide) (he:starEach (e::es) X.env=(false,eval e X.env)::starEach es X.env:=by rfl) (hpl:(backTo pos (starEach es X.env)).any (·.1)=false:=by rfl) :
  PE X (.Call (.Name x p) (e::es) [] pos) (tCall sp dvs E t):=by
 intro pins s σ H Q I h
 refine wpAny_Call_Name_kw (ld_glob I hg hm ?_ hdb)
 refine PySem.W.callWith_K (h₀:=X.base) I.ok.mod.kin hk (thn (ha pos pins s σ H _ I h) fun us s1 ⟨vs,H1,I1,r,q⟩=>⟨I1.kIn,?_⟩) he hpl
 exact run_fn F hr hb hd hx I1 r q
end
section
variable {X:Cx} {CX:CXT} {k:Nat} {f C:Addr} {fd:FuncData} {ps ks:List Str} {sp:Sp} {E:XK} {x m:Str} {p pos apos kpos:Pos} {e o:Expr} {es:List Expr} {kws:List Keyword} {te ta:TE} {t tk:TA} {nm:Option Str}
variable {g:List Value→List Value→List Value} {gV:List V→List V→List V}
end
structure FnScope (N P:List Str) (sc:Scope):Prop where
 kind:sc.kind=.function
 co:sc.isCoroutine=false
 gen:sc.isGenerator=false
 nd:N.Nodup
 pre:N.take P.length=P
 par:∀ x∈P,sc.names.lookup x=some .local∨sc.names.lookup x=some .cell
 nofree:∀ y∈sc.names,y.2≠.free
theorem bindL_out {kindOf:Str→Option NameKind} {x:Str}:∀ {binds:List (Str×Value)} {m:Str→Option Value},(∀ v,(x,v)∉binds)→bindL kindOf binds m x=m x
 | [],_,_=>rfl
 | (n,v)::r,m,h=>by
  unfold bindL
  rw [bindL_out fun w hw=>h w (List.mem_cons_of_mem _ hw)]
  split
  ·have:x≠n:=by rintro rfl; exact h v List.mem_cons_self
   simp [this]
  ·rfl
theorem bindC_out {kindOf:Str→Option NameKind} {x:Str}:∀ {binds:List (Str×Value)} {m:Str→Option Value},(∀ v,(x,v)∉binds)→bindC kindOf binds m x=m x
 | [],_,_=>rfl
 | (n,v)::r,m,h=>by
  unfold bindC
  rw [bindC_out fun w hw=>h w (List.mem_cons_of_mem _ hw)]
  split
  ·rfl
  ·have:x≠n:=by rintro rfl; exact h v List.mem_cons_self
   simp [this]
theorem bindL_get {kindOf:Str→Option NameKind} {x:Str} {v:Value}:∀ {P:List Str} {vs:List Value} {i:Nat} {m:Str→Option Value},P.Nodup→P[i]?=some x→vs[i]?=some v→kindOf x=some .local →
  bindL kindOf (P.zip vs) m x=some v
 | [],_,_,_,_,h,_,_=>by simp at h
 | _::_,[],_,_,_,_,h,_=>by simp at h
 | p::P,w::vs,0,m,nd,h1,h2,hk=>by
  simp at h1 h2; subst h1; subst h2
  show bindL kindOf ((p,w)::P.zip vs) m p=_
  unfold bindL
  rw [bindL_out fun v hv=>(List.nodup_cons.mp nd).1 (List.of_mem_zip hv).1,if_pos hk]
  simp
 | p::P,w::vs,i+1,m,nd,h1,h2,hk=>by
  show bindL kindOf ((p,w)::P.zip vs) m x=_
  unfold bindL
  exact bindL_get (i:=i) (List.nodup_cons.mp nd).2 (by simpa using h1) (by simpa using h2) hk
theorem bindC_get {kindOf:Str→Option NameKind} {x:Str} {v:Value}:∀ {P:List Str} {vs:List Value} {i:Nat} {m:Str→Option Value},P.Nodup→P[i]?=some x→vs[i]?=some v→kindOf x≠some .local →
  bindC kindOf (P.zip vs) m x=some v
 | [],_,_,_,_,h,_,_=>by simp at h
 | _::_,[],_,_,_,_,h,_=>by simp at h
 | p::P,w::vs,0,m,nd,h1,h2,hk=>by
  simp at h1 h2; subst h1; subst h2
  show bindC kindOf ((p,w)::P.zip vs) m p=_
  unfold bindC
  rw [bindC_out fun v hv=>(List.nodup_cons.mp nd).1 (List.of_mem_zip hv).1,if_neg hk]
  simp
 | p::P,w::vs,i+1,m,nd,h1,h2,hk=>by
  show bindC kindOf ((p,w)::P.zip vs) m x=_
  unfold bindC
  exact bindC_get (i:=i) (List.nodup_cons.mp nd).2 (by simpa using h1) (by simpa using h2) hk
noncomputable def start (N:List Str) (vs:List V):St:=vs.map some++List.replicate (N.length-vs.length) none
noncomputable def cxOf (CX:CXT) (P:Program) (w:World) (K:PySem.W.Frag) (mg:Str→Option Value) (base:Heap) (N:List Str) (qual:Str) (scope:Scope) (f:Addr) (cd:Value) (A:Around) (outer:List Env) (s:Shared) (H:Hp) (E:XK):Cx where
 prog:=P
 w:=w
 K:=K
 mg:=mg
 base:=base
 A:=A.deeper (envOfC qual scope s.heap.objs.size f cd)
 N:=N
 s₀:=s
 H₀:=H
 env:=envOfC qual scope s.heap.objs.size f cd
 outer:=outer
 stack:=envOfC qual scope s.heap.objs.size f cd::outer
 ex:=[]
 calm:=true
 fn:=fun _=>true
 pn:=[]
 xe:=fun e s'=>wpAny (model P w) (A.deeper (envOfC qual scope s.heap.objs.size f cd)) (leaving (envOfC qual scope s.heap.objs.size f cd) e) (fun _ s''=>CX outer H s E e s'') (fun e' s''=>CX outer H s E e' s'') s'
theorem cell_has {sc:Scope} {n:Nat} {x:Str} (h:sc.names.lookup x=some .cell):∃ c,(cellsFrom n sc.names []).lookup x=some c:=by
 have q:=PySem.W.cellsFrom_some sc.names n [] (.inl h)
 exact Option.isSome_iff_exists.mp q
theorem inv_start {CX:CXT} {P:Program} {w:World} {K:PySem.W.Frag} {mg:Str→Option Value} {base:Heap} {N ps:List Str} {qual:Str} {scope:Scope} {f:Addr} {cd:Value} {A:Around} {outer:List Env} {s s1:Shared} {H:Hp} {E:XK} {us:List Value} {vs:List V}
  (S:FnScope N ps scope) (hd:A.handled=none) (e0:Env0 P w K mg base A outer s H) (hl:vs.length=ps.length) (r:Vals vs us)
  (x:InCallC s s.heap.objs.size (bindL (envOfC qual scope s.heap.objs.size f cd).kindOf (ps.zip us) fun _=>none) (cellsFrom (s.heap.objs.size+1) scope.names []) (bindC (envOfC qual scope s.heap.objs.size f cd).kindOf (ps.zip us) fun _=>none) s1) :
  Inv (cxOf CX P w K mg base N qual scope f cd A outer s H E) [] (start N vs) H s1:=by
 have hpl:ps.length≤N.length:=by have:=congrArg List.length S.pre; rw [List.length_take] at this; omega
 obtain ⟨h1,tk,rfl,hk⟩:=x.done
 have noA:∀ b:Addr,b∉(cxOf CX P w K mg base N qual scope f cd A outer s H E).ex:=fun b z=>absurd (show b∈([]:List Addr) from z) (by simp)
 refine ⟨⟨e0.mod,S.kind,rfl,rfl,Nat.le_refl _,fun y z c h1 h2=>?_,fun y hy=>?_,fun y c _ h=>?_,fun _=>hd,Around.frames_deeper e0.frames,.inr ⟨rfl,rfl⟩,fun b z=>absurd z (noA b),e0.bs,e0.bsz,fun b _ _=>noA b,fun b z=>absurd z (noA b),e0.funs,e0.frf⟩,
  rfl,e0.bare,Un.kept hk,⟨_,x.toInCall.ns,fun i y v h1 h2 h3=>?_⟩,fun y c h=>⟨_,x.cell y c h⟩,e0.hok.fresh (Nat.le_refl _),fun y c h=>?_,fun p hp=>absurd (show p∈([]:List (Addr×Obj)) from hp) (by simp),e0.hok.kept hk,?_⟩
 ·exact name_of_addr x.apart (PySem.mem_of_lookup h1) (PySem.mem_of_lookup h2)
 ·have hy:scope.names.lookup y=some .cell∨scope.names.lookup y=some .free:=hy
  rcases hy with hy | hy
  ·exact cell_has hy
  ·exact absurd rfl (S.nofree _ (PySem.mem_of_lookup hy))
 ·exact Nat.le_of_lt (x.above y c (PySem.mem_of_lookup h))
 ·have hi:i<vs.length:=by
   unfold start at h2
   by_cases hi:i<vs.length
   ·exact hi
   ·rw [List.getElem?_append_right (by simpa using hi)] at h2
    rw [List.getElem?_replicate] at h2
    split at h2 <;> cases h2
  have ha:vs[i]?=some v:=by
   unfold start at h2
   rw [List.getElem?_append_left (by simpa using hi),List.getElem?_map] at h2
   cases e:vs[i]? with
   | none=>rw [e] at h2; cases h2
   | some a=>rw [e] at h2; cases h2; rfl
  obtain ⟨u,hu,rv⟩:=r.get ha
  have hp:ps[i]?=some y:=by
   rw [← S.pre,List.getElem?_take_of_lt (by omega)]; exact h1
  have ndP:ps.Nodup:=by rw [← S.pre]; exact S.nd.sublist (List.take_sublist _ _)
  refine ⟨u,rv,?_⟩
  rcases S.par y (List.mem_of_getElem? hp) with k | k
  ·exact .inl ⟨k,bindL_get ndP hp hu k⟩
  ·obtain ⟨c,e⟩:=cell_has (n:=s.heap.objs.size+1) k
   refine .inr ⟨.inl k,c,e,?_⟩
   have q:=x.cell y c e
   rw [bindC_get ndP hp hu (by show scope.names.lookup y≠_; rw [k]; decide)] at q
   exact q
 ·exact e0.hok.fresh (Nat.le_of_lt (x.above y c (PySem.mem_of_lookup h)))
 ·unfold start
  show _=N.length
  rw [List.length_append,List.length_map,List.length_replicate]
  omega
theorem fn_of {CX:CXT} {P:Program} {w:World} {K:PySem.W.Frag} {mg:Str→Option Value} {base:Heap} {k:Nat} {f:Addr} {name qual:Str} {params:Arguments} {body:List Stmt} {scope:Scope} {dV kV doc pm cdv ct oc:Value} {an od:Option Addr}
  {osl:Array (Option Value)} {N ps:List Str} {sp:Sp} (lk:K.lookup f=some ⟨oc,od,.func (PySem.W.fnOf name qual params body scope dV kV doc pm an cdv ct),osl⟩) (hcd:PySem.W.codeIn K cdv qual=true) (S:FnScope N ps scope)
  (len:∀ vs H Q E,sp vs H Q E→vs.length=ps.length)
  (hbody:∀ (A:Around) (outer:List Env) (s:Shared) (H:Hp) (vs:List V) (Q:VK) (E:XK),Room k (A.deeper (envOfC qual scope s.heap.objs.size f cdv))→sp vs H Q E →
   ∃ t,PSs (cxOf CX P w K mg base N qual scope f cdv A outer s H E) body t∧t { nx:=fun _ H'=>Q .non H',rt:=Q } (start N vs) H) :
  FnOk P w K mg base CX (k+1) f (PySem.W.fnOf name qual params body scope dV kV doc pm an cdv ct) ps sp:=by
 refine ⟨len,fun A outer s H args us vs Q E hr e0 hb r hsp=>?_⟩
 have hl:=len _ _ _ _ hsp
 have KX:K.In s.heap:=e0.mod.kin.keeps fun b o e=>(e0.bs b o e).1
 have lim:s.heap.NoLimit:=e0.mod.nolimit.keeps fun b o e=>(e0.bs b o e).1
 have hkind:∀ y∈ps.zip us,scope.names.lookup y.1=some .local∨(scope.names.lookup y.1=some .cell∧((cellsFrom (s.heap.objs.size+1) scope.names []).lookup y.1).isSome=true):=fun zz40 hy=>by
  obtain ⟨n,v⟩:=zz40
  rcases S.par n (List.of_mem_zip hy).1 with q | q
  ·exact .inl q
  ·exact .inr ⟨q,PySem.W.cellsFrom_some _ _ _ (.inl q)⟩
 refine codeAny_call_function hr.depth (KX _ _ lk) rfl S.co S.gen rfl (PySem.W.codeRec_of KX hcd) (hb _ _ _ _ ?_)
 refine wpAny_newFunctionEnv_cells S.kind hkind fun env he s1 x=>?_
 subst he
 refine ⟨lim.keeps x.toInCall.keep,codeAny_func ?_⟩
 obtain ⟨t,ht,hq⟩:=hbody A outer s H vs Q E (hr.deeper _) hsp
 have I:Inv (cxOf CX P w K mg base N qual scope f cdv A outer s H E) [] (start N vs) H s1:=inv_start S hr.hd e0 hl r x
 refine wpAny_mono (ht [] s1 (start N vs) H _ I hq) (fun fl s' hs=>?_) fun e s' hs=>hs
 have fin:∀ {σ':St} {H':Hp} {v:V} {u:Value},Inv (cxOf CX P w K mg base N qual scope f cdv A outer s H E) [] σ' H' s'→RelV v u→Q v H'→CE outer P w H s Q u s':=
  fun {σ' H' v u} J rv q=>⟨v,H',J.os,J.bare,J.base,J.hok,rv,q⟩
 cases fl with
 | ret u=>
  obtain ⟨v,σ',H',J,rv,q⟩:=hs
  exact fin J rv q
 | next=>
  obtain ⟨σ',H',J,q⟩:=hs
  exact fin (v:=V.non) (u:=Value.none) J rfl q
 | brk=>
  obtain ⟨_,_,_,q⟩:=hs
  exact False.elim q
 | cont=>
  obtain ⟨_,_,_,q⟩:=hs
  exact False.elim q
end L2
namespace L2
open PySem PySem.Spec PyProof.Rows
section
variable {X:Cx} {x:Str} {p pos:Pos} {e:Expr} {es:List Expr} {t:TA} {id T:String} {r:List V→Hp→VK→Prop}
noncomputable def tCB (r:List V→Hp→VK→Prop) (t:TA):TE:=fun σ H Q=>t σ H fun vs H1=>r vs H1 Q
theorem pe_callB (hc:CallR X (.builtin id) r) (hg:Gl X x) (hm:X.mg x=none) (hv:bootBuiltins x=some (.builtin id)) (ha:PA X (e::es) t) (hn:x ≠ "__name__" := by decide) (hdb:(x == ("__debug__" : Str))=false:=by decide)
  (he:starEach (e::es) X.env=(false,eval e X.env)::starEach es X.env:=by rfl) (hpl:(backTo pos (starEach es X.env)).any (·.1)=false:=by rfl):PE X (.Call (.Name x p) (e::es) [] pos) (tCB r t):=by
 intro pins s σ H Q I h
 refine wpAny_Call_Name_kw (ld_blt I hg hm hv ?_ hn hdb)
 exact PyProof.Rows.callWith_builtin1 (thn (ha pos pins s σ H _ I h) fun us s1 zz41=>by obtain ⟨vs,H1,I1,r1,q1⟩:=zz41; exact hc pins s1 σ H1 vs us Q I1 r1 q1) he hpl
theorem pe_callTy (hc:CallR X (.type T) r) (hg:Gl X x) (hm:X.mg x=none) (hv:bootBuiltins x=some (.type T)) (ha:PA X (e::es) t) (hn:x ≠ "__name__" := by decide) (hdb:(x == ("__debug__" : Str))=false:=by decide)
  (he:starEach (e::es) X.env=(false,eval e X.env)::starEach es X.env:=by rfl) (hpl:(backTo pos (starEach es X.env)).any (·.1)=false:=by rfl):PE X (.Call (.Name x p) (e::es) [] pos) (tCB r t):=by
 intro pins s σ H Q I h
 refine wpAny_Call_Name_kw (ld_blt I hg hm hv ?_ hn hdb)
 exact PyProof.Rows.callWith_type1 (thn (ha pos pins s σ H _ I h) fun us s1 zz42=>by obtain ⟨vs,H1,I1,r1,q1⟩:=zz42; exact hc pins s1 σ H1 vs us Q I1 r1 q1) he hpl
end
end L2
namespace HT
open PySem PyProof.Rows
noncomputable def lexLt:List Int→List Int→Bool
 | [],[]=>false
 | [],_::_=>true
 | _::_,[]=>false
 | x::xs,y::ys=>if x=y then lexLt xs ys else decide (x<y)
section
open PySem.SeqAt
open PySem.AutoSeq1 (wpAny_loadPart')
open PySem.MeetsSeq PySem.MeetsSeq2 PySem.MeetsSeq3
end
section
variable {prog:Program} {w:World} {A:Around} {E:Value→Shared→Prop} {s:Shared}
noncomputable def sIx (n d:Nat):Option Int→Nat
 | none=>d
 | some v=>if v<0 then (v+(n:Int)).toNat else min v.toNat n
theorem sIx_none (n d:Nat):sIx n d none=d:=rfl
theorem sIx_nat (n d k:Nat):sIx n d (some (k:Int))=min k n:=by
 show (if (k:Int)<0 then ((k:Int)+(n:Int)).toNat else min (k:Int).toNat n)=min k n
 rw [if_neg (by omega),Int.toNat_natCast]
end
end HT
namespace L2
open PySem PySem.Spec PyProof.Rows
noncomputable abbrev TO:=St→Hp→(Option Int→Hp→Prop)→Prop
noncomputable def PO (X:Cx) (e:Option Expr) (t:TO):Prop:=
 ∀ (pins:List (Addr×Obj)) (s:Shared) (σ:St) (H:Hp) (Q:Option Int→Hp→Prop),Inv X pins σ H s→t σ H Q →
  wpAny (model X.prog X.w) X.A (evalPart e X.env) (fun u s'=>∃ o H',Inv X pins σ H' s'∧IsPart u o∧Q o H') X.xe s
noncomputable def tNoPart:TO:=fun _ H Q=>Q none H
noncomputable def tPart (t:TE):TO:=fun σ H Q=>t σ H fun x H1=>∃ i,x=.int i∧Q (some i) H1
section
variable {X:Cx} {e:Expr} {te:TE} {lo hi:Option Expr} {tl th:TO} {pos p2:Pos}
theorem po_none:PO X none tNoPart:=by
 intro pins s σ H Q I h
 rw [evalPart_none]
 exact wpAny_pure ⟨none,H,I,.none,h⟩
theorem po_some (h:PE X e te):PO X (some e) (tPart te):=by
 intro pins s σ H Q I hw
 rw [evalPart_some]
 refine thn (h pins s σ H _ I hw) fun u s1 zz43=>?_
 obtain ⟨x,H1,I1,r1,q1⟩:=zz43
 obtain ⟨i,rfl,q⟩:=q1
 obtain ⟨t,rfl⟩:=r1
 exact ⟨some i,H1,I1,.int i t,q⟩
noncomputable def SlR (X:Cx) (r:V→Option Int→Option Int→Hp→VK→Prop):Prop:=
 ∀ (pins:List (Addr×Obj)) (s:Shared) (σ:St) (H:Hp) (x:V) (v vl vu:Value) (lo hi:Option Int) (sl:Addr) (Q:VK),Inv X pins σ H s→RelV x v→s.heap.IsSliceOf sl vl vu .none→IsPart vl lo→IsPart vu hi→r x lo hi H Q →
  ∃ T id,typeLookup (.type T) "__getitem__" = pure (some (.builtin id))∧s.TypeIs v T∧wpAny (model X.prog X.w) X.A (getItem v (.ref sl)) (EP X pins σ Q) X.xe s
noncomputable def tSl (r:V→Option Int→Option Int→Hp→VK→Prop) (te:TE) (tl th:TO):TE:=fun σ H Q=>te σ H fun x H1=>tl σ H1 fun l H2=>th σ H2 fun u H3=>r x l u H3 Q
theorem pe_slice {r:V→Option Int→Option Int→Hp→VK→Prop} (hr:SlR X r) (he:PE X e te) (hl:PO X lo tl) (hu:PO X hi th):PE X (.Subscript e (.Slice lo hi none p2) pos) (tSl r te tl th):=by
 intro pins s σ H Q I h
 refine Subscript_ (thn (he pins s σ H _ I h) fun v s1 zz44=>?_)
 obtain ⟨x,H1,I1,r1,q1⟩:=zz44
 refine wpAny_Slice (thn (hl pins s1 σ H1 _ I1 q1) fun vl s2 ⟨l,H2,I2,pl,q2⟩=>thn (hu pins s2 σ H2 _ I2 q2) fun vu s3 zz46=>?_)
 obtain ⟨u,H3,I3,pu,q3⟩:=zz46
 rw [evalPart_none]
 refine wpAny_pure ?_
 have I4:Inv X pins σ H3 { s3 with heap:=s3.heap.push { cls:=.type "slice",data:=.fields #[vl,vu,.none] } }:=I3.kept (t':=s3.toks) fun b ob q=>Heap.get?_push_of_some _ q
 obtain ⟨T,id,hT,ht,hg⟩:=hr pins { s3 with heap:=s3.heap.push { cls:=.type "slice",data:=.fields #[vl,vu,.none] } } σ H3 x v vl vu l u s3.heap.objs.size Q I4 r1 (Heap.IsSliceOf.new ..) pl pu q3
 show wpAny (model X.prog X.w) X.A (subscriptTail e (.Slice lo hi none p2) v (.ref s3.heap.objs.size)) (EP X pins σ Q) X.xe { s3 with heap:=s3.heap.push { cls:=.type "slice",data:=.fields #[vl,vu,.none] } }
 exact tail_any (ops:=[.ref s3.heap.objs.size,v]) ht hT hg (by with_unfolding_all rfl)
noncomputable def cutV (xs:List V) (lo hi:Option Int):List V:=(xs.drop (HT.sIx xs.length 0 lo)).take (HT.sIx xs.length xs.length hi-HT.sIx xs.length 0 lo)
theorem cutV_length (xs:List V) (lo hi:Option Int):(cutV xs lo hi).length≤xs.length:=by
 unfold cutV
 rw [List.length_take,List.length_drop]
 omega
theorem Vals.nil_iff {xs:List V} {us:List Value} (r:Vals xs us):us = []↔xs = []:=by
 cases r with
 | nil=>simp
 | cons _ _=>simp
end
end L2
namespace L2
open PySem PySem.Spec PyProof.Rows
noncomputable def ixN (n:Nat) (i:Int):Option Nat:=if 0≤i then (if i<n then some i.toNat else none) else if -(n:Int)≤i then some (i+n).toNat else none
noncomputable def atI {α:Type} (xs:List α) (i:Int):Option α:=(ixN xs.length i).bind fun j=>xs[j]?
theorem ixN_seq {n:Nat} {i:Int} {j:Nat} (h:ixN n i=some j):seqIndex? i n=some j∧j<n ∧ -(n:Int)≤i∧i<n:=by
 unfold ixN at h
 by_cases h0:0≤i
 ·rw [if_pos h0] at h
  by_cases h1:i<n
  ·rw [if_pos h1] at h
   have e:i.toNat=j:=Option.some.inj h
   exact ⟨by rw [seqIndex_of h0 h1,e],by omega,by omega,h1⟩
  ·rw [if_neg h1] at h; cases h
 ·rw [if_neg h0] at h
  by_cases h1:-(n:Int)≤i
  ·rw [if_pos h1] at h
   have e:(i+n).toNat=j:=Option.some.inj h
   exact ⟨by rw [seqIndex_neg (by omega) h1,e],by omega,h1,by omega⟩
  ·rw [if_neg h1] at h; cases h
theorem atI_get {α:Type} {xs:List α} {i:Int} {v:α} (h:atI xs i=some v):∃ j,seqIndex? i xs.length=some j∧xs[j]?=some v∧j<xs.length ∧ -(xs.length:Int)≤i∧i<xs.length:=by
 unfold atI at h
 cases e:ixN xs.length i with
 | none=>rw [e] at h; cases h
 | some j=>
  rw [e] at h
  obtain ⟨h1,h2,h3,h4⟩:=ixN_seq e
  exact ⟨j,h1,h,h2,h3,h4⟩
theorem atI_nat {α:Type} {xs:List α} {j:Nat} {v:α} (h:xs[j]?=some v):atI xs (j:Int)=some v:=by
 have hj:j<xs.length:=(List.getElem?_eq_some_iff.mp h).1
 have e:ixN xs.length (j:Int)=some j:=by
  unfold ixN
  rw [if_pos (by omega),if_pos (by omega)]; simp
 unfold atI; rw [e]; exact h
noncomputable def PlainIx (b:Expr):Prop:=∀ o i,subscripted b false o i=operate [o,i] (getItem o i)
noncomputable def IxR (X:Cx) (r:R2):Prop:=
 ∀ (value slice:Expr) (pins:List (Addr×Obj)) (s:Shared) (σ:St) (H:Hp) (x y:V) (v u:Value) (Q:VK),Inv X pins σ H s→RelV x v→RelV y u→r x y H Q →
  subscripted slice false v u=operate [v,u] (getItem v u)→wpAny (model X.prog X.w) X.A (subscriptTail value slice v u) (EP X pins σ Q) X.xe s
noncomputable def MtR (X:Cx) (id:String) (r:V→List V→Hp→VK→Prop):Prop:=
 ∀ (pins:List (Addr×Obj)) (s:Shared) (σ:St) (H:Hp) (x:V) (xs:List V) (v:Value) (us:List Value) (Q:VK),Inv X pins σ H s→RelV x v→Vals xs us→r x xs H Q →
  wpAny (model X.prog X.w) X.A (call (.builtin id) (v::us)) (EP X pins σ Q) X.xe s
section
variable {X:Cx} {a b:Expr} {ta tb:TE} {pos:Pos}
theorem IxR.or {r r':R2} (h:IxR X r) (h':IxR X r'):IxR X (fun x y H Q=>r x y H Q∨r' x y H Q):=by
 intro value slice pins s σ H x y v u Q I rx ry q hs
 rcases q with q | q
 ·exact h value slice pins s σ H x y v u Q I rx ry q hs
 ·exact h' value slice pins s σ H x y v u Q I rx ry q hs
theorem pe_ix {r:R2} (hr:IxR X r) (ha:PE X a ta) (hb:PE X b tb) (hs:PlainIx b):PE X (.Subscript a b pos) (tOp r ta tb):=by
 intro pins s σ H Q I h
 exact Subscript_ (binT ha hb I h fun v u s2 x y H2 I2 rx ry q=>hr a b pins s2 σ H2 x y v u Q I2 rx ry q (hs _ _))
noncomputable def rIxL (K:PySem.W.Frag):R2:=fun x y H Q=>∃ p xs i v,x=.ref p∧y=.int i∧SqL K H p xs∧atI xs i=some v∧Q v H
noncomputable def rIxT (K:PySem.W.Frag):R2:=fun x y H Q=>∃ p xs i v,x=.ref p∧y=.int i∧SqT K H p xs∧atI xs i=some v∧Q v H
noncomputable def rIxS:R2:=fun x y H Q=>∃ z i c,x=.str z∧y=.int i∧z.length≤sizeLine∧atI z.cps.toList i=some c∧Q (.str ⟨#[c]⟩) H
theorem ix_list:IxR X (rIxL X.K):=by
 intro value slice pins s σ H x y v u Q I rx ry h hs
 obtain ⟨p,xs,i,z,rfl,rfl,hq,he,q⟩:=h
 cases rx
 obtain ⟨t,rfl⟩:=ry
 obtain ⟨its,r,pl,hz⟩:=I.list hq
 obtain ⟨j,h1,h2,h3,h4,h5⟩:=atI_get he
 obtain ⟨w,ew,rw'⟩:=r.get h2
 have hl:=r.length
 have hn:=line63
 have fin:EP X pins σ Q w s:=⟨z,H,I,rw',q⟩
 by_cases h0:0≤i
 ·have hj:i.toNat=j:=by
   rw [seqIndex_of h0 h5] at h1
   exact Option.some.inj h1
  exact item_listR pl.isList h0 (by omega) (by rw [hj]; simpa using ew) fin hs
 ·have hj:(i+(its.toArray.size:Int)).toNat=j:=by
   rw [seqIndex_neg (by omega) h4] at h1
   rw [List.size_toArray,← hl]
   exact Option.some.inj h1
  exact subscriptTail_builtinR (x:=w) pl.isList.typeIs slot_list_getitem.lookup
   (wpAny_getItem_list_neg (Q:=fun r s'=>r=w∧EP X pins σ Q r s') pl.isList (by omega) (by rw [List.size_toArray] <;> omega) (by omega) (by rw [hj]; simpa using ew) ⟨rfl,fin⟩) hs
theorem ix_tup:IxR X (rIxT X.K):=by
 intro value slice pins s σ H x y v u Q I rx ry h hs
 obtain ⟨p,xs,i,z,rfl,rfl,hq,he,q⟩:=h
 cases rx
 obtain ⟨t,rfl⟩:=ry
 obtain ⟨its,r,pl,hz⟩:=I.tuple hq
 obtain ⟨j,h1,h2,h3,h4,h5⟩:=atI_get he
 obtain ⟨w,ew,rw'⟩:=r.get h2
 have hl:=r.length
 have hn:=line63
 have fin:EP X pins σ Q w s:=⟨z,H,I,rw',q⟩
 exact subscriptTail_builtinR (x:=w) pl.typeIs slot_tuple_getitem.lookup
  (getItem_tuple (j:=j) (Q:=fun r s'=>r=w∧EP X pins σ Q r s') pl (by omega) (by omega) (by rw [List.size_toArray,← hl]; exact h1) (by simpa using ew) ⟨rfl,fin⟩) hs
theorem ix_str:IxR X rIxS:=by
 intro value slice pins s σ H x y v u Q I rx ry h hs
 obtain ⟨z,i,c,rfl,rfl,hz,he,q⟩:=h
 obtain ⟨t,rfl⟩:=rx
 obtain ⟨t',rfl⟩:=ry
 obtain ⟨j,h1,h2,h3,h4,h5⟩:=atI_get he
 have hl:z.cps.toList.length=z.length:=by simp [Str.length]
 rw [hl] at h1 h4 h5
 have hn:=line63
 exact tail_any (typeIs_str s z t) slot_str_getitem.lookup (getItem_str (c:=c) (by
  have e1:decide (i < -(2^63:Int))=false:=decide_eq_false (by omega)
  have e2:decide (i≥2^63)=false:=decide_eq_false (by omega)
  rw [e1,e2,Bool.or_false]) (by rw [h1]; simpa using h2) ⟨.str ⟨#[c]⟩,H,I.tok _,⟨_,rfl⟩,q⟩) hs
noncomputable def rIx (K:PySem.W.Frag):R2:=fun x y H Q=>rIxL K x y H Q∨rIxT K x y H Q∨rIxS x y H Q
theorem ix_seq:IxR X (rIx X.K):=ix_list.or (ix_tup.or ix_str)
theorem mapSeq_set (its:List Value) (n j:Nat) (u:Value):Obj.mapSeq (·.setIfInBounds j u) { cls:=.type "list",data:=.seq its.toArray n }={ cls:=.type "list",data:=.seq (its.set j u).toArray n }:=by
 simp [Obj.mapSeq]
theorem Inv.lst {pins:List (Addr×Obj)} {σ:St} {H:Hp} {s:Shared} {p:Addr} {xs:List V} (I:Inv X pins σ H s) (h:H p=some (.lst xs)) :
  ∃ (its:List Value) (n:Nat),Vals xs its∧s.heap.get? p=some { cls:=.type "list",data:=.seq its.toArray n }∧xs.length≤sizeLine:=by
 obtain ⟨z,its,n,r,e⟩:=I.hok p _ h
 exact ⟨its,n,r,e,z⟩
theorem Inv.lstUpd {pins:List (Addr×Obj)} {σ:St} {H:Hp} {s:Shared} {p:Addr} {xs ys:List V} {its its':List Value} {n n':Nat} {f:Obj→Obj} (I:Inv X pins σ H s) (h:H p=some (.lst xs))
  (ho:s.heap.get? p=some { cls:=.type "list",data:=.seq its.toArray n }) (hf:f { cls:=.type "list",data:=.seq its.toArray n }={ cls:=.type "list",data:=.seq its'.toArray n' }) (r:Vals ys its') (hz:ys.length≤sizeLine) (t:Nat) :
  Inv X pins σ (upd H p (.lst ys)) { s with heap:=s.heap.update p f,toks:=t }:=by
 have e:(s.heap.update p f).get? p=some { cls:=.type "list",data:=.seq its'.toArray n' }:=by
  rw [Heap.get?_update_self f ho (by rw [hf] <;> rfl),hf]
 refine I.write (x:=p) (e:=p) (by rw [h]; trivial) (.inl rfl) (fun b u hb q=>(Heap.get?_update_other _ _ (Ne.symm hb)).trans q) ⟨_,e⟩ ?_
 exact ⟨hz,its',n',r,e⟩
noncomputable def rSetL:V→V→V→Hp→(Hp→Prop)→Prop:=fun o i v H Q=>∃ p xs k j,o=.ref p∧i=.int k∧H p=some (.lst xs)∧ixN xs.length k=some j∧Q (upd H p (.lst (xs.set j v)))
theorem set_list:PSet X rSetL:=by
 intro pins s σ H o i v ov iv u Q I ro ri rv h
 obtain ⟨p,xs,k,j,rfl,rfl,hp,hj,q⟩:=h
 cases ro
 obtain ⟨t,rfl⟩:=ri
 obtain ⟨its,n,r,ho,hz⟩:=I.lst hp
 obtain ⟨h1,h2,h3,h4⟩:=ixN_seq hj
 have hl:=r.length
 have hn:=line63
 have I':Inv X pins σ (upd H p (.lst (xs.set j v))) { s with heap:=s.heap.update p (Obj.mapSeq (·.setIfInBounds j u)) }:=
  I.lstUpd hp ho (mapSeq_set its n j u) (r.set rv j) (by rw [List.length_set]; exact hz) s.toks
 by_cases h0:0≤k
 ·have hk:k.toNat=j:=by
   rw [seqIndex_of h0 h4] at h1
   exact Option.some.inj h1
  exact PySem.W.ki_setAt ho h0 (by omega) (by rw [List.size_toArray,← hl]; exact h4) (by rw [hk]; exact ⟨_,I',q⟩)
 ·have hk:(k+(its.toArray.size:Int)).toNat=j:=by
   rw [seqIndex_neg (by omega) h3] at h1
   rw [List.size_toArray,← hl]
   exact Option.some.inj h1
  exact PySem.W.ki_setBack ho (by omega) (by rw [List.size_toArray,← hl]; exact h3) (by omega) (by rw [hk]; exact ⟨_,I',q⟩)
theorem slice_bounds (lo hi:Option Int) (n:Nat):(sliceBounds lo hi none n).1=((HT.sIx n 0 lo:Nat):Int)∧(sliceBounds lo hi none n).2.1=((HT.sIx n n hi:Nat):Int)∧(sliceBounds lo hi none n).2.2=1:=by
 refine ⟨?_,?_,rfl⟩
 ·cases lo with
  | none=>simp [sliceBounds,HT.sIx]
  | some i=>
   simp only [sliceBounds,HT.sIx,Option.getD_none,show (1:Int)>0 by decide,if_true]
   by_cases h:i<0
   ·simp only [h,if_true] <;> omega
   ·simp only [h,if_false] <;> omega
 ·cases hi with
  | none=>simp [sliceBounds,HT.sIx]
  | some i=>
   simp only [sliceBounds,HT.sIx,Option.getD_none,show (1:Int)>0 by decide,if_true]
   by_cases h:i<0
   ·simp only [h,if_true] <;> omega
   ·simp only [h,if_false] <;> omega
theorem slicePick_cut (its:List Value) (lo hi:Option Int):slicePick its.toArray lo hi none=((its.drop (HT.sIx its.length 0 lo)).take (HT.sIx its.length its.length hi-HT.sIx its.length 0 lo)).toArray:=by
 obtain ⟨h1,h2,h3⟩:=slice_bounds lo hi its.toArray.size
 unfold slicePick
 rw [h1,h2,h3]
 simp only [sliceRange_one,pick_run,List.size_toArray] <;> rfl
noncomputable def rSlL (K:PySem.W.Frag):V→Option Int→Option Int→Hp→VK→Prop:=fun x lo hi H Q=>∃ a xs,x=.ref a∧SqL K H a xs∧∀ p,H p=none→Q (.ref p) (upd H p (.lst (cutV xs lo hi)))
theorem sl_list:SlR X (rSlL X.K):=by
 intro pins s σ H x v vl vu lo hi sl Q I rx hs pl pu h
 obtain ⟨a,xs,rfl,hx,q⟩:=h
 cases rx
 obtain ⟨its,r,ht,hz⟩:=I.list hx
 have hlen:=r.length
 refine ⟨"list",_,slot_list_getitem.lookup,ht.isList.typeIs,?_⟩
 refine wpAny_getItem_list_slice ht.isList hs pl pu .none (by simp) ?_ (by rw [List.size_toArray] <;> omega)
 rw [slicePick_cut,← hlen]
 refine ⟨.ref s.heap.objs.size,_,I.laid (t':=s.toks) (o:=.lst (cutV xs lo hi)) (fun b ob q=>Heap.get?_push_of_some _ q) (Nat.le_refl _) ?_,rfl,q _ (I.hok.fresh (Nat.le_refl _))⟩
 exact ⟨Nat.le_trans (cutV_length xs lo hi) hz,_,0,(r.drop (HT.sIx xs.length 0 lo)).take (HT.sIx xs.length xs.length hi-HT.sIx xs.length 0 lo),Heap.get?_push_size _ rfl⟩
theorem call_len_seq:CallR X (.builtin "len") (fun xs H Q=>∃ p ys,xs = [.ref p]∧(SqL X.K H p ys∨SqT X.K H p ys)∧Q (.int ys.length) H):=by
 intro pins s σ H xs us Q I r h
 obtain ⟨p,ys,rfl,hq,q⟩:=h
 obtain ⟨u,rfl,rx⟩:=vals1 r
 cases rx
 have hn:=line63
 rcases hq with hq | hq
 ·obtain ⟨its,r',pl,hz⟩:=I.list hq
  have hlen:=r'.length
  exact Calls.call_len_list pl.isList (by simp only [List.size_toArray] <;> omega) ⟨.int ys.length,H,I.tok _,⟨s.toks+1,by rw [List.size_toArray,hlen]⟩,q⟩
 ·obtain ⟨its,r',pl,hz⟩:=I.tuple hq
  have hlen:=r'.length
  exact len_tuple pl (by simp only [List.size_toArray] <;> omega) ⟨.int ys.length,H,I.tok _,⟨s.toks+1,by rw [List.size_toArray,hlen]⟩,q⟩
theorem call_list_of:CallR X (.type "list") (fun xs H Q=>∃ p ys,xs = [.ref p]∧(SqL X.K H p ys∨SqT X.K H p ys)∧∀ l,H l=none→Q (.ref l) (upd H l (.lst ys))):=by
 intro pins s σ H xs us Q I r h
 obtain ⟨p,ys,rfl,hq,q⟩:=h
 obtain ⟨u,rfl,rx⟩:=vals1 r
 cases rx
 have fin:∀ (its:List Value),Vals ys its→ys.length≤sizeLine→∀ (h':Heap) (c':Nat),(∀ b o',s.heap.get? b=some o'→h'.get? b=some o') →
   h'.get? s.heap.objs.size=some { cls:=.type "list",dict:=none,data:=.seq its.toArray c',slots:=#[] }→EP X pins σ Q (.ref s.heap.objs.size) { s with heap:=h' }:=fun its r' hz h' c' kp e=>
  ⟨.ref s.heap.objs.size,_,I.laid (t':=s.toks) kp (Nat.le_refl _) (show ObjOk X.prog X.w _ h' _ (.lst ys) from ⟨hz,its,c',r',e⟩),rfl,q _ (I.hok.fresh (Nat.le_refl _))⟩
 rcases hq with hq | hq
 ·obtain ⟨its,r',pl,hz⟩:=I.list hq
  have hlen:=r'.length
  obtain ⟨o,ho,hc,n,hd⟩:=pl.isList
  exact call_list_seq p (.inl rfl) ho hc hd (fun h' c' kp e=>fin its r' hz h' c' kp e) (by simp only [List.size_toArray] <;> omega)
 ·obtain ⟨its,r',pl,hz⟩:=I.tuple hq
  have hlen:=r'.length
  obtain ⟨o,ho,hc,n,hd⟩:=pl
  exact call_list_seq p (.inr rfl) ho hc hd (fun h' c' kp e=>fin its r' hz h' c' kp e) (by simp only [List.size_toArray] <;> omega)
theorem call_tuple_of:CallR X (.type "tuple") (fun xs H Q=>∃ p ys,xs = [.ref p]∧((SqL X.K H p ys∧∀ l,H l=none→Q (.ref l) (upd H l (.tup ys)))∨(SqT X.K H p ys∧Q (.ref p) H))):=by
 intro pins s σ H xs us Q I r h
 obtain ⟨p,ys,rfl,h⟩:=h
 obtain ⟨u,rfl,rx⟩:=vals1 r
 cases rx
 rcases h with ⟨hq,q⟩ | ⟨hq,q⟩
 ·obtain ⟨its,r',pl,hz⟩:=I.list hq
  have hlen:=r'.length
  refine call_tuple_list pl.isList (fun h' kp=>?_) (by simp only [List.size_toArray] <;> omega)
  have I1:Inv X pins σ H { s with heap:=h' }:=I.kept (t':=s.toks) kp
  have I2:Inv X pins σ (upd H h'.objs.size (.tup ys)) { s with heap:=h'.push { cls:=.type "tuple",data:=.seq its.toArray } }:=
   I1.laid (t':=s.toks) (fun b o e=>Heap.get?_push_of_some _ e) (Nat.le_refl _) (show ObjOk X.prog X.w _ _ _ (.tup ys) from ⟨hz,its,r',IsTup.new _ _⟩)
  exact ⟨.ref h'.objs.size,_,I2,rfl,q _ (I1.hok.fresh (Nat.le_refl _))⟩
 ·obtain ⟨its,r',pl,hz⟩:=I.tuple hq
  exact call_tuple_same pl ⟨.ref p,H,I,rfl,q⟩
noncomputable def tyV (K:PySem.W.Frag) (T:String) (x:V) (H:Hp):Prop:=match x with
 | .str _=>T = "str"
 | .int _=>T = "int"
 | .ref p=>(T = "list" ∧ ∃ xs,SqL K H p xs)∨(T = "tuple" ∧ ∃ o,K.lookup p=some o∧o.cls=.type "tuple" ∧ o.dict=none) ∨
   (T = "dict" ∧ ((∃ kvs,H p=some (.dK kvs))∨∃ kvs,H p=some (.dT kvs)))∨(T = "set" ∧ ∃ S n,H p=some (.set S n))
 | _=>False
theorem tyV_is {pins:List (Addr×Obj)} {σ:St} {H:Hp} {s:Shared} {T:String} {x:V} {v:Value} (I:Inv X pins σ H s) (r:RelV x v) (ty:tyV X.K T x H) :
  s.TypeIs v T∧∀ a,v=.ref a→∃ ob,s.heap.get? a=some ob∧ob.dict=none:=by
 cases x with
 | str z=>
  obtain ⟨t,rfl⟩:=r
  cases (show T = "str" from ty)
  exact ⟨typeIs_str s z t,fun _ e=>nomatch e⟩
 | int i=>
  obtain ⟨t,rfl⟩:=r
  cases (show T = "int" from ty)
  exact ⟨typeIs_int s i t,fun _ e=>nomatch e⟩
 | ref p=>
  cases r
  rcases ty with ⟨rfl,xs,hq⟩ | ⟨rfl,o,hk,hc,hd⟩ | ⟨rfl,hk⟩ | ⟨rfl,S,n,hk⟩
  ·obtain ⟨its,_,pl,_⟩:=I.list hq
   refine ⟨pl.isList.typeIs,fun a e=>?_⟩
   cases e
   obtain ⟨o,n,e,c,hd,_⟩:=pl
   exact ⟨o,e,hd⟩
  ·refine ⟨⟨o,I.kIn p o hk,hc⟩,fun a e=>?_⟩
   cases e
   exact ⟨o,I.kIn _ o hk,hd⟩
  ·have z:∃ o,s.heap.get? p=some o∧o.ExactDict:=by
    rcases hk with ⟨kvs,hk⟩ | ⟨kvs,hk⟩
    ·obtain ⟨_,_,_,_,o,_,_,e,ex,_⟩:=I.hok p _ hk
     exact ⟨o,e,ex⟩
    ·obtain ⟨_,_,_,_,o,_,_,e,ex,_⟩:=I.hok p _ hk
     exact ⟨o,e,ex⟩
   obtain ⟨o,e,ex⟩:=z
   refine ⟨⟨o,e,ex.1⟩,fun a e2=>?_⟩
   cases e2
   exact ⟨o,e,ex.2.1⟩
  ·obtain ⟨o,_,_,_,e,ex,_⟩:=I.hok p _ hk
   refine ⟨⟨o,e,ex.1⟩,fun a e2=>?_⟩
   cases e2
   exact ⟨o,e,ex.2.1⟩
 | _=>exact False.elim ty
noncomputable def tBM0 (K:PySem.W.Frag) (T:String) (r:V→List V→Hp→VK→Prop) (to:TE):TE:=fun σ H Q=>to σ H fun x H1=>tyV K T x H1∧r x [] H1 Q
noncomputable def tBM (K:PySem.W.Frag) (T:String) (r:V→List V→Hp→VK→Prop) (to:TE) (t:TA):TE:=fun σ H Q=>to σ H fun x H1=>tyV K T x H1∧t σ H1 fun xs H2=>r x xs H2 Q
variable {o e:Expr} {es:List Expr} {to:TE} {t:TA} {name:Str} {apos cpos:Pos} {T id:String} {r:V→List V→Hp→VK→Prop}
theorem pe_bm0 (pa:PlainAttrs T) (slot:Slot T name id) (hty:typeOf (.builtin id)=pure (.type "method_descriptor")) (hm:MtR X id r) (ho:PE X o to)
  (hbase:attributeBase o name X.env (eval o X.env)=eval o X.env:=by rfl) (hline:(apos.endLine == cpos.line)=true:=by rfl):PE X (.Call (.Attribute o name apos) [] [] cpos) (tBM0 X.K T r to):=by
 intro pins s σ H Q I h
 refine wpAny_Call_method0_late hbase hline (thn (ho pins s σ H _ I h) fun v s1 zz47=>?_)
 obtain ⟨x,H1,I1,r1,ty,q1⟩:=zz47
 obtain ⟨h1,h2⟩:=tyV_is I1 r1 ty
 exact ⟨T,id,pa,slot,hty,h1,h2,Calls.callWith_builtin rfl (PySem.evalArgs_none (hm pins s1 σ H1 x [] v [] Q I1 r1 .nil q1))⟩
theorem pe_bm (pa:PlainAttrs T) (slot:Slot T name id) (hty:typeOf (.builtin id)=pure (.type "method_descriptor")) (hm:MtR X id r) (ho:PE X o to) (ha:PA X (e::es) t)
  (hbase:attributeBase o name X.env (eval o X.env)=eval o X.env:=by rfl)
  (hfew:((backTo cpos (starEach (e::es) X.env)).all (fun x=>!x.1)&&(backToKw cpos (keywordEach [] X.env)).all (fun x=>x.1.isSome)
   && decide ((e::es).length+([]:List Keyword).length+(if ([]:List Keyword).isEmpty then 0 else 1)<30))=true:=by rfl)
  (hline:(apos.endLine == cpos.line)=true:=by rfl) (hs:starEach (e::es) X.env=(false,eval e X.env)::starEach es X.env:=by rfl) (hplain:(backTo cpos (starEach es X.env)).any (·.1)=false:=by rfl) :
  PE X (.Call (.Attribute o name apos) (e::es) [] cpos) (tBM X.K T r to t):=by
 intro pins s σ H Q I h
 refine wpAny_Call_method_late hbase hfew hline rfl (thn (ho pins s σ H _ I h) fun v s1 zz48=>?_)
 obtain ⟨x,H1,I1,r1,ty,q1⟩:=zz48
 obtain ⟨h1,h2⟩:=tyV_is I1 r1 ty
 refine ⟨T,id,pa,slot,hty,h1,h2,?_⟩
 have hA:=ha cpos pins s1 σ H1 _ I1 q1
 rw [hs] at hA ⊢
 refine Calls.callWith_builtin (by show (false||(backTo cpos (starEach es X.env)).any (·.1))=false; rw [hplain] <;> rfl) (Calls.evalArgs_plain ?_)
 exact thn hA fun us s2 zz49=>by obtain ⟨vs,H2,I2,r2,q2⟩:=zz49; exact hm pins s2 σ H2 x vs v us Q I2 r1 r2 q2
end
end L2
namespace L2
open PySem PySem.Spec PyProof.Rows
noncomputable def MtM (X:Cx) (id:String) (r:V→List V→Hp→VK→Prop):Prop:=
 ∀ (pins:List (Addr×Obj)) (s:Shared) (σ:St) (H:Hp) (x:V) (xs:List V) (v:Value) (us:List Value) (Q:VK),Inv X pins σ H s→RelV x v→Vals xs us→r x xs H Q →
  wpAny (model X.prog X.w) X.A (call (.builtin id) (v::us)) (EP X pins σ Q) X.xe s
theorem Vals.one:∀ {x:V} {us:List Value},Vals [x] us→∃ u,us = [u]∧RelV x u
 | _,_,.cons r .nil=>⟨_,rfl,r⟩
theorem Vals.zero:∀ {us:List Value},Vals [] us→us = []
 | _,.nil=>rfl
theorem Vals.reverse {xs:List V} {us:List Value} (h:Vals xs us):Vals xs.reverse us.reverse:=by
 induction h with
 | nil=>exact .nil
 | cons r t ih=>rw [List.reverse_cons,List.reverse_cons]; exact Vals.append ih (.cons r .nil)
theorem Vals.rep {xs:List V} {us:List Value} (h:Vals xs us):∀ k:Nat,Vals (List.replicate k xs).flatten (List.replicate k us).flatten
 | 0=>.nil
 | k+1=>by
  rw [List.replicate_succ,List.replicate_succ,List.flatten_cons,List.flatten_cons]
  exact Vals.append h (Vals.rep h k)
theorem foldl_rep (its:List Value):∀ (k:Nat) (acc:List Value),
  List.foldl (fun x1 x2=>x1++x2) acc.toArray (List.replicate k its.toArray)=(acc++(List.replicate k its).flatten).toArray
 | 0,acc=>by simp
 | k+1,acc=>by
  have e:acc.toArray++its.toArray=(acc++its).toArray:=by simp
  have e2:(acc++its)++(List.replicate k its).flatten=acc++(List.replicate (k+1) its).flatten:=by
   rw [List.replicate_succ,List.flatten_cons,List.append_assoc]
  rw [← e2,← foldl_rep its k (acc++its),← e,List.replicate_succ,List.foldl_cons]
section
variable {X:Cx} {pins:List (Addr×Obj)} {σ:St} {H:Hp} {s:Shared} {l b:Addr} {xs ys zs:List V}
theorem Inv.lset {its its':List Value} {n:Nat} {f:Array Value→Array Value} {t':Nat} (I:Inv X pins σ H s) (hH:H l=some (.lst xs))
  (e:s.heap.get? l=some { cls:=.type "list",data:=.seq its.toArray n }) (hf:f its.toArray=its'.toArray) (hv:Vals ys its') (hz:ys.length≤sizeLine) :
  Inv X pins σ (upd H l (.lst ys)) { s with heap:=s.heap.update l (Obj.mapSeq f),toks:=t' }:=by
 have q:=PySem.IsL.update e f
 rw [hf] at q
 refine I.write (x:=l) (e:=l) (by rw [hH]; exact trivial) (.inl rfl) (fun b' u hb hu=>(Heap.get?_update_other s.heap (Obj.mapSeq f) (Ne.symm hb)).trans hu) ⟨_,q⟩ ?_
 exact ⟨hz,its',_,hv,q⟩
theorem Inv.lnew {its:List Value} {t':Nat} (I:Inv X pins σ H s) (hv:Vals ys its) (hz:ys.length≤sizeLine) :
  Inv X pins σ (upd H s.heap.objs.size (.lst ys)) { s with heap:=s.heap.push { cls:=.type "list",data:=.seq its.toArray },toks:=t' }:=
 I.laid (fun _ _ q=>Heap.get?_push_of_some _ q) (Nat.le_refl _) ⟨hz,its,0,hv,Heap.get?_push_size _ rfl⟩
theorem Inv.fresh (I:Inv X pins σ H s):H s.heap.objs.size=none:=I.hok.fresh (Nat.le_refl _)
theorem Inv.lstM (I:Inv X pins σ H s) (hH:H l=some (.lst xs)):xs.length≤sizeLine∧∃ (its:List Value) (n:Nat),Vals xs its∧xs.length=its.length∧s.heap.get? l=some { cls:=.type "list",data:=.seq its.toArray n }:=by
 obtain ⟨z,its,n,r,e⟩:=I.hok l _ hH
 exact ⟨z,its,n,r,r.length,e⟩
theorem notLongL {n:Nat} (h:n≤sizeLine):Builtin.List.listTooLong n=false:=by
 unfold Builtin.List.listTooLong
 exact decide_eq_false (by omega)
end
section
variable {X:Cx}
noncomputable def rAppend:V→List V→Hp→VK→Prop:=fun x vs H Q=>∃ l xs y,x=.ref l∧vs = [y]∧H l=some (.lst xs)∧xs.length<sizeLine∧Q .non (upd H l (.lst (xs ++ [y])))
theorem mt_append:MtM X "list.append" rAppend:=by
 intro pins s σ H x vs v us Q I rx rv h
 obtain ⟨l,xs,y,rfl,rfl,hH,hz,q⟩:=h
 cases rx
 obtain ⟨u,rfl,ru⟩:=rv.one
 obtain ⟨z,its,n,r,hl,e⟩:=I.lstM hH
 refine call_meets F.slot_list_append ⟨_,e,rfl⟩ F.entry_list_append (F.args_list_append_2 _ _) (PySem.list_append l its.toArray n u (by rw [List.size_toArray]; omega)) ⟨e,?_⟩
 refine ⟨.non,_,I.lset (its':=its ++ [u]) hH e (by simp) (r.append (.cons ru .nil)) ?_,rfl,q⟩
 rw [List.length_append,List.length_singleton]
 omega
noncomputable def rReverse:V→List V→Hp→VK→Prop:=fun x vs H Q=>∃ l xs,x=.ref l∧vs = []∧H l=some (.lst xs)∧Q .non (upd H l (.lst xs.reverse))
theorem mt_reverse:MtM X "list.reverse" rReverse:=by
 intro pins s σ H x vs v us Q I rx rv h
 obtain ⟨l,xs,rfl,rfl,hH,q⟩:=h
 cases rx
 have hus:=rv.zero
 subst hus
 obtain ⟨z,its,n,r,hl,e⟩:=I.lstM hH
 refine call_meets F.slot_list_reverse ⟨_,e,rfl⟩ F.entry_list_reverse (F.args_list_reverse_1 _) (AutoSeq1.list_reverse_list_0 l its.toArray n (by rw [List.size_toArray]; omega)) ⟨e,?_⟩
 refine ⟨.non,_,I.lset (its':=its.reverse) hH e (by simp) r.reverse ?_,rfl,q⟩
 rw [List.length_reverse]
 omega
noncomputable def rCat:R2:=fun x y H Q=>∃ l b xs zs,x=.ref l∧y=.ref b∧H l=some (.lst xs)∧H b=some (.lst zs)∧xs.length+zs.length≤sizeLine∧∀ p,H p=none→Q (.ref p) (upd H p (.lst (xs++zs)))
theorem op_cat:OpR X (binaryOp .Add) rCat:=by
 intro pins s σ H x y v u Q I rx ry h
 obtain ⟨l,b,xs,zs,rfl,rfl,hH,hB,hz,q⟩:=h
 cases rx
 cases ry
 obtain ⟨z,its,n,r,hl,e⟩:=I.lstM hH
 obtain ⟨z2,its2,n2,r2,hl2,e2⟩:=I.lstM hB
 refine PySem.P.add_list e e2 ?_ (by rw [List.size_toArray,List.size_toArray]; omega)
 have ea:its.toArray++its2.toArray=(its++its2).toArray:=by simp
 rw [ea]
 exact ⟨.ref _,_,I.lnew (t':=s.toks) (r.append r2) (by rw [List.length_append]; omega),rfl,q _ I.fresh⟩
noncomputable def rRep:R2:=fun x y H Q=>∃ l k xs,x=.ref l∧y=.int k∧H l=some (.lst xs) ∧ -(2^63)≤k∧k<2^63∧xs.length*k.toNat≤sizeLine ∧
 ∀ p,H p=none→Q (.ref p) (upd H p (.lst (List.replicate k.toNat xs).flatten))
theorem len_rep {α:Type} (xs:List α) (k:Nat):(List.replicate k xs).flatten.length=k*xs.length:=by
 induction k with
 | zero=>simp
 | succ k ih=>rw [List.replicate_succ,List.flatten_cons,List.length_append,ih,Nat.succ_mul,Nat.add_comm]
theorem op_rep:OpR X (binaryOp .Mult) rRep:=by
 intro pins s σ H x y v u Q I rx ry h
 obtain ⟨l,k,xs,rfl,rfl,hH,h1,h2,hz,q⟩:=h
 cases rx
 obtain ⟨t,rfl⟩:=ry
 obtain ⟨z,its,n,r,hl,e⟩:=I.lstM hH
 have hlen:its.toArray.size*k.toNat≤sizeLine:=by rw [List.size_toArray,← hl]; exact hz
 have hcap:¬ its.toArray.size*k.toNat>(2^63-1)/8:=by
  have:(sizeLine:Nat)≤(2^63-1)/8:=by decide
  omega
 have hfit:¬ (!Builtin.List.listFitsIndex k)=true:=by
  rw [fitsIndex_both h1 h2]
  exact Bool.false_ne_true
 have hlong:¬ Builtin.List.listTooLong (its.toArray.size*k.toNat)=true:=by
  rw [notLongL hlen]
  exact Bool.false_ne_true
 have hnew:List.foldl (fun x1 x2=>x1++x2) #[] (List.replicate (if its.toArray.isEmpty=true then 0 else k.toNat) its.toArray)=(List.replicate k.toNat its).flatten.toArray:=by
  have f0:∀ m:Nat,List.foldl (fun x1 x2=>x1++x2) #[] (List.replicate m its.toArray)=(List.replicate m its).flatten.toArray:=fun m=>by
   have:=foldl_rep its m []
   rw [List.nil_append] at this
   exact this
  rw [f0]
  cases its with
  | nil=>simp
  | cons a r'=>rw [if_neg (by simp)]
 refine wpAny_binaryOp_repeat_ref (T := "list") (U := "int") (by decide) ⟨_,e,rfl⟩ (fun s'=>typeIs_int s' k t) noFill_list_mul F.fills_int_mul F.slot_int_rmul repeat_list F.slot_int_index.lookup
  (call_meets F.slot_int_rmul (typeIs_int s k t) F.entry_int_rmul (F.args_int_rmul_2 _ _) (int___rmul___int_list k t l its.toArray n)
   ⟨e,rfl,⟨_,e,rfl⟩,call_meets F.slot_list_mul ⟨_,e,rfl⟩ F.entry_list_mul (F.args_list_mul_2 _ _) (AutoListH.list___mul___list_int_3 l its.toArray n k t hfit hcap hlong) ⟨e,?_⟩⟩)
 rw [hnew]
 exact ⟨.ref _,_,I.lnew (t':=s.toks) (r.rep k.toNat) (by rw [len_rep,Nat.mul_comm]; exact hz),rfl,q _ I.fresh⟩
end
section
variable {prog:Program} {w:World} {A:Around} {E:Value→Shared→Prop} {s:Shared}
end
section
variable {X:Cx}
end
end L2
namespace Att
open PySem PySem.W PySem.Calls PyProof.Rows
theorem ints_of_wellAll {P:Params} {h:Heap}:∀ (ns:List Int) (vs:List Value),WellAll P h vs (ns.map WData.int)→IntsAre vs ns:=by
 intro ns
 induction ns with
 | nil=>
  intro vs w
  rw [List.map_nil] at w
  cases w
  exact .nil
 | cons n ns ih=>
  intro vs w
  rw [List.map_cons] at w
  cases w with
  | cons a b=>
   cases a
   exact .cons _ _ (ih _ b)
theorem script_of {l:OpenLaw} {n:Nat} (hn:l.most=some n) {P:Params} {h:Heap} {args:List WData} {vals:List Value}
  (hpre:l.row.toRowW.claim.pre args=true) (hwl:WellAll P h vals args) :
  ∃ a vs ns,vals = [Value.ref a]∧args = [WData.list (ns.map WData.int)]∧h.get? a=some { cls:=.type "list",data:=.seq vs.toArray }∧IntsAre vs ns∧ns.length≤n:=by
 have hsh:WShape.hasAll [] args [.list .int]=true:=(pre_splitW hpre).1
 have hc:l.pre.holds [] { args:=args }=true:=(pre_splitW hpre).2
 obtain ⟨d,r,rfl,h1,h2⟩:=hasAllW_cons hsh
 obtain rfl:=hasAllW_nil h2
 obtain ⟨xs,rfl,h3⟩:=hasW_list h1
 obtain ⟨ns,rfl⟩:=items_int h3
 have hlen:ns.length≤n:=by
  unfold OpenLaw.pre at hc
  have h4:(WTm.not (.lt (.lit (.int (n:Int))) (.len (.arg 0)))).holds [] { args:=[.list (ns.map .int)] }=true:=by
   have h4:=(holds_andW hc).1
   rw [hn] at h4
   exact h4
  have h5:=condW_of h4 (w_not (w_lt w_lit (w_len_list (w_arg rfl))))
  rw [List.length_map] at h5
  refine Nat.le_of_not_lt fun q=>?_
  have q':(n:Int)<((ns.length:Nat):Int):=by omega
  first
   | (rw [decide_eq_true q'] at h5; exact absurd h5 (by decide))
   | (simp at h5; omega)
 cases hwl with
 | cons w1 w2=>
  cases w2
  cases w1 with
  | list ho hall=>exact ⟨_,_,ns,rfl,rfl,ho,ints_of_wellAll ns _ hall,hlen⟩
theorem post_true (l:OpenLaw) (args:List WData):l.row.toRowW.claim.post args (.bool true) args=true:=
 postW_of (r:=l.row.toRowW) (X:=(true == true))
  (show WShape.has [] (.bool true) .bool=true by first | rfl | decide | simp [WShape.has,WShape.arms,WShape.armsAll])
  (show (WTm.eq .res (.lit (.bool true))).value [] { args:=args,res:=some (.bool true),after:=args }=some (.bool (true == true)) from w_eq_bool (w_res rfl) w_lit) rfl
theorem attach_call {l:OpenLaw} {n:Nat} {q:Program} {loose:List Str} {XP:(Str→Option Value)→Heap→Prop} {YP:World→Heap→Prop} {d:DefRec}
  (hn:l.most=some n) (hdf:d.params.defaults = [])
  (call:∀ (w:World) (s₀ s₁:Shared) (mg mb:Str→Option Value) (fa:Addr) (o:Obj) (pm cd doc:Value) (a:Addr) (vs:List Value) (ns:List Int),
   Ground q loose [] XP w s₀ mg mb s₁.heap→YP w s₁.heap →
   s₁.heap.get? fa=some o→o.data=.func (docDef d.name d.params d.body d.scope pm cd doc)→s₁.heap.CodeRec cd d.name→mg d.name=some (.ref fa) →
   s₁.heap.get? a=some { cls:=.type "list",data:=.seq vs.toArray }→IntsAre vs ns→ns.length≤n→s₁.gens=#[] →
   codeAny (model l.prog w) callerA (.call (.ref fa) ⟨[.ref a],[]⟩) (fun r s'=>r=.ok (.ret (.bool true))∧OldK s₁.heap s'.heap∧s'.os=s₁.os∧AllBare s'.gens) s₁) :
  WalkO q loose XP YP l.row.toRowW d [] (fun f vs=>PySem.call f vs):=by
 intro w s₀ s₁ mg mb G Y fa o pm cd doc dV kV ho hd hcd hD hmg hg args vals as hpre hlay hrd hwl hlo
 obtain rfl:dV=.none:=Dflts.none hD hdf
 obtain rfl:kV=.none:=Dflts.noKw hD
 obtain ⟨a,vs,ns,rfl,rfl,hobj,hints,hlen⟩:=script_of hn hpre hwl
 refine enter_call (codeAny_mono (call w s₀ s₁ mg mb fa o pm cd doc a vs ns G Y ho (fd_plain hd) hcd hmg hobj hints hlen hg) fun r s' hq=>?_)
 obtain ⟨rfl,h2,h3,h4⟩:=hq
 exact ⟨.inl ⟨.bool true,.bool true,[],rfl,fun _=>rfl,.bool true,post_true l _,fun _=>⟨List.Pairwise.nil,fun _ hm=>(nomatch hm)⟩⟩,h2,h3,h4⟩
section
variable {prog:Program} {w:World} {A:Around} {E:Value→Shared→Prop} {s:Shared} {K:Frag}
end
end Att
namespace L2
open PySem PySem.Spec PyProof.Rows
theorem vals_ints:∀ {vs:List Value} {ns:List Int},IntsAre vs ns→Vals (ns.map V.int) vs
 | _,_,.nil=>.nil
 | _,_,.cons n t h=>.cons ⟨t,rfl⟩ (vals_ints h)
noncomputable def Only (H:Hp):Prop:=∀ b,H b=none∨∃ o xs,H b=some (.frz o (.lst xs))
theorem law_call {P:Program} {w:World} {K:PySem.W.Frag} {mg mb:Str→Option Value} {CX:CXT} {k:Nat} {fa a:Addr} {fd:FuncData} {x:Str} {sp:Sp} {s₁:Shared} {vs:List Value} {ns:List Int}
  (KX:K.In s₁.heap) (hns:s₁.heap.Ns mainGlobals mg) (hb:s₁.heap.Ns builtinsNs mb) (hbb:∀ x:Str,x ≠ "__name__" → mb x=bootBuiltins x) (hlim:s₁.heap.NoLimit) (hg:s₁.gens=#[])
  (ha:s₁.heap.get? a=some { cls:=.type "list",data:=.seq vs.toArray }) (hi:IntsAre vs ns) (hl:ns.length≤sizeLine) (hr:Room k callerA)
  (F:∀ base:Heap,K.In base→base.Ns mainGlobals mg→FnOk P w K mg base CX k fa fd [x] sp) (hbind:∀ (s:Shared) (u:Value),BindsTo s fd ⟨[u],[]⟩ [(x,u)])
  (hsp:∀ H:Hp,Only H→SqL K H a (ns.map V.int)→sp [.ref a] H (fun v _=>v=.bl true) fun _ _ _=>False)
  (hCX:∀ H e s',CX [] H s₁ (fun _ _ _=>False) e s'→False) :
  codeAny (model P w) callerA (.call (.ref fa) ⟨[.ref a],[]⟩) (fun r s'=>r=.ok (.ret (.bool true))∧OldK s₁.heap s'.heap∧s'.os=s₁.os∧AllBare s'.gens) s₁:=by
 have rv:=vals_ints hi
 have lenV:=hi.length
 -- from an abstract heap in which nothing but the script may be tracked
 have core:∀ H:Hp,Only H→SqL K H a (ns.map V.int)→HOk P w H s₁.heap→(∀ b,H b≠none→b=a)→(H a≠none→K.lookup a=none) →
   codeAny (model P w) callerA (.call (.ref fa) ⟨[.ref a],[]⟩) (fun r s'=>r=.ok (.ret (.bool true))∧OldK s₁.heap s'.heap∧s'.os=s₁.os∧AllBare s'.gens) s₁:=by
  intro H hO hS hok hA hK
  have base_of:∀ {b:Addr} {o:Obj},s₁.heap.get? b=some o→H b=none→(hidT s₁.heap H).get? b=some o:=fun e n=>hidT_get e n
  have noA:∀ {b:Addr} {o:Obj} {es:Array DictEntry} {ep:Nat},s₁.heap.get? b=some o→o.data=.dict es ep→H b=none:=fun {b o es ep} e d=>by
   cases q:H b with
   | none=>rfl
   | some u=>
    have e':b=a:=hA b (by rw [q]; simp)
    subst e'
    rw [ha] at e; cases e
    have d':Data.seq vs.toArray _=Data.dict es ep:=d
    cases d'
  have nsK:∀ {b:Addr} {m:Str→Option Value},s₁.heap.Ns b m→(hidT s₁.heap H).Ns b m:=fun {b m} zz50=>by obtain ⟨o,es,ep,e,d,r⟩:=zz50; exact ⟨o,es,ep,base_of e (noA e d),d,r⟩
  have hKb:K.In (hidT s₁.heap H):=fun b o e=>base_of (KX b o e) (by
   cases q:H b with
   | none=>rfl
   | some u=>
    have e':b=a:=hA b (by rw [q]; simp)
    subst e'
    rw [hK (by rw [q]; simp)] at e; cases e)
  have hM:Mod K mg (hidT s₁.heap H):=⟨hKb,nsK hns,⟨mb,nsK hb,hbb⟩,let ⟨mc,h1,h2⟩:=hlim; ⟨mc,nsK h1,h2⟩⟩
  have e0:Env0 P w K mg (hidT s₁.heap H) callerA [] s₁ H:=⟨rfl,hM,fun b o e=>of_hidT e,Nat.le_of_eq (hidT_size _ _),trivial,fun b hb=>absurd (show b∈([]:List Addr) from hb) (by simp),hok,.of_eq hg⟩
  refine codeAny_mono ((F _ hKb (nsK hns)).run callerA [] s₁ H ⟨[.ref a],[]⟩ [.ref a] [.ref a] _ _ hr e0 (hbind s₁ (.ref a)) (.cons rfl .nil) (hsp H hO hS)) fun r s' h=>?_
  cases r with
  | error e=>exact (hCX H e s' h).elim
  | ok fl=>
   cases fl with
   | next=>exact False.elim h
   | brk=>exact False.elim h
   | cont=>exact False.elim h
   | ret u=>
    obtain ⟨v,H',os,bare,un,hok',r',q⟩:=h
    have q':v=.bl true:=q
    subst q'
    obtain rfl:u=Value.bool true:=r'
    refine ⟨rfl,OldK.of_keep fun b o e=>?_,os,bare⟩
    cases q:H b with
    | none=>exact un.keep b o e q (by intro z; exact absurd (show b∈([]:List Addr) from z) (by simp)) (by simp)
    | some u=>
     rcases hO b with z | ⟨ob,xs,z⟩
     ·rw [q] at z; cases z
     ·have z2:=un.frzs b ob _ z
      obtain ⟨e1,_⟩:=hok b _ z
      obtain ⟨e2,_⟩:=hok' b _ z2
      rw [e] at e1; cases e1
      exact e2
 cases hk:K.lookup a with
 | some o=>
  -- the script is one of the module's own objects
  have e:=KX a o hk
  rw [ha] at e
  cases e
  refine core (fun _=>none) (fun _=>.inl rfl) (.inr ⟨_,vs.toArray,_,hk,rfl,rfl,rfl,by rw [List.size_toArray,lenV]; exact hl,by simpa using rv⟩) (fun b u z=>by have z':(none:Option HO)=some u:=z; cases z') (fun b z=>absurd rfl z) fun z=>absurd rfl z
 | none=>
  refine core (fun b=>if b=a then some (.frz { cls:=.type "list",data:=.seq vs.toArray } (.lst (ns.map V.int))) else none) (fun b=>?_) (.inl (.inr ⟨{ cls:=.type "list",data:=.seq vs.toArray },if_pos rfl⟩)) (fun b u z=>?_) (fun b z=>?_) fun _=>hk
  ·by_cases hb:b=a
   ·exact .inr ⟨_,_,if_pos hb⟩
   ·exact .inl (if_neg hb)
  ·by_cases hb:b=a
   ·have z':=(if_pos hb).symm.trans z
    cases z'
    subst hb
    exact ⟨ha,by rw [List.length_map]; exact hl,vs,_,rv,ha⟩
   ·have z':=(if_neg hb).symm.trans z
    cases z'
  ·by_cases hb:b=a
   ·exact hb
   ·exact absurd (if_neg hb) z
end L2
namespace L2
open PySem PySem.Spec PyProof.Rows
theorem walk_of {l:PySem.W.OpenLaw} {n k:Nat} {q:Program} {loose:List Str} {XP:(Str→Option Value)→Heap→Prop} {YP:World→Heap→Prop} {d:DefRec} {K:Params→PySem.W.Frag} {CX:World→CXT} {sp:World→Sp} {x:Str}
  (hn:l.most=some n) (hn2:n≤sizeLine) (hdf:d.params.defaults = []) (hr:Room k callerA)
  (hY:∀ (w:World) (h:Heap),YP w h→(K w.params).In h)
  (F:∀ (w:World) (mg:Str→Option Value) (fa:Addr) (h:Heap),(K w.params).In h→h.Ns mainGlobals mg→mg d.name=some (.ref fa) →
   ∃ fd:FuncData,(∀ (s:Shared) (u:Value),BindsTo s fd ⟨[u],[]⟩ [(x,u)]) ∧
    ∀ base:Heap,(K w.params).In base→base.Ns mainGlobals mg→FnOk l.prog w (K w.params) mg base (CX w) k fa fd [x] (sp w))
  (hsp:∀ (w:World) (H:Hp) (a:Addr) (ns:List Int),ns.length≤n→Only H→SqL (K w.params) H a (ns.map V.int)→sp w [.ref a] H (fun v _=>v=.bl true) fun _ _ _=>False)
  (hCX:∀ (w:World) (H:Hp) (s:Shared) (e:Value) (s':Shared),CX w [] H s (fun _ _ _=>False) e s'→False) :
  PySem.W.WalkO q loose XP YP l.row.toRowW d [] (fun f vs=>PySem.call f vs):=by
 refine Att.attach_call hn hdf fun w s₀ s₁ mg mb fa o pm cd doc a vs ns G Y ho hd hcd hmg hobj hints hlen hg=>?_
 have KX:=hY w _ Y
 obtain ⟨fd,hb,hF⟩:=F w mg fa _ KX G.T.g hmg
 exact law_call KX G.T.g G.T.b G.T.builtins G.T.nolimit hg hobj hints (Nat.le_trans hlen hn2) hr hF hb (fun H hO hS=>hsp w H a ns hlen hO hS) fun H e s'=>hCX w H s₁ e s'
theorem walk_ofK {l:PySem.W.OpenLaw} {n k:Nat} {q:Program} {loose:List Str} {XP:(Str→Option Value)→Heap→Prop} {YP:World→Heap→Prop} {d:DefRec} {K:Params→PySem.W.Frag} {CX:CXT} {sp:PySem.W.Frag→Sp} {x:Str}
  (hn:l.most=some n) (hn2:n≤sizeLine) (hdf:d.params.defaults = []) (hr:Room k callerA)
  (hY:∀ (w:World) (h:Heap),YP w h→(K w.params).In h)
  (F:∀ (w:World) (mg:Str→Option Value) (fa:Addr) (h:Heap),(K w.params).In h→h.Ns mainGlobals mg→mg d.name=some (.ref fa) →
   ∃ fd:FuncData,(∀ (s:Shared) (u:Value),BindsTo s fd ⟨[u],[]⟩ [(x,u)]) ∧
    ∀ base:Heap,(K w.params).In base→base.Ns mainGlobals mg→FnOk l.prog w (K w.params) mg base CX k fa fd [x] (sp (K w.params)))
  (hsp:∀ (K:PySem.W.Frag) (H:Hp) (a:Addr) (ns:List Int),ns.length≤n→Only H→SqL K H a (ns.map V.int)→sp K [.ref a] H (fun v _=>v=.bl true) fun _ _ _=>False)
  (hCX:∀ (H:Hp) (s:Shared) (e:Value) (s':Shared),CX [] H s (fun _ _ _=>False) e s'→False) :
  PySem.W.WalkO q loose XP YP l.row.toRowW d [] (fun f vs=>PySem.call f vs):=
 walk_of (K:=K) (CX:=fun _=>CX) (sp:=fun w=>sp (K w.params)) hn hn2 hdf hr hY F (fun w H a ns h1 h2 h3=>hsp (K w.params) H a ns h1 h2 h3) fun _ H s e s'=>hCX H s e s'
end L2
namespace L2
open PySem PySem.Spec PyProof.Rows
noncomputable def defArgs (s:Stmt):Arguments:=match s with
 | .FunctionDef _ a _ _ _ _ _ _ _ _=>a
 | _=>{ posonlyargs:=[],args:=[],vararg:=none,kwonlyargs:=[],kw_defaults:=[],kwarg:=none,defaults:=[] }
noncomputable def defBody (s:Stmt):List Stmt:=match s with
 | .FunctionDef _ _ b _ _ _ _ _ _ _=>b
 | _=>[]
noncomputable def defScope (s:Stmt):Scope:=match s with
 | .FunctionDef _ _ _ _ _ _ sc _ _ _=>sc
 | _=>{ kind:=.function,names:=[],isGenerator:=false,isCoroutine:=false }
noncomputable abbrev CX0:CXT:=fun _ _ _ _ _ _=>False
noncomputable abbrev E0:XK:=fun _ _ _=>False
theorem pass0 {X:Cx}:Passes CX0 X E0:=fun _ _ _ _ _ _ _ h=>h.elim
structure Fun (K:PySem.W.Frag) (x qual:Str) (st:Stmt) (f:Addr) (fd:FuncData):Prop where
 ex:∃ (oc:Value) (od:Option Addr) (kV doc pm:Value) (an:Option Addr) (cdv ct:Value) (osl:Array (Option Value)),
  fd=PySem.W.fnOf x qual (defArgs st) (defBody st) (defScope st) .none kV doc pm an cdv ct∧K.lookup f=some ⟨oc,od,.func fd,osl⟩∧PySem.W.codeIn K cdv qual=true
 kp:PySem.W.keepIn K (.ref f)=true
section
variable {P:Program} {w:World} {K:PySem.W.Frag} {mg:Str→Option Value} {base:Heap}
theorem Fun.ok {x qual:Str} {st:Stmt} {f:Addr} {fd:FuncData} {N ps:List Str} {k:Nat} {sp:Sp} (F:Fun K x qual st f fd) (S:FnScope N ps (defScope st)) (len:∀ vs H Q E,sp vs H Q E→vs.length=ps.length)
  (hbody:∀ (cdv:Value) (A:Around) (outer:List Env) (s:Shared) (H:Hp) (vs:List V) (Q:VK) (E:XK),Room k (A.deeper (envOfC qual (defScope st) s.heap.objs.size f cdv))→sp vs H Q E →
   ∃ t,PSs (cxOf CX0 P w K mg base N qual (defScope st) f cdv A outer s H E).nox (defBody st) t∧t { nx:=fun _ H'=>Q .non H',rt:=Q } (start N vs) H):FnOk P w K mg base CX0 (k+1) f fd ps sp:=by
 obtain ⟨oc,od,kV,doc,pm,an,cdv,ct,osl,rfl,lk,hcd⟩:=F.ex
 refine fn_of lk hcd S len fun A outer s H vs Q E hr hsp=>?_
 obtain ⟨t,h,q⟩:=hbody cdv A outer s H vs Q E hr hsp
 exact ⟨t,h.nox,q⟩
theorem Fun.binds {x qual:Str} {st:Stmt} {f:Addr} {fd:FuncData} {ps:List Str} (F:Fun K x qual st f fd)
  (h:∀ (kV doc pm:Value) (an:Option Addr) (cdv ct:Value) (us:List Value),us.length=ps.length→bindArgs (PySem.W.fnOf x qual (defArgs st) (defBody st) (defScope st) .none kV doc pm an cdv ct) ⟨us,[]⟩=pure (ps.zip us)):Binds K fd ps []:=by
 obtain ⟨oc,od,kV,doc,pm,an,cdv,ct,osl,rfl,lk,hcd⟩:=F.ex
 exact .all (h kV doc pm an cdv ct)
theorem fun_mk {x qual:Str} {st:Stmt} {f:Addr} {oc:Value} {od an:Option Addr} {osl:Array (Option Value)} {kV doc pm cdv ct:Value} (l:K.lookup f=some ⟨oc,od,.func (PySem.W.fnOf x qual (defArgs st) (defBody st) (defScope st) .none kV doc pm an cdv ct),osl⟩)
  (c:PySem.W.codeIn K cdv qual=true) (k:PySem.W.keepIn K (.ref f)=true):Fun K x qual st f (PySem.W.fnOf x qual (defArgs st) (defBody st) (defScope st) .none kV doc pm an cdv ct):=⟨⟨oc,od,kV,doc,pm,an,cdv,ct,osl,rfl,l,c⟩,k⟩
end
section
variable {X:Cx}
theorem pv (i:Nat) {x:Str} {pos:Pos} (hN:X.N[i]?=some x:=by rfl) (hv:Vis X.env.scope x:=by first | exact Or.inl rfl | exact Or.inr (Or.inl rfl) | exact Or.inr (Or.inr rfl)) (hd:(x == ("__debug__" : Str))=false:=by decide)
  (hcd:(x == ("__classdict__" : Str))=false:=by decide):PE X (.Name x pos) (tVar i):=pe_var hN hv hd hcd
end
noncomputable def Same (H H':Hp):Prop:=∀ b o,H b=some o→H' b=some o
theorem Same.refl (H:Hp):Same H H:=fun _ _ h=>h
theorem Same.trans {H H1 H2:Hp} (a:Same H H1) (b:Same H1 H2):Same H H2:=fun c o h=>b c o (a c o h)
theorem Same.free {H H':Hp} (e:Same H H') {l:Addr} (h:H' l=Option.none):H l=Option.none:=by
 cases q:H l with
 | none=>rfl
 | some o=>
  rw [e l o q] at h
  cases h
theorem Same.seq {K:PySem.W.Frag} {H H':Hp} {a:Addr} {xs:List V} (e:Same H H') (h:SqL K H a xs):SqL K H' a xs:=by
 rcases h with (h | ⟨o,h⟩) | h
 ·exact .inl (.inl (e _ _ h))
 ·exact .inl (.inr ⟨o,e _ _ h⟩)
 ·exact .inr h
end L2
set_option Elab.async false
set_option linter.all false
set_option maxRecDepth 100000
namespace L2
open PySem PySem.Spec PyProof.Rows
noncomputable def Dk (h h':Heap):Prop:=∀ b o,h.get? b=some o→∃ o',h'.get? b=some o'∧o'.cls=o.cls∧o'.dict=o.dict
structure KD {α:Type} (t:Sem α):Prop where
 out:∀ (M:Model) (Γ:PySem.Ctx) (P:α→Pos→Shared→Prop) (Ee:Value→Pos→Shared→Prop) (p:Pos) (s:Shared),
  Sem.wp M Γ t P Ee p s→Sem.wp M Γ t (fun a p' s'=>P a p' s'∧Dk s.heap s'.heap) Ee p s
noncomputable def cut (h:Heap) (fs:List Addr):Heap:={ h with objs:=h.objs.mapIdx fun i o=>if i∈fs then { o with data:=.freed } else o }
section
variable {P:Program} {w:World} {K:PySem.W.Frag} {mg:Str→Option Value} {base:Heap} {N:List Str} {qual:Str} {scope:Scope} {f:Addr} {cd:Value} {A:Around} {outer:List Env} {s:Shared} {H:Hp} {E:XK}
 {pins:List (Addr×Obj)} {σ:St} {H':Hp} {s2:Shared} {a:Addr}
end
end L2
set_option Elab.async false
set_option linter.all false
set_option maxRecDepth 100000
namespace L2
open PySem PySem.Spec PyProof.Rows
section
variable {prog:Program} {w:World} {A:Around} {E:Value→Shared→Prop} {s:Shared} {K:PySem.W.Frag} {x C:Addr} {ox:Obj} {od:Option Obj} {name:Str} {tk:Tok} {fill expr:Bool} {v:Value} {Q:Value→Shared→Prop}
end
end L2
set_option Elab.async false
set_option linter.all false
set_option maxRecDepth 100000
namespace L2
open PySem PySem.Spec PyProof.Rows
section
variable {prog:Program} {w:World} {A:Around} {E:Value→Shared→Prop} {s:Shared} {K:PySem.W.Frag} {x C:Addr} {ox:Obj} {name:Str} {tk:Tok} {v:Value} {Q:Unit→Shared→Prop}
end
end L2
set_option Elab.async false
set_option linter.all false
set_option maxRecDepth 100000
namespace L2
open PySem PySem.Spec PyProof.Rows
section
variable {prog:Program} {w:World} {A:Around} {s:Shared} {K:PySem.W.Frag} {C f:Addr} {R:Result→Shared→Prop} {nm q:Str} {N:Addr} {bs bm bmB:List Value} {hdct:Bool} {sn:List Str} {sub:List Value} {ab:Bool} {col:Option Bool} {dd:Option Addr} {k0 k1 k2 k3 k5:Option Value}
 {B Bn newId nid initId inN:String} {bmN:List Value} {rest:List Value}
end
end L2
set_option Elab.async false
set_option linter.all false
set_option maxRecDepth 100000
namespace L2
open PySem PySem.Spec PyProof.Rows
section
variable {prog:Program} {w:World} {A:Around} {E:Value→Shared→Prop} {s:Shared} {K:PySem.W.Frag} {env:Env} {x:Expr} {pos:Pos} {Q:Flow→Shared→Prop}
end
end L2
set_option Elab.async false
set_option linter.all false
set_option maxRecDepth 100000
namespace L2
open PySem PySem.Spec PyProof.Rows
section
variable {X:Cx} {pins:List (Addr×Obj)} {σ σ':St} {H:Hp} {s:Shared}
theorem below_loc {b:Addr} {o:Obj} (I:Inv X pins σ H s) (e:X.s₀.heap.get? b=some o):b≠X.env.locals:=by
 intro z
 have l:=Heap.lt_size e
 have a:=I.ok.above
 rw [← z] at a
 exact absurd l (Nat.not_lt.mpr a)
theorem Inv.reloc {h':Heap} {tk:Nat} {m':Str→Option Value} (I:Inv X pins σ H s) (hs:Heap.SameBut X.env.locals s.heap h') (hn:h'.Ns X.env.locals m') (hl:σ'.length=σ.length)
  (lk:∀ (i:Nat) (x:Str) (v:V),X.N[i]?=some x→σ'[i]?=some (some v)→Vis X.env.scope x→∃ u,RelV v u∧Look X.env h' m' x u):Inv X pins σ' H { s with heap:=h',toks:=tk } where
 ok:=I.ok
 os:=I.os
 bare:=I.bare
 base:={
  keep:=fun b o e n p q=>(hs.2 b (below_loc I e)).trans (I.base.keep b o e n p q)
  slot:=fun b o e n p q=>by
   obtain ⟨sl,y⟩:=I.base.slot b o e n p q
   exact ⟨sl,(hs.2 b (below_loc I e)).trans y⟩
  free:=I.base.free
  there:=fun b o e q=>by
   obtain ⟨o',y⟩:=I.base.there b o e q
   exact ⟨o',(hs.2 b (below_loc I e)).trans y⟩
  tups:=I.base.tups
  frzs:=I.base.frzs
  tbls:=I.base.tbls }
 loc:=⟨m',hn,lk⟩
 cell:=fun x c e=>by
  obtain ⟨v,z⟩:=I.cell x c e
  exact ⟨v,z.sameBut hs (I.cne x c e)⟩
 free:=I.free
 freeC:=I.freeC
 pin:=fun p hp=>by
  obtain ⟨a,b,c,d⟩:=I.pin p hp
  exact ⟨(hs.2 p.1 c).trans a,b,c,d⟩
 hok:=fun b ob e=>by
  have key:∀ c,(∃ q,H c=some q)→c≠X.env.locals:=fun c zz51 z=>by obtain ⟨q,hq⟩:=zz51; rw [z,I.free] at hq; cases hq
  exact (I.hok b ob e).stay (fun c u hc q=>(hs.2 c (key c (hc.elim (fun z=>⟨ob,z ▸ e⟩) fun z=>⟨_,z⟩))).trans q) (fun _ q=>q) fun _ _ q=>q
 len:=hl.trans I.len
theorem gone_ok {M:Model} {A:Around} {E:Value→Shared→Prop} {i:Nat} {x:Str} {pos:Pos} {Q:Unit→Shared→Prop} (I:Inv X pins σ H s) (hN:X.N.Nodup) (hi:X.N[i]?=some x) (hk:X.env.kindOf x=some .local)
  (hq:∀ s',Inv X pins (σ.set i none) H s'→Q () s'):wpAny M A (do bindName X.env x Value.none; unbindBehindTheSuite X.env x pos) Q E s:=by
 have hcls:(X.env.scope.kind == .class||(X.env.scope.kind == .module&&X.env.locals != X.env.globals))=false:=by rw [I.ok.kind]; rfl
 have hiσ:i<σ.length:=by rw [I.len]; exact (List.getElem?_eq_some_iff.mp hi).1
 unfold bindName
 refine wpAny_bind (wpAny_bind (wpAny_holding (wpAny_point (wpAny_bind (store_ok (v:=.non) I hN hi (.inl hk) rfl (fun s1 I1=>?_) (.inr hk))))))
 refine wpAny_point ?_
 unfold unbindBehindTheSuite
 obtain ⟨m,hn,lk⟩:=I1.loc
 obtain ⟨u,ru,l⟩:=lk i x .non hi (List.getElem?_set_self hiσ) (.inl hk)
 have hm:m x=some u:=by
  rcases l with ⟨_,e⟩ | ⟨k,_⟩
  ·exact e
  ·rcases k with k | k <;> (rw [hk] at k; cases k)
 refine wpAny_onRaise (wpAny_unbindName_local hk hn hm hcls fun h' z hn' hs=>hq _ (Inv.reloc (tk:=s1.toks) I1 hs hn' (by simp) fun j y v e1 e2 e3=>?_))
 by_cases hj:j=i
 ·subst hj
  rw [List.getElem?_set_self hiσ] at e2
  cases e2
 ·rw [List.getElem?_set_ne (Ne.symm hj)] at e2
  obtain ⟨u',r',q⟩:=lk j y v e1 (by rw [List.getElem?_set_ne (Ne.symm hj)]; exact e2) e3
  refine ⟨u',r',?_⟩
  rcases q with ⟨k,e⟩ | ⟨k,c,e,z⟩
  ·refine .inl ⟨k,?_⟩
   have:y≠x:=fun e=>hj (nodup_ix hN e1 (e ▸ hi))
   simp [this,e]
  ·exact .inr ⟨k,c,e,z.sameBut hs (I1.cne y c e)⟩
end
end L2
set_option Elab.async false
set_option linter.all false
set_option maxRecDepth 100000
namespace L2
open PySem PySem.Spec PyProof.Rows
section
variable {X:Cx} {pins:List (Addr×Obj)} {σ:St} {H H':Hp} {s s1:Shared}
end
end L2
set_option Elab.async false
set_option linter.all false
set_option maxRecDepth 100000
namespace L2
open PySem PySem.Spec PyProof.Rows
section
variable {X:Cx} {pins:List (Addr×Obj)} {σ:St} {H H':Hp} {s s1:Shared} {a:Addr} {B:Heap} {cls:Value} {od:Option Addr}
structure Here (X:Cx) (pins:List (Addr×Obj)) (σ:St) (H':Hp) (a:Addr) (B:Heap) (cls:Value) (od:Option Addr) (s:Shared):Prop where
 inv:Inv X pins σ H' s
 dict:∃ o,s.heap.get? a=some o∧o.dict=od
end
end L2
set_option Elab.async false
set_option linter.all false
set_option maxRecDepth 100000
namespace L2
open PySem PySem.Spec PyProof.Rows
section
variable {X:Cx} {k:Nat} {f:Addr} {fd:FuncData} {ps:List Str} {sp:Sp} {fn cn n y:Str} {fp cp ap np hpos yp pos:Pos} {e:Expr} {es:List Expr} {t:TA} {C:Addr} {i jn:Nat} {b0:Stmt} {suite:List Stmt} {tb:TS}
noncomputable def tCatch (X:Cx) (C:Addr) (jn:Nat) (tb:TS) (D:Ends) (σ:St):XK:=fun cls od H'=>∃ Dc,cls=.ref Dc∧PySem.W.exmOne X.K (.ref Dc) (.ref C)=some true ∧
 ∀ (a:Addr) (o:Obj),H' a=none→o.cls=cls→o.dict=od→(∃ vs:Array Value,o.data=.fields vs) →
  tb { nx:=fun σ' H'=>D.nx (σ'.set jn none) H',rt:=D.rt,bk:=fun σ' H'=>D.bk (σ'.set jn none) H',ct:=fun σ' H'=>D.ct (σ'.set jn none) H' } (σ.set jn (some (.ref a))) (upd H' a (.ext fun h=>h.get? a=some o))
end
end L2
set_option Elab.async false
set_option linter.all false
set_option maxRecDepth 100000
namespace L2
open PySem PySem.Spec PyProof.Rows
section
variable {X:Cx} {pins:List (Addr×Obj)} {σ:St} {H:Hp} {s:Shared}
end
end L2
set_option Elab.async false
set_option linter.all false
set_option maxRecDepth 100000
namespace L2
open PySem PySem.Spec PyProof.Rows
section
variable {X:Cx}
end
end L2
set_option Elab.async false
set_option linter.all false
set_option maxRecDepth 100000
namespace L2
open PySem PySem.Spec PyProof.Rows
section
variable {X:Cx} {pins:List (Addr×Obj)} {σ:St} {H:Hp} {s:Shared}
end
end L2
set_option Elab.async false
set_option linter.all false
set_option maxRecDepth 100000
namespace L2
open PySem PySem.Spec PyProof.Rows
section
variable {P:Program} {w:World} {K:PySem.W.Frag} {mg:Str→Option Value} {base:Heap} {N:List Str} {qual:Str} {scope:Scope} {f0:Addr} {cd:Value} {A:Around} {outer:List Env} {s0:Shared} {H0:Hp} {E:XK}
 {k:Nat} {C f:Addr} {fd:FuncData} {ps:List Str} {sp:Sp} {cn:Str} {np cp pos:Pos} {e:Expr} {es:List Expr} {t:TA}
end
end L2
set_option Elab.async false
set_option linter.all false
set_option maxRecDepth 100000
namespace L2
open PySem PySem.Spec PyProof.Rows
section
variable {P:Program} {w:World} {K:PySem.W.Frag} {mg:Str→Option Value} {base:Heap} {k:Nat} {f:Addr} {fd:FuncData} {ps N:List Str} {sp:Sp} {CX:CXT}
end
end L2
set_option Elab.async false
set_option linter.all false
set_option maxRecDepth 100000
namespace L2
open PySem PySem.Spec PyProof.Rows
section
variable {X:Cx} {o:Expr} {ta:TE} {name:Str} {pos:Pos}
end
end L2
set_option Elab.async false
set_option linter.all false
set_option maxRecDepth 100000
namespace L2
open PySem PySem.Spec PyProof.Rows
section
variable {X:Cx} {pins:List (Addr×Obj)} {σ:St} {H:Hp} {s:Shared} {A:Around} {E:Value→Shared→Prop} {Q:Value→Shared→Prop} {c:Value} {b:Bool} {a C:Addr} {ox:Obj} {vs:Array Value}
end
end L2
set_option Elab.async false
set_option linter.all false
set_option maxRecDepth 100000
namespace L2
open PySem PySem.Spec PyProof.Rows
section
variable {P:Program} {w:World} {K:PySem.W.Frag} {mg:Str→Option Value} {base:Heap} {N:List Str} {qual:Str} {scope:Scope} {f0:Addr} {cd:Value} {A:Around} {outer:List Env} {s0:Shared} {H0:Hp} {E:XK}
 {C:Addr} {cn:Str} {np cp pos:Pos} {e:Expr} {es:List Expr} {t:TA}
end
end L2
set_option Elab.async false
set_option linter.all false
set_option maxRecDepth 100000
namespace L2
open PySem
structure Nx {α:Type} (t:Sem α):Prop where
 out:∀ (M:Model) (Γ:PySem.Ctx) (P:α→Pos→Shared→Prop) (Ee Ef:Value→Pos→Shared→Prop) (p:Pos) (s:Shared),Sem.wp M Γ t P Ee p s→Sem.wp M Γ t P Ef p s
structure Po {α:Type} (t:Sem α) (pre:Shared→Prop) (post:α→Shared→Prop):Prop where
 out:∀ (M:Model) (Γ:PySem.Ctx) (P:α→Pos→Shared→Prop) (Ee Ef:Value→Pos→Shared→Prop) (p:Pos) (s:Shared),
  pre s→Sem.wp M Γ t P Ee p s→Sem.wp M Γ t (fun a p' s'=>P a p' s'∧post a s') Ef p s
noncomputable def FldAt (v:Value) (i:Nat) (x:Value) (h:Heap):Prop:=∃ (a:Addr) (o:Obj) (vs:Array Value),v=.ref a∧h.get? a=some o∧o.data=.fields vs∧vs[i]?=some x
noncomputable def Marked (e:Value) (f:Addr) (h:Heap):Prop:=∃ t,FldAt e 1 t h∧FldAt t 3 (rawInt f) h∧t≠.none
structure Free {α:Type} (t:Sem α):Prop where
 out:∀ (M:Model) (Γ Γ':PySem.Ctx) (P P':α→Pos→Shared→Prop) (E E':Value→Pos→Shared→Prop) (p p':Pos) (s:Shared),(∀ a p p' s,P a p s→P' a p' s)→(∀ a p p' s,E a p s→E' a p' s)→Sem.wp M Γ t P E p s→Sem.wp M Γ' t P' E' p' s
end L2
set_option Elab.async false
set_option linter.all false
set_option maxRecDepth 100000
namespace L2
open PySem PySem.Spec PyProof.Rows
section
variable {X:Cx} {k:Nat} {f:Addr} {fd:FuncData} {ps:List Str} {sp:Sp} {fn cn n y:Str} {fp cp ap np hpos yp pos:Pos} {e:Expr} {es:List Expr} {t:TA} {C:Addr} {i jn:Nat} {b0:Stmt} {suite:List Stmt} {tb:TS}
end
end L2
set_option Elab.async false
set_option linter.all false
set_option maxRecDepth 100000
namespace L2
open PySem PySem.Spec PyProof.Rows
section
variable {X:Cx} {k:Nat} {C f:Addr} {fd:FuncData} {ps:List Str} {sp:Sp} {cn:Str} {np cp pos:Pos} {e:Expr} {es:List Expr} {t:TA}
end
end L2
set_option Elab.async false
set_option linter.all false
set_option maxRecDepth 100000
namespace L2
open PySem PySem.Spec PyProof.Rows
section
variable {κ:Type} [DecidableEq κ]
noncomputable def valV (kvs:List (κ×V)) (k:κ):Option V:=(kvs.find? fun kv=>decide (kv.1=k)).map (·.2)
noncomputable def putK (kvs:List (κ×V)) (k:κ) (v:V):List (κ×V):=
 if (kvs.any fun kv=>decide (kv.1=k))=true then kvs.map (fun kv=>if kv.1=k then (kv.1,v) else kv) else kvs ++ [(k,v)]
noncomputable def dropK (kvs:List (κ×V)) (k:κ):List (κ×V):=kvs.filter fun kv=>decide (kv.1≠k)
end
noncomputable abbrev KT (H:Hp):List (List Key×V)→List (List Key×Addr×Value)→Prop:=Paired fun p q=>p.1=q.1∧H q.2.1=some (.tup (p.1.map kV))∧RelV p.2 q.2.2
section
variable {P:Program} {w:World} {H:Hp} {h:Heap} {a:Addr}
end
noncomputable def DGet (H:Hp) (a:Addr) (y:V) (r:Option V):Prop:=
 (∃ kvs k,Rd H a (.dK kvs)∧y=kV k∧r=valV kvs k)∨∃ kvs k b,Rd H a (.dT kvs)∧y=.ref b∧H b=some (.tup (k.map kV))∧r=valV kvs k
noncomputable def DPut (H:Hp) (a:Addr) (y v:V) (H':Hp):Prop:=
 (∃ kvs k,H a=some (.dK kvs)∧y=kV k∧kvs.length<sizeLine∧H'=upd H a (.dK (putK kvs k v))) ∨
 ∃ kvs k b,H a=some (.dT kvs)∧y=.ref b∧H b=some (.tup (k.map kV))∧kvs.length<sizeLine∧H'=upd H a (.dT (putK kvs k v))
section
variable {X:Cx} {pins:List (Addr×Obj)} {σ:St} {H:Hp} {s:Shared} {a:Addr} {y v:V} {u r:Value} {o:Option V} {A:Around} {E:Value→Shared→Prop}
end
section
variable {X:Cx} {pins:List (Addr×Obj)} {σ:St} {H:Hp} {s:Shared} {a:Addr} {kvs:List (Key×V)} {k:Key} {u:Value} {A:Around} {E:Value→Shared→Prop}
end
section
variable {X:Cx} {o i e value:Expr} {pos pos' tpos:Pos} {td ty tv:TE}
end
section
variable {X:Cx} {pos:Pos}
end
end L2
set_option Elab.async false
set_option linter.all false
set_option maxRecDepth 100000
namespace L2
open PySem
structure Sub where
 t:Bool
 i:Addr
 l:Addr
noncomputable def Sub.At (u:Sub) (h:Heap) (n:Nat):Prop:=if u.t=true then h.IsTupleIter u.i u.l n else h.IsListIter u.i u.l n
noncomputable def Sub.Src (u:Sub) (h:Heap) (xs:Array Value):Prop:=if u.t=true then h.IsTuple u.l xs else h.IsList u.l xs
theorem Sub.At.obj {u:Sub} {h:Heap} {n:Nat} (x:u.At h n):∃ o,h.get? u.i=some o∧o.data=.fields #[.ref u.l,.int n 0]:=by
 unfold Sub.At at x
 split at x <;> (obtain ⟨o,e,_,d⟩:=x; exact ⟨o,e,d⟩)
theorem Sub.At.keep {u:Sub} {h h':Heap} {n:Nat} (x:u.At h n) (k:∀ o,h.get? u.i=some o→h'.get? u.i=some o):u.At h' n:=by
 unfold Sub.At at x ⊢
 split at x <;> (rename_i ht; obtain ⟨o,e,r⟩:=x; simp only [ht,if_true,if_false,Bool.false_eq_true]; exact ⟨o,k o e,r⟩)
theorem Sub.Src.keep {u:Sub} {h h':Heap} {xs:Array Value} (x:u.Src h xs) (k:∀ o,h.get? u.l=some o→h'.get? u.l=some o):u.Src h' xs:=by
 unfold Sub.Src at x ⊢
 split at x <;> (rename_i ht; obtain ⟨o,e,r⟩:=x; simp only [ht,if_true,if_false,Bool.false_eq_true]; exact ⟨o,k o e,r⟩)
section
variable {prog:Program} {w:World} {A:Around} {E:Value→Shared→Prop} {s:Shared}
theorem nextOf_tup_item {it t:Addr} {i:Nat} {items:Array Value} {x:Value} {Q:Value→Shared→Prop} (hit:s.heap.IsTupleIter it t i) (ht:s.heap.IsTuple t items) (hx:items[i]?=some x)
  (hQ:∀ h',h'.IsTupleIter it t (i+1)→Heap.SameBut it s.heap h'→Q x { s with heap:=h' }):wpAny (model prog w) A (Builtin.SmallTypes.nextOf (.ref it)) Q E s:=by
 obtain ⟨o,ho,hc,hd⟩:=id hit; obtain ⟨ol,hol,_,nl,hdl⟩:=ht; unfold Builtin.SmallTypes.nextOf
 refine wpAny_bind (wpAny_callSpecial?_slot (name:=Str.ofString "__next__") hit.typeIs F.slot_tuple_iterator_next (wpAny_call_entry F.slot_tuple_iterator_next hit.typeIs F.entry_tuple_iterator_next ?_ (F.args_tuple_iterator_next_1 _)))
 show wpAny _ _ (field (.ref it) 0>>=_) _ _ s; refine wpAny_bind (wpAny_field ho hd (x:=.ref t) rfl ?_)
 show wpAny _ _ (if (Value.ref t == Value.none)=true then _ else _) _ _ s; rw [if_neg (show ¬ ((Value.ref t == Value.none)=true) from Bool.false_ne_true)]
 show wpAny _ _ (field (.ref it) 1>>=_) _ _ s; refine wpAny_bind (wpAny_field ho hd (x:=.int i 0) rfl ?_)
 show wpAny _ _ (seqItems? (.ref t)>>=_) _ _ s; refine wpAny_bind (wpAny_seqItems hol hdl ?_); simp only [Int.toNat_natCast,hx]
 refine wpAny_bind (wpAny_setField ho hd (by simp) (wpAny_pure ⟨x,rfl,wpAny_pure (hQ _ ?_ (Heap.SameBut.update ..))⟩)); exact ⟨_,Heap.get?_update_self _ ho (Obj.isFreed_of_fields (Obj.data_mapFields hd _)),(Obj.cls_mapFields ..).trans hc,by rw [Obj.data_mapFields hd]; simp [rawInt]⟩
theorem nextOf_tup_end {it t:Addr} {i:Nat} {items:Array Value} {Q:Value→Shared→Prop} (hh:A.handled=none) (hit:s.heap.IsTupleIter it t i) (ht:s.heap.IsTuple t items) (hx:items[i]?=none)
  (hE:∀ h' e,Heap.ExtBut it s.heap h'→(∃ o,h'.get? e=some o∧o.cls=.type "StopIteration")→E (.ref e) { s with heap:=h' }):wpAny (model prog w) A (Builtin.SmallTypes.nextOf (.ref it)) Q E s:=by
 obtain ⟨o,ho,hc,hd⟩:=id hit; obtain ⟨ol,hol,_,nl,hdl⟩:=ht; unfold Builtin.SmallTypes.nextOf
 refine wpAny_bind (wpAny_callSpecial?_slot (name:=Str.ofString "__next__") hit.typeIs F.slot_tuple_iterator_next (wpAny_call_entry F.slot_tuple_iterator_next hit.typeIs F.entry_tuple_iterator_next ?_ (F.args_tuple_iterator_next_1 _)))
 show wpAny _ _ (field (.ref it) 0>>=_) _ _ s; refine wpAny_bind (wpAny_field ho hd (x:=.ref t) rfl ?_)
 show wpAny _ _ (if (Value.ref t == Value.none)=true then _ else _) _ _ s; rw [if_neg (show ¬ ((Value.ref t == Value.none)=true) from Bool.false_ne_true)]
 show wpAny _ _ (field (.ref it) 1>>=_) _ _ s; refine wpAny_bind (wpAny_field ho hd (x:=.int i 0) rfl ?_)
 show wpAny _ _ (seqItems? (.ref t)>>=_) _ _ s; refine wpAny_bind (wpAny_seqItems hol hdl ?_); simp only [Int.toNat_natCast,hx]
 refine wpAny_bind (wpAny_rule (wpAny_bind (wpAny_setField ho hd (by simp) ?_))); show wpAny _ _ (newExc (.type "StopIteration") []>>=_) _ _ _
 refine wpAny_bind ?_; simp only [newExc,newTuple]; refine wpAny_bind (wpAny_newObj_type ?_ (by size_fits))
 refine wpAny_bind (m:=firstArgMember _ _) (wpAny_of_eq (a:=Value.none) (by first | rfl | (simp only [firstArgMember]; rfl)) ?_); refine wpAny_newObj_type ?_ (by size_fits); simp only [raiseNew]
 refine wpAny_bind (wpAny_handled ?_); first | rw [show A.in1.handled=none from hh] | rw [hh]
 refine wpAny_bind (wpAny_pure (wpAny_throw ?_)); exact hE _ _ (((Heap.SameBut.update ..).extBut.push _).push _) ⟨_,Heap.get?_push_size _ rfl,rfl⟩
theorem Sub.item {u:Sub} {n:Nat} {xs:Array Value} {x:Value} {Q:Value→Shared→Prop} (ha:u.At s.heap n) (hs:u.Src s.heap xs) (hx:xs[n]?=some x)
  (hQ:∀ h',u.At h' (n+1)→Heap.SameBut u.i s.heap h'→Q x { s with heap:=h' }):wpAny (model prog w) A (Builtin.SmallTypes.nextOf (.ref u.i)) Q E s:=by
 unfold Sub.At at ha hQ; unfold Sub.Src at hs
 cases ht:u.t with
 | true=>simp only [ht,if_true] at ha hs hQ; exact nextOf_tup_item ha hs hx hQ
 | false=>simp only [ht,if_false,Bool.false_eq_true] at ha hs hQ; exact wpAny_nextOf_list_item ha hs hx hQ
theorem Sub.ends {u:Sub} {n:Nat} {xs:Array Value} {Q:Value→Shared→Prop} (hh:A.handled=none) (ha:u.At s.heap n) (hs:u.Src s.heap xs) (hx:xs[n]?=none)
  (hE:∀ h' e,Heap.ExtBut u.i s.heap h'→(∃ o,h'.get? e=some o∧o.cls=.type "StopIteration")→E (.ref e) { s with heap:=h' }):wpAny (model prog w) A (Builtin.SmallTypes.nextOf (.ref u.i)) Q E s:=by
 unfold Sub.At at ha; unfold Sub.Src at hs
 cases ht:u.t with
 | true=>simp only [ht,if_true] at ha hs; exact nextOf_tup_end hh ha hs hx hE
 | false=>simp only [ht,if_false,Bool.false_eq_true] at ha hs; exact wpAny_nextOf_list_end hh ha hs hx hE
noncomputable abbrev TupO (h:Heap) (T:Addr) (arr:Array Value):Prop:=h.get? T=some { cls:=.type "tuple",data:=.seq arr }
noncomputable def drawn (n:Nat):List (Sub×Array Value)→Nat→Array Value→Array Value
 | [],_,arr=>arr
 | u::r,c,arr=>drawn n r (c+1) (arr.setIfInBounds c (u.2.getD n .none))
noncomputable def DrawB (prog:Program) (w:World) (A:Around) (z TO:Addr) (E:Value→Shared→Prop) (B:Value×Nat→Option Fin×Unit→Sem (ForInStep (Option Fin×Unit))):Prop:=
 ∀ (v:Value) (k:Nat) (s:Shared) (Q:ForInStep (Option Fin×Unit)→Shared→Prop),
  wpAny (model prog w) A (Builtin.SmallTypes.nextOf v) (fun x s1=>∃ arr,TupO s1.heap TO arr∧arr.size≤sizeLine∧∀ h',TupO h' TO (arr.setIfInBounds k x)→Heap.SameBut TO s1.heap h'→Q (.yield (none,())) { s1 with heap:=h' })
   (fun e s1=>wpAny (model prog w) A (setField (.ref z) 0 .none) (fun _ s2=>E e s2) E s1) s→wpAny (model prog w) A (B (v,k) (none,())) Q E s
structure Apart (z TO:Addr) (ss:List (Sub×Array Value)):Prop where
 zTO:z≠TO
 zi:∀ u∈ss,u.1.i≠z
 ti:∀ u∈ss,u.1.i≠TO
 nd:ss.Pairwise fun u v=>u.1.i≠v.1.i
 lz:∀ u∈ss,u.1.l≠z
 lt:∀ u∈ss,u.1.l≠TO
 li:∀ u∈ss,∀ v∈ss,u.1.l≠v.1.i
theorem Apart.tail {z TO:Addr} {u:Sub×Array Value} {ss:List (Sub×Array Value)} (D:Apart z TO (u::ss)):Apart z TO ss:=
 ⟨D.zTO,fun v hv=>D.zi v (List.mem_cons_of_mem _ hv),fun v hv=>D.ti v (List.mem_cons_of_mem _ hv),(List.pairwise_cons.mp D.nd).2,fun v hv=>D.lz v (List.mem_cons_of_mem _ hv),fun v hv=>D.lt v (List.mem_cons_of_mem _ hv),
  fun v hv x hx=>D.li v (List.mem_cons_of_mem _ hv) x (List.mem_cons_of_mem _ hx)⟩
theorem draws {z TI TO:Addr} {n:Nat} {B:Value×Nat→Option Fin×Unit→Sem (ForInStep (Option Fin×Unit))} (hB:DrawB prog w A z TO E B) :
  ∀ (ss:List (Sub×Array Value)) (c:Nat) (arr:Array Value) (s:Shared) (Q:Option Fin×Unit→Shared→Prop),Apart z TO ss→IsZip s.heap z TI TO .ellipsis→TupO s.heap TO arr→arr.size≤sizeLine →
   (∀ u∈ss,u.1.At s.heap n∧u.1.Src s.heap u.2∧∃ x,u.2[n]?=some x) →
   (∀ h',IsZip h' z TI TO .ellipsis→TupO h' TO (drawn n ss c arr)→(∀ u∈ss,u.1.At h' (n+1))→h'.objs.size=s.heap.objs.size →
    (∀ b o,b≠TO→(∀ u∈ss,b≠u.1.i)→s.heap.get? b=some o→h'.get? b=some o)→Q (none,()) { s with heap:=h' }) →
   wpAny (model prog w) A (forIn ((ss.map fun u=>Value.ref u.1.i).zipIdx c) (none,()) B) Q E s:=by
 intro ss
 induction ss with
 | nil=>
  intro c arr s Q D hz hT hl hu hQ
  simp only [List.map_nil,List.zipIdx_nil,List.forIn_nil]
  exact wpAny_pure (hQ s.heap hz hT (fun _ h=>absurd h List.not_mem_nil) rfl fun _ _ _ _ e=>e)
 | cons u r ih=>
  intro c arr s Q D hz hT hl hu hQ
  simp only [List.map_cons,List.zipIdx_cons,List.forIn_cons]
  obtain ⟨ha,hsrc,x,hx⟩:=hu u List.mem_cons_self
  refine wpAny_bind (hB _ _ _ _ (Sub.item ha hsrc hx fun h1 ha1 sb1=>⟨arr,sb1.extBut _ _ (D.ti u List.mem_cons_self).symm hT,hl,fun h2 hT2 sb2=>?_⟩))
  have uz:=D.zi u List.mem_cons_self
  have ut:=D.ti u List.mem_cons_self
  have kp:∀ b o,b≠TO→b≠u.1.i→s.heap.get? b=some o→h2.get? b=some o:=fun b o h1 h2 e=>sb2.extBut _ _ h1 (sb1.extBut _ _ h2 e)
  have hui:∀ v∈r,v.1.i≠u.1.i:=fun v hv=>((List.pairwise_cons.mp D.nd).1 v hv).symm
  refine ih (c+1) (arr.setIfInBounds c x) { s with heap:=h2 } Q D.tail (kp _ _ D.zTO uz.symm hz) hT2 (by simpa using hl) (fun v hv=>?_) fun h3 z3 T3 a3 s3 k3=>?_
  ·obtain ⟨a,b,y⟩:=hu v (List.mem_cons_of_mem _ hv)
   exact ⟨a.keep fun o e=>kp _ o (D.ti v (List.mem_cons_of_mem _ hv)) (hui v hv) e,b.keep fun o e=>kp _ o (D.lt v (List.mem_cons_of_mem _ hv)) (D.li v (List.mem_cons_of_mem _ hv) u List.mem_cons_self) e,y⟩
  ·refine hQ h3 z3 ?_ (fun v hv=>?_) (by rw [s3]; show h2.objs.size=_; rw [sb2.1,sb1.1]) fun b o h1 h2 e=>k3 b o h1 (fun v hv=>h2 v (List.mem_cons_of_mem _ hv)) (kp b o h1 (h2 u List.mem_cons_self) e)
   ·have e:u.2.getD n .none=x:=by simp [Array.getD_eq_getD_getElem?,hx]
    show TupO h3 TO (drawn n r (c+1) (arr.setIfInBounds c (u.2.getD n .none)))
    rw [e]; exact T3
   ·rcases List.mem_cons.mp hv with rfl | hv
    ·exact ha1.keep fun o e=>k3 _ o ut (fun v' hv'=>(hui v' hv').symm) (sb2.extBut _ _ ut e)
    ·exact a3 v hv
theorem draws_end {z TI TO:Addr} {n:Nat} {B:Value×Nat→Option Fin×Unit→Sem (ForInStep (Option Fin×Unit))} (hh:A.handled=none) (hB:DrawB prog w A z TO E B) :
  ∀ (ss:List (Sub×Array Value)) (c:Nat) (arr:Array Value) (s:Shared) (Q:Option Fin×Unit→Shared→Prop),Apart z TO ss→IsZip s.heap z TI TO .ellipsis→TupO s.heap TO arr→arr.size≤sizeLine →
   (∀ u∈ss,u.1.At s.heap n∧u.1.Src s.heap u.2)→(∃ u∈ss,u.2[n]?=none) →
   (∀ h' e,(∀ b o,b≠z→b≠TO→(∀ u∈ss,b≠u.1.i)→s.heap.get? b=some o→h'.get? b=some o)→(∃ o,h'.get? e=some o∧o.cls=.type "StopIteration")→E (.ref e) { s with heap:=h' }) →
   wpAny (model prog w) A (forIn ((ss.map fun u=>Value.ref u.1.i).zipIdx c) (none,()) B) Q E s:=by
 intro ss
 induction ss with
 | nil=>
  intro c arr s Q D hz hT hl hu hx hQ
  obtain ⟨_,h,_⟩:=hx
  exact absurd h List.not_mem_nil
 | cons u r ih=>
  intro c arr s Q D hz hT hl hu hx hQ
  simp only [List.map_cons,List.zipIdx_cons,List.forIn_cons]
  obtain ⟨ha,hsrc⟩:=hu u List.mem_cons_self
  have uz:=D.zi u List.mem_cons_self
  have ut:=D.ti u List.mem_cons_self
  cases hu0:u.2[n]? with
  | none=>
   refine wpAny_bind (hB _ _ _ _ (Sub.ends hh ha hsrc hu0 fun h1 e eb he=>?_))
   obtain ⟨oe,hoe,hce⟩:=he
   have hz1:IsZip h1 z TI TO .ellipsis:=eb _ _ uz.symm hz
   have hez:e≠z:=fun x=>by subst x; rw [hz1] at hoe; cases hoe; simp at hce
   exact wpAny_setField_rec hz1 (by simp) fun h3 _ sb3=>hQ h3 e (fun b o b1 b2 b3 q=>sb3.extBut _ _ b1 (eb _ _ (b3 u List.mem_cons_self) q)) ⟨oe,sb3.extBut _ _ hez hoe,hce⟩
  | some x=>
   refine wpAny_bind (hB _ _ _ _ (Sub.item ha hsrc hu0 fun h1 ha1 sb1=>⟨arr,sb1.extBut _ _ ut.symm hT,hl,fun h2 hT2 sb2=>?_⟩))
   have kp:∀ b o,b≠TO→b≠u.1.i→s.heap.get? b=some o→h2.get? b=some o:=fun b o h1 h2 e=>sb2.extBut _ _ h1 (sb1.extBut _ _ h2 e)
   have hui:∀ v∈r,v.1.i≠u.1.i:=fun v hv=>((List.pairwise_cons.mp D.nd).1 v hv).symm
   refine ih (c+1) (arr.setIfInBounds c x) { s with heap:=h2 } Q D.tail (kp _ _ D.zTO uz.symm hz) hT2 (by simpa using hl) (fun v hv=>?_) ?_ fun h3 e k3 he=>?_
   ·obtain ⟨a,b⟩:=hu v (List.mem_cons_of_mem _ hv)
    exact ⟨a.keep fun o e=>kp _ o (D.ti v (List.mem_cons_of_mem _ hv)) (hui v hv) e,b.keep fun o e=>kp _ o (D.lt v (List.mem_cons_of_mem _ hv)) (D.li v (List.mem_cons_of_mem _ hv) u List.mem_cons_self) e⟩
   ·obtain ⟨v,hv,e⟩:=hx
    rcases List.mem_cons.mp hv with rfl | hv
    ·rw [hu0] at e; cases e
    ·exact ⟨v,hv,e⟩
   ·exact hQ h3 e (fun b o b1 b2 b3 q=>k3 b o b1 b2 (fun v hv=>b3 v (List.mem_cons_of_mem _ hv)) (kp b o b2 (b3 u List.mem_cons_self) q)) he
theorem drawn_size (n:Nat):∀ (ss:List (Sub×Array Value)) (c:Nat) (arr:Array Value),(drawn n ss c arr).size=arr.size:=by
 intro ss
 induction ss with
 | nil=>intro c arr; rfl
 | cons u r ih=>intro c arr; unfold drawn; rw [ih]; simp
theorem drawn_get (n:Nat):∀ (ss:List (Sub×Array Value)) (c:Nat) (arr:Array Value),c+ss.length=arr.size→(drawn n ss c arr).toList=arr.toList.take c++ss.map fun u=>u.2.getD n .none:=by
 intro ss
 induction ss with
 | nil=>
  intro c arr h
  unfold drawn
  simp at h; subst h
  rw [List.map_nil,List.append_nil]
  exact (List.take_of_length_le (by simp)).symm
 | cons u r ih=>
  intro c arr h
  unfold drawn
  have hc:c<arr.size:=by simp at h; omega
  rw [ih (c+1) _ (by simp at h ⊢; omega)]
  rw [List.map_cons,Array.toList_setIfInBounds]
  have:(arr.toList.set c (u.2.getD n Value.none)).take (c+1)=arr.toList.take c ++ [u.2.getD n Value.none]:=by
   rw [List.take_add_one,List.take_set,List.getElem?_set_self (by simpa using hc)]
   rw [List.set_eq_of_length_le (by simp; omega)]; rfl
  rw [this,List.append_assoc]; rfl
theorem zip_item {z TI TO:Addr} {n:Nat} {ss:List (Sub×Array Value)} {arr:Array Value} {Q:Option Value→Shared→Prop} (D:Apart z TO ss) (hne:ss ≠ []) (hsz:arr.size=ss.length) (hline:ss.length≤sizeLine)
  (hz:IsZip s.heap z TI TO .none) (hTI:TupO s.heap TI (ss.map fun u=>Value.ref u.1.i).toArray) (hTO:TupO s.heap TO arr) (hu:∀ u∈ss,u.1.At s.heap n∧u.1.Src s.heap u.2∧∃ x,u.2[n]?=some x)
  (hQ:∀ h',IsZip h' z TI TO (rawInt s.heap.objs.size)→(∃ arr',TupO h' TO arr'∧arr'.size=ss.length)→(∀ u∈ss,u.1.At h' (n+1))→TupO h' s.heap.objs.size (ss.map fun u=>u.2.getD n .none).toArray →
   (∀ b o,b≠z→b≠TO→(∀ u∈ss,b≠u.1.i)→s.heap.get? b=some o→h'.get? b=some o)→Q (some (.ref s.heap.objs.size)) { s with heap:=h' }) :
  wpAny (model prog w) A (pyNext (.ref z)) Q E s:=by
 have hT:s.TypeIs (.ref z) "zip" := ⟨_,hz,rfl⟩
 unfold pyNext
 refine wpAny_bind (wpAny_attempt (wpAny_callSpecial?_slot (name:=Str.ofString "__next__") hT F.slot_zip_next (wpAny_call_entry F.slot_zip_next hT F.entry_zip_next ?_ (F.args_zip_next_1 _))))
 show wpAny _ _ (field (.ref z) 2>>=_) _ _ _; refine wpAny_bind (wpAny_field hz rfl (x:=.bool false) rfl ?_)
 show wpAny _ _ (field (.ref z) 3>>=_) _ _ _; refine wpAny_bind (wpAny_field hz rfl (x:=.ref TI) rfl ?_); refine wpAny_bind (wpAny_seqItems hTI rfl ?_)
 have e1:(ss.map fun u=>Value.ref u.1.i).toArray.isEmpty=false:=by cases ss <;> simp_all
 simp only [e1]
 refine wpAny_bind ?_; unfold Builtin.SmallTypes.ownedTupleIsFree; refine wpAny_bind (wpAny_field hz rfl (x:=.none) rfl (wpAny_pure ?_)); simp only [if_true]
 refine wpAny_bind (wpAny_rule ?_); refine wpAny_bind (wpAny_field hz rfl (x:=.ref TO) rfl ?_)
 refine wpAny_bind (wpAny_setField_rec hz (by simp) fun h1 z1 sb1=>?_); replace z1:IsZip h1 z TI TO .ellipsis:=z1
 refine wpAny_bind (draws (TI:=TI) (n:=n) (z:=z) (TO:=TO) ?_ ss 0 arr _ _ D z1 (sb1.extBut _ _ D.zTO.symm hTO) (by omega) (fun u hm=>?_) fun h2 z2 T2 a2 s2 k2=>?_)
 ·intro v k s Q h
  refine wpAny_bind (wpAny_onRaise ?_)
  show wpAny _ _ (Builtin.SmallTypes.nextOf v>>=_) _ _ _
  refine wpAny_bind (wpAny_mono h (fun x s1 ⟨arr,hT1,hl,hq⟩=>wpAny_pure ?_) fun e s1 he=>he)
  refine wpAny_bind (wpAny_seqItems hT1 rfl ?_)
  refine wpAny_bind (wpAny_updateSeq hT1 rfl ?_ hl (by rw [Array.size_setIfInBounds]; omega))
  refine wpAny_bind (wpAny_letGo (wpAny_pure (hq _ ?_ (Heap.SameBut.update ..))))
  show Heap.get? _ _=_
  rw [Heap.get?_update_self _ hT1 rfl]; simp [Obj.mapSeq]
 ·obtain ⟨a,b,x⟩:=hu u hm
  exact ⟨a.keep fun o e=>sb1.extBut _ _ (D.zi u hm) e,b.keep fun o e=>sb1.extBut _ _ (D.lz u hm) e,x⟩
 ·have ed:(drawn n ss 0 arr).toList=ss.map fun u=>u.2.getD n .none:=by rw [drawn_get n ss 0 arr (by omega)]; simp
  refine wpAny_bind (wpAny_seqItems T2 rfl ?_)
  have hs2:h2.objs.size=s.heap.objs.size:=by rw [s2]; exact sb1.1
  have hlz:z<h2.objs.size:=Heap.lt_size z2
  refine wpAny_bind (wpAny_newTuple (wpAny_bind ?_) (by rw [ed,List.length_map]; exact hline))
  unfold Builtin.SmallTypes.ownedTupleHandOut
  have z3:IsZip (h2.push { cls:=.type "tuple",data:=.seq (drawn n ss 0 arr).toList.toArray }) z TI TO .ellipsis:=Heap.get?_push_of_some _ z2
  refine wpAny_bind (wpAny_setField_rec z3 (by simp) fun h4 z4 sb4=>?_); replace z4:IsZip h4 z TI TO (rawInt h2.objs.size):=z4
  refine wpAny_setField_rec z4 (by simp) fun h5 z5 sb5=>?_; replace z5:IsZip h5 z TI TO (rawInt h2.objs.size):=z5
  have up:∀ b o,b≠z→h2.get? b=some o→h5.get? b=some o:=fun b o hb e=>sb5.extBut _ _ hb (sb4.extBut _ _ hb (Heap.get?_push_of_some _ e))
  have T5:TupO h5 h2.objs.size (drawn n ss 0 arr).toList.toArray:=sb5.extBut _ _ (Nat.ne_of_gt hlz) (sb4.extBut _ _ (Nat.ne_of_gt hlz) (Heap.get?_push_size _ rfl))
  rw [ed] at T5
  rw [hs2] at z5 T5
  refine wpAny_pure ⟨_,rfl,wpAny_pure ?_⟩
  show Q (some (.ref h2.objs.size)) _
  rw [hs2]
  exact hQ h5 z5 ⟨_,up _ _ D.zTO.symm T2,by rw [drawn_size,hsz]⟩ (fun u hm=>(a2 u hm).keep fun o e=>up _ o (D.zi u hm) e) T5 fun b o b1 b2 b3 e=>up b o b1 (k2 b o b2 b3 (sb1.extBut _ _ b1 e))
theorem zip_stop {z TI TO:Addr} {n:Nat} {ss:List (Sub×Array Value)} {arr:Array Value} {Q:Option Value→Shared→Prop} (hh:A.handled=none) (D:Apart z TO ss) (hsz:arr.size=ss.length) (hline:ss.length≤sizeLine)
  (hz:IsZip s.heap z TI TO .none) (hTI:TupO s.heap TI (ss.map fun u=>Value.ref u.1.i).toArray) (hTO:TupO s.heap TO arr) (hu:∀ u∈ss,u.1.At s.heap n∧u.1.Src s.heap u.2) (hx:∃ u∈ss,u.2[n]?=none)
  (hQ:∀ h',(∀ b o,b≠z→b≠TO→(∀ u∈ss,b≠u.1.i)→s.heap.get? b=some o→h'.get? b=some o)→Q none { s with heap:=h' }) :
  wpAny (model prog w) A (pyNext (.ref z)) Q E s:=by
 have hT:s.TypeIs (.ref z) "zip" := ⟨_,hz,rfl⟩
 unfold pyNext
 refine wpAny_bind (wpAny_attempt (wpAny_callSpecial?_slot (name:=Str.ofString "__next__") hT F.slot_zip_next (wpAny_call_entry F.slot_zip_next hT F.entry_zip_next ?_ (F.args_zip_next_1 _))))
 show wpAny _ _ (field (.ref z) 2>>=_) _ _ _; refine wpAny_bind (wpAny_field hz rfl (x:=.bool false) rfl ?_)
 show wpAny _ _ (field (.ref z) 3>>=_) _ _ _; refine wpAny_bind (wpAny_field hz rfl (x:=.ref TI) rfl ?_); refine wpAny_bind (wpAny_seqItems hTI rfl ?_)
 have e1:(ss.map fun u=>Value.ref u.1.i).toArray.isEmpty=false:=by
  obtain ⟨u,hm,_⟩:=hx
  cases ss with
  | nil=>exact nomatch hm
  | cons a b=>simp
 simp only [e1]
 refine wpAny_bind ?_; unfold Builtin.SmallTypes.ownedTupleIsFree; refine wpAny_bind (wpAny_field hz rfl (x:=.none) rfl (wpAny_pure ?_)); simp only [if_true]
 refine wpAny_bind (wpAny_rule ?_); refine wpAny_bind (wpAny_field hz rfl (x:=.ref TO) rfl ?_)
 refine wpAny_bind (wpAny_setField_rec hz (by simp) fun h1 z1 sb1=>?_); replace z1:IsZip h1 z TI TO .ellipsis:=z1
 refine wpAny_bind (draws_end (A:=A.in1) (TI:=TI) (n:=n) (z:=z) (TO:=TO) (show A.in1.handled=none from hh) ?_ ss 0 arr _ _ D z1 (sb1.extBut _ _ D.zTO.symm hTO) (by omega) (fun u hm=>?_) hx fun h2 e k2 he=>?_)
 ·intro v k s Q h
  refine wpAny_bind (wpAny_onRaise ?_)
  show wpAny _ _ (Builtin.SmallTypes.nextOf v>>=_) _ _ _
  refine wpAny_bind (wpAny_mono h (fun x s1 ⟨arr,hT1,hl,hq⟩=>wpAny_pure ?_) fun e s1 he=>he)
  refine wpAny_bind (wpAny_seqItems hT1 rfl ?_)
  refine wpAny_bind (wpAny_updateSeq hT1 rfl ?_ hl (by rw [Array.size_setIfInBounds]; omega))
  refine wpAny_bind (wpAny_letGo (wpAny_pure (hq _ ?_ (Heap.SameBut.update ..))))
  show Heap.get? _ _=_
  rw [Heap.get?_update_self _ hT1 rfl]; simp [Obj.mapSeq]
 ·obtain ⟨a,b⟩:=hu u hm
  exact ⟨a.keep fun o e=>sb1.extBut _ _ (D.zi u hm) e,b.keep fun o e=>sb1.extBut _ _ (D.lz u hm) e⟩
 ·obtain ⟨o,ho,hc⟩:=he
  refine wpAny_bind (wpAny_isInstance (T := "StopIteration") (b:=true) ⟨o,ho,hc⟩ isSubtype_stop ?_)
  exact wpAny_pure (hQ _ fun b o b1 b2 b3 e=>k2 b o b1 b2 b3 (sb1.extBut _ _ b1 e))
noncomputable def SrcAt (h:Heap) (u:Bool×Addr×Array Value):Prop:=if u.1=true then h.IsTuple u.2.1 u.2.2 else h.IsList u.2.1 u.2.2
noncomputable def subsFrom (n:Nat):List (Bool×Addr×Array Value)→List (Sub×Array Value)
 | []=>[]
 | u::r=>(⟨u.1,n,u.2.1⟩,u.2.2)::subsFrom (n+1) r
theorem iter_src {u:Bool×Addr×Array Value} {Q:Value→Shared→Prop} (hs:SrcAt s.heap u)
  (hQ:∀ h',(Sub.mk u.1 s.heap.objs.size u.2.1).At h' 0→h'.objs.size=s.heap.objs.size+1→(∀ b o,s.heap.get? b=some o→h'.get? b=some o)→Q (.ref s.heap.objs.size) { s with heap:=h' }) :
  wpAny (model prog w) A (pyIter (.ref u.2.1)) Q E s:=by
 unfold SrcAt at hs
 cases ht:u.1 with
 | true=>
  simp only [ht,if_true] at hs
  refine wpAny_pyIter_tuple hs (hQ _ ?_ (Heap.size_push ..) fun b o e=>Heap.get?_push_of_some _ e)
  unfold Sub.At
  simp only [ht,if_true]
  exact ⟨_,Heap.get?_push_size _ rfl,rfl,rfl⟩
 | false=>
  simp only [ht,Bool.false_eq_true,if_false] at hs
  refine wpAny_pyIter_list hs (hQ _ ?_ (Heap.size_push ..) fun b o e=>Heap.get?_push_of_some _ e)
  unfold Sub.At
  simp only [ht,Bool.false_eq_true,if_false]
  exact ⟨_,Heap.get?_push_size _ rfl,rfl,rfl⟩
theorem SrcAt.keep {h h':Heap} {u:Bool×Addr×Array Value} (x:SrcAt h u) (k:∀ b o,h.get? b=some o→h'.get? b=some o):SrcAt h' u:=by
 unfold SrcAt at x ⊢
 split at x <;> (rename_i ht; obtain ⟨o,e,r⟩:=x; simp only [ht,if_true,if_false,Bool.false_eq_true]; exact ⟨o,k _ o e,r⟩)
theorem iter_all_go:∀ (us:List (Bool×Addr×Array Value)) (acc:Array Value) (s:Shared) (Q:Array Value→Shared→Prop),(∀ u∈us,SrcAt s.heap u) →
  (∀ h',(∀ v∈subsFrom s.heap.objs.size us,v.1.At h' 0)→h'.objs.size=s.heap.objs.size+us.length→(∀ b o,s.heap.get? b=some o→h'.get? b=some o) →
   Q (acc++((subsFrom s.heap.objs.size us).map fun v=>Value.ref v.1.i).toArray) { s with heap:=h' }) →
  wpAny (model prog w) A (forIn (us.map fun u=>Value.ref u.2.1) acc fun x r=>do let y ← holding r.toList (pyIter x); pure (ForInStep.yield (r.push y))) Q E s:=by
 intro us
 induction us with
 | nil=>
  intro acc s Q _ hQ
  simp only [List.map_nil,List.forIn_nil]
  have:=hQ s.heap (fun _ h=>absurd h List.not_mem_nil) rfl fun _ _ e=>e
  exact wpAny_pure (by simpa [subsFrom] using this)
 | cons u r ih=>
  intro acc s Q hs hQ
  simp only [List.map_cons,List.forIn_cons]
  refine wpAny_bind (wpAny_bind (wpAny_holding (iter_src (hs u List.mem_cons_self) fun h1 a1 s1 k1=>wpAny_pure ?_)))
  refine ih (acc.push (.ref s.heap.objs.size)) { s with heap:=h1 } Q (fun v hv=>(hs v (List.mem_cons_of_mem _ hv)).keep k1) fun h2 a2 s2 k2=>?_
  have e0:subsFrom h1.objs.size r=subsFrom (s.heap.objs.size+1) r:=by rw [s1]
  have q:=hQ h2 (fun v hv=>?_) (by rw [s2]; show h1.objs.size+_=_; rw [s1,List.length_cons]; omega) fun b o e=>k2 b o (k1 b o e)
  ·have e:acc.push (Value.ref s.heap.objs.size)++(List.map (fun v=>Value.ref v.1.i) (subsFrom h1.objs.size r)).toArray=acc++(List.map (fun v=>Value.ref v.1.i) (subsFrom s.heap.objs.size (u::r))).toArray:=by
    rw [e0]; simp [subsFrom]
   show Q (acc.push (Value.ref s.heap.objs.size)++(List.map (fun v=>Value.ref v.1.i) (subsFrom h1.objs.size r)).toArray) _
   rw [e]; exact q
  ·rcases List.mem_cons.mp hv with rfl | hv
   ·exact a1.keep fun o e=>k2 _ o e
   ·exact a2 v (by show v∈subsFrom h1.objs.size r; rw [e0]; exact hv)
theorem iter_all {us:List (Bool×Addr×Array Value)} {Q:List Value→Shared→Prop} (hs:∀ u∈us,SrcAt s.heap u)
  (hQ:∀ h',(∀ v∈subsFrom s.heap.objs.size us,v.1.At h' 0)→h'.objs.size=s.heap.objs.size+us.length→(∀ b o,s.heap.get? b=some o→h'.get? b=some o) →
   Q ((subsFrom s.heap.objs.size us).map fun v=>Value.ref v.1.i) { s with heap:=h' }):wpAny (model prog w) A (Builtin.SmallTypes.iterAll (us.map fun u=>Value.ref u.2.1)) Q E s:=by
 unfold Builtin.SmallTypes.iterAll
 refine wpAny_bind (iter_all_go us #[] s _ hs fun h' a1 s1 k1=>wpAny_pure ?_)
 have:=hQ h' a1 s1 k1
 simpa using this
theorem subs_length:∀ (us:List (Bool×Addr×Array Value)) (n:Nat),(subsFrom n us).length=us.length:=by
 intro us
 induction us with
 | nil=>intro n; rfl
 | cons u r ih=>intro n; unfold subsFrom; rw [List.length_cons,ih,List.length_cons]
theorem meets_zip (us:List (Bool×Addr×Array Value)) (hl:us.length≤sizeLine) :
  Meets (Builtin.«zip.__new__» ⟨.type "zip" :: us.map fun u=>Value.ref u.2.1,[]⟩) (fun _ R s=>(∀ u∈us,SrcAt s.heap u) ∧
   ∀ h',(∀ v∈subsFrom s.heap.objs.size us,v.1.At h' 0)→TupO h' (s.heap.objs.size+us.length) ((subsFrom s.heap.objs.size us).map fun v=>Value.ref v.1.i).toArray →
    (∃ arr,TupO h' (s.heap.objs.size+us.length+1) arr∧arr.size=us.length)→IsZip h' (s.heap.objs.size+us.length+2) (s.heap.objs.size+us.length) (s.heap.objs.size+us.length+1) .none →
    (∀ b o,s.heap.get? b=some o→h'.get? b=some o)→R (.ok (.ret (.ref (s.heap.objs.size+us.length+2)))) { s with heap:=h' }):=
 .of_wp fun prog w A R s h=>by
  obtain ⟨hs,h⟩:=h
  show wpAny _ _ (Builtin.SmallTypes.newClass "zip" _>>=_) _ _ _
  refine wpAny_bind ?_
  unfold Builtin.SmallTypes.newClass
  refine wpAny_bind (wpAny_of_eq (a:=true) rfl ?_)
  simp only [Bool.not_true,Bool.false_eq_true,if_false]
  refine wpAny_bind (wpAny_of_eq (a:=true) sub_zip ?_)
  simp only [Bool.not_true,Bool.false_eq_true,if_false]
  refine wpAny_pure ?_
  simp only [List.length_nil,show ¬ (0>1) by decide,if_false]
  refine wpAny_bind (iter_all hs fun h1 a1 s1 k1=>?_)
  refine wpAny_bind (wpAny_newTuple ?_ (by simp [subs_length,hl]))
  refine wpAny_bind (wpAny_newTuple ?_ (by simp [subs_length,hl]))
  generalize hI:((subsFrom s.heap.objs.size us).map fun v=>Value.ref v.1.i)=I at h ⊢
  have hIl:I.length=us.length:=by rw [← hI,List.length_map,subs_length]
  refine wpAny_bind ?_
  show wpAny _ _ (newObj (.type "zip") (.fields #[.none,.bool false,.bool false,.ref h1.objs.size,.ref (h1.push { cls:=.type "tuple",data:=.seq I.toArray }).objs.size]) none) _ _ _
  refine wpAny_newObj_type (wpAny_pure ?_) (by size_fits)
  have z0:h1.objs.size=s.heap.objs.size+us.length:=s1
  have z1:(h1.push { cls:=.type "tuple",data:=.seq I.toArray }).objs.size=s.heap.objs.size+us.length+1:=by rw [Heap.size_push,s1]
  have z2:((h1.push { cls:=.type "tuple",data:=.seq I.toArray }).push { cls:=.type "tuple",data:=.seq (I.map fun _=>Value.none).toArray }).objs.size=s.heap.objs.size+us.length+2:=by rw [Heap.size_push,z1]
  refine ⟨_,rfl,?_⟩
  have g:=h (((h1.push { cls:=.type "tuple",data:=.seq I.toArray }).push { cls:=.type "tuple",data:=.seq (I.map fun _=>Value.none).toArray }).push { cls:=.type "zip",data:=.fields #[.none,.bool false,.bool false,.ref h1.objs.size,.ref (h1.push { cls:=.type "tuple",data:=.seq I.toArray }).objs.size] })
   (fun v hv=>(a1 v hv).keep fun o e=>Heap.get?_push_of_some _ (Heap.get?_push_of_some _ (Heap.get?_push_of_some _ e))) ?_ ⟨(I.map fun _=>Value.none).toArray,?_,by simp [hIl]⟩ ?_ fun b o e=>Heap.get?_push_of_some _ (Heap.get?_push_of_some _ (Heap.get?_push_of_some _ (k1 b o e)))
  ·rw [← z2] at g
   exact g
  ·rw [← z0]; exact Heap.get?_push_of_some _ (Heap.get?_push_of_some _ (Heap.get?_push_size _ rfl))
  ·rw [← z1]; exact Heap.get?_push_of_some _ (Heap.get?_push_size _ rfl)
  ·rw [← z2,← z1,← z0]; exact Heap.get?_push_size _ rfl
theorem tcall_zip3 (a b c:Value):checkTypeCall "zip" ⟨[a,b,c],[]⟩=pure ():=by kernel_rfl
theorem ncall_zip3 (a b c:Value):checkBuiltinCall "zip.__new__" ⟨[.type "zip",a,b,c],[]⟩=pure ():=by kernel_rfl
theorem args_init4 (a b c d:Value):argsOk "object.__init__" ⟨[a,b,c,d],[]⟩:=by
 unfold argsOk; rw [signature?_of (id := "object.__init__") (n:=['_','_','t','i','n','i','_','_']) (o:=['t','c','e','j','b','o']) (by kernel_rfl) F.owner_object]; kernel_rfl
theorem call_zip (us:List (Bool×Addr×Array Value)) (hl:us.length=2∨us.length=3) {Q:Value→Shared→Prop} (hs:∀ u∈us,SrcAt s.heap u)
  (h:∀ h',(∀ v∈subsFrom s.heap.objs.size us,v.1.At h' 0)→TupO h' (s.heap.objs.size+us.length) ((subsFrom s.heap.objs.size us).map fun v=>Value.ref v.1.i).toArray →
    (∃ arr,TupO h' (s.heap.objs.size+us.length+1) arr∧arr.size=us.length)→IsZip h' (s.heap.objs.size+us.length+2) (s.heap.objs.size+us.length) (s.heap.objs.size+us.length+1) .none →
    (∀ b o,s.heap.get? b=some o→h'.get? b=some o)→Q (.ref (s.heap.objs.size+us.length+2)) { s with heap:=h' }) :
  wpAny (model prog w) A (call (.type "zip") (us.map fun u=>Value.ref u.2.1)) Q E s:=by
 have hle:us.length≤sizeLine:=Nat.le_trans (show us.length≤3 by omega) (by decide)
 have k:∀ h',_→_→_→_→_→({ s with heap:=h' }:Shared).TypeIs (.ref (s.heap.objs.size+us.length+2)) "zip" ∧ Q (.ref (s.heap.objs.size+us.length+2)) { s with heap:=h' }:=fun h' c1 c2 c3 c4 c5=>⟨⟨_,c4,rfl⟩,h h' c1 c2 c3 c4 c5⟩
 cases us with
 | nil=>rcases hl with hl | hl <;> cases hl
 | cons a us=>
  cases us with
  | nil=>rcases hl with hl | hl <;> cases hl
  | cons b us=>
   cases us with
   | nil=>exact callType_new F.called_zip (by decide) (F.typeCall_zip_2 _ _) (F.newCall_zip_2 _ _) (fun obj=>F.args_object_init_3 obj _ _) F.entry_zip_new (meets_zip [a,b] hle) ⟨hs,k⟩
   | cons c us=>
    cases us with
    | nil=>exact callType_new F.called_zip (by decide) (tcall_zip3 _ _ _) (ncall_zip3 _ _ _) (fun obj=>args_init4 obj _ _ _) F.entry_zip_new (meets_zip [a,b,c] hle) ⟨hs,k⟩
    | cons d us=>rcases hl with hl | hl <;> (simp only [List.length_cons] at hl; omega)
end
end L2
set_option Elab.async false
set_option linter.all false
set_option maxRecDepth 100000
namespace L2
open PySem PySem.Spec PyProof.Rows
theorem choose_list {α β:Type} {R:α→β→Prop}:∀ {l:List α},(∀ a∈l,∃ b,R a b)→∃ l':List (α×β),l'.map (·.1)=l∧∀ p∈l',R p.1 p.2
 | [],_=>⟨[],rfl,fun _ h=>nomatch h⟩
 | a::l,h=>by
  obtain ⟨b,hb⟩:=h a List.mem_cons_self
  obtain ⟨l',e,q⟩:=choose_list fun x hx=>h x (List.mem_cons_of_mem _ hx)
  refine ⟨(a,b)::l',by rw [List.map_cons,e],fun p hp=>?_⟩
  rcases List.mem_cons.mp hp with rfl | hp
  ·exact hb
  ·exact q p hp
noncomputable def Sq (K:PySem.W.Frag) (H:Hp) (t:Bool) (a:Addr) (xs:List V):Prop:=if t=true then SqT K H a xs else SqL K H a xs
section
variable {X:Cx} {pins:List (Addr×Obj)} {σ:St} {H:Hp} {s:Shared}
theorem kne {b a:Addr} {o:Obj} (I:Inv X pins σ H s) (h:X.K.lookup a=some o) (f:FpOk X pins H b):a≠b:=by
 intro e
 subst e
 have hb:X.base.get? a=some o:=I.mod.kin a o h
 obtain ⟨f0,f1,f2,f3,f4,f5⟩:=f
 rcases f3 with z | z
 ·exact I.ok.noex a o hb z
 ·exact absurd (Nat.lt_of_lt_of_le (Heap.lt_size (I.ok.bs a o hb).1) z) (Nat.lt_irrefl _)
theorem Sq.ne {t:Bool} {a b:Addr} {xs:List V} (I:Inv X pins σ H s) (h:Sq X.K H t a xs) (f:FpOk X pins H b):a≠b:=by
 have tr:∀ {u:HO},Rd H a u→a≠b:=fun {u} r e=>by
  subst e
  have f0:=f.1
  rcases r with r | ⟨o,r⟩ <;> (rw [f0] at r; cases r)
 unfold Sq at h
 split at h
 ·rcases h with h | ⟨o,its,n,hk,_⟩
  ·exact tr h
  ·exact kne I hk f
 ·rcases h with h | ⟨o,its,n,hk,_⟩
  ·exact tr h
  ·exact kne I hk f
theorem Sq.src {t:Bool} {a:Addr} {xs:List V} (I:Inv X pins σ H s) (h:Sq X.K H t a xs):∃ its:List Value,Vals xs its∧(Sub.mk t 0 a).Src s.heap its.toArray:=by
 unfold Sq at h
 unfold Sub.Src
 split at h
 ·rename_i ht
  obtain ⟨its,r,p,_⟩:=I.tuple h
  exact ⟨its,r,by simp only [ht,if_true]; exact p⟩
 ·rename_i ht
  obtain ⟨its,r,p,_⟩:=I.list h
  exact ⟨its,r,by simp only [ht,if_false]; exact p.isList⟩
theorem Sq.inj {t:Bool} {a:Addr} {xs ys:List V} (I:Inv X pins σ H s) (h:Sq X.K H t a xs) (h':Sq X.K H t a ys):xs=ys:=by
 unfold Sq at h h'
 split at h
 ·rename_i ht; simp only [ht,if_true] at h'; exact I.tuple_inj h h'
 ·rename_i ht; simp only [ht,if_false] at h'; exact I.list_inj h h'
end
noncomputable def ItZ (K:PySem.W.Frag) (us:List (Bool×Addr)):It:=
  ⟨fun i H=>∀ u∈us,∃ xs x,Sq K H u.1 u.2 xs∧xs[i]?=some x,
   fun i H x H'=>∃ p ys,x=.ref p∧H p=none∧H'=upd H p (.tup ys)∧Paired (fun (u:Bool×Addr) (y:V)=>∀ xs,Sq K H u.1 u.2 xs→xs[i]?=some y) us ys,
   fun i H=>(∀ u∈us,∃ xs,Sq K H u.1 u.2 xs)∧∃ u∈us,∃ xs,Sq K H u.1 u.2 xs∧xs.length≤i⟩
structure ZSt (z TI TO:Addr) (subs:List Sub):Prop where
 zTO:z≠TO
 TIz:TI≠z
 TITO:TI≠TO
 zi:∀ u∈subs,u.i≠z
 ti:∀ u∈subs,u.i≠TO
 Ii:∀ u∈subs,u.i≠TI
 nd:subs.Pairwise fun u v=>u.i≠v.i
noncomputable abbrev zTn (z TI TO:Addr) (subs:List Sub) (i:Nat) (h:Heap):Prop:=
 IsZip h z TI TO .none∧TupO h TI (subs.map fun u=>Value.ref u.i).toArray∧(∃ arr,TupO h TO arr∧arr.size=subs.length)∧∀ u∈subs,u.At h i
theorem paired_map {α β γ:Type} {F:α→γ→Prop} {f:β→α} {g:β→γ}:∀ {l:List β},(∀ b∈l,F (f b) (g b))→Paired F (l.map f) (l.map g)
 | [],_=>.nil
 | _::_,h=>.cons (h _ List.mem_cons_self) (paired_map fun b hb=>h b (List.mem_cons_of_mem _ hb))
theorem turn_zip {P:Program} {w:World} {K:PySem.W.Frag} {elts:List Expr} {k:Nat} {tp:Pos} {z TI TO:Addr} {subs:List Sub} (D:ZSt z TI TO subs) (hne:subs ≠ []) (hln:subs.length≤sizeLine) :
  Turn P w K (.Tuple elts k tp) (ItZ K (subs.map fun u=>(u.t,u.l))) (z::TI::TO::subs.map (·.i)) z (zTn z TI TO subs) where
 mem:=by simp
 obj:=fun i h st b hb=>by
  obtain ⟨hz,hTI,⟨arr,hTO,_⟩,hs⟩:=st
  simp only [List.mem_cons,List.mem_map] at hb
  rcases hb with rfl | rfl | rfl | ⟨u,hu,rfl⟩
  ·exact ⟨_,hz,fun v q=>by cases q⟩
  ·exact ⟨_,hTI,fun v q=>by cases q⟩
  ·exact ⟨_,hTO,fun v q=>by cases q⟩
  ·obtain ⟨o,e,d⟩:=(hs u hu).obj
   exact ⟨o,e,fun v q=>by rw [d] at q; cases q⟩
 keep:=fun i h h' st kp=>by
  obtain ⟨hz,hTI,⟨arr,hTO,ha⟩,hs⟩:=st
  exact ⟨kp z (by simp) _ hz,kp TI (by simp) _ hTI,⟨arr,kp TO (by simp) _ hTO,ha⟩,fun u hu=>(hs u hu).keep fun o e=>kp u.i (by simp only [List.mem_cons,List.mem_map]; exact .inr (.inr (.inr ⟨u,hu,rfl⟩))) o e⟩
 item:=by
  intro X hP hw hK hc i pins s σ H E I hf st hg
  subst hP hw hK
  obtain ⟨hz,hTI,⟨arr,hTO,ha⟩,hs⟩:=st
  have fz:=hf z (by simp)
  have fT:=hf TO (by simp)
  have fi:∀ u∈subs,FpOk X pins H u.i:=fun u hu=>hf u.i (by simp only [List.mem_cons,List.mem_map]; exact .inr (.inr (.inr ⟨u,hu,rfl⟩)))
  obtain ⟨ss,ess,hss⟩:=choose_list (R:=fun (u:Sub) (q:List Value×List V×V)=>Sq X.K H u.t u.l q.2.1∧Vals q.2.1 q.1∧u.Src s.heap q.1.toArray∧q.2.1[i]?=some q.2.2) (l:=subs) (fun u hu=>by
   obtain ⟨xs,x,h1,h2⟩:=hg (u.t,u.l) (List.mem_map.mpr ⟨u,hu,rfl⟩)
   obtain ⟨its,r,hsrc⟩:=Sq.src I h1
   exact ⟨(its,xs,x),h1,r,hsrc,h2⟩)
  have mss:∀ v∈ss,v.1∈subs:=fun v hv=>by rw [← ess]; exact List.mem_map.mpr ⟨v,hv,rfl⟩
  have nd2:ss.Pairwise fun u v=>u.1.i≠v.1.i:=by
   have:=D.nd
   rw [← ess,List.pairwise_map] at this
   exact this
  have DA:Apart z TO (ss.map fun v=>(v.1,v.2.1.toArray)):=by
   refine ⟨D.zTO,?_,?_,?_,?_,?_,?_⟩
   ·rintro _ hu; obtain ⟨v,hv,rfl⟩:=List.mem_map.mp hu; exact D.zi _ (mss v hv)
   ·rintro _ hu; obtain ⟨v,hv,rfl⟩:=List.mem_map.mp hu; exact D.ti _ (mss v hv)
   ·rw [List.pairwise_map]; exact nd2
   ·rintro _ hu; obtain ⟨v,hv,rfl⟩:=List.mem_map.mp hu; exact Sq.ne I (hss v hv).1 fz
   ·rintro _ hu; obtain ⟨v,hv,rfl⟩:=List.mem_map.mp hu; exact Sq.ne I (hss v hv).1 fT
   ·rintro _ hu _ hu2; obtain ⟨v,hv,rfl⟩:=List.mem_map.mp hu; obtain ⟨v2,hv2,rfl⟩:=List.mem_map.mp hu2; exact Sq.ne I (hss v hv).1 (fi _ (mss v2 hv2))
  have el:(ss.map fun v=>(v.1,v.2.1.toArray)).length=subs.length:=by rw [List.length_map,← ess,List.length_map]
  have eI:((ss.map fun v=>(v.1,v.2.1.toArray)).map fun u=>Value.ref u.1.i)=subs.map fun u=>Value.ref u.i:=by rw [← ess,List.map_map,List.map_map]; rfl
  have ys:∀ v∈ss,∃ u,v.2.1.toArray[i]?=some u∧RelV v.2.2.2 u:=fun v hv=>by
   obtain ⟨u,e,r⟩:=(hss v hv).2.1.get (hss v hv).2.2.2
   exact ⟨u,by simpa using e,r⟩
  refine zip_item (n:=i) DA (by intro q; apply hne; have:=congrArg List.length q; rw [el] at this; exact List.length_eq_zero_iff.mp this) (by rw [ha,el]) (by rw [el]; exact hln) hz (by rw [eI]; exact hTI) hTO (fun u hu=>?_) fun h1 z1 T1 a1 p1 k1=>?_
  ·obtain ⟨v,hv,rfl⟩:=List.mem_map.mp hu
   obtain ⟨u,e,_⟩:=ys v hv
   exact ⟨hs _ (mss v hv),(hss v hv).2.2.1,u,e⟩
  refine ⟨_,rfl,wpAny_letOwnedTupleGo_zip z1 fun h2 z2 sb2=>?_⟩
  have hzl:z<s.heap.objs.size:=Heap.lt_size hz
  have kp:∀ b o,b≠z→b≠TO→(∀ u∈subs,b≠u.i)→s.heap.get? b=some o→h2.get? b=some o:=fun b o b1 b2 b3 e=>sb2.extBut _ _ b1 (k1 b o b1 b2 (fun u hu=>by obtain ⟨v,hv,rfl⟩:=List.mem_map.mp hu; exact b3 _ (mss v hv)) e)
  have hfr:H s.heap.objs.size=none:=I.hok.fresh (Nat.le_refl _)
  have trk:∀ b u,H b=some u→b≠z∧b≠TO∧∀ v∈subs,b≠v.i:=fun b u e=>⟨fun q=>(by subst q; rw [fz.1] at e; cases e),fun q=>(by subst q; rw [fT.1] at e; cases e),fun v hv q=>(by subst q; rw [(fi v hv).1] at e; cases e)⟩
  have hP2:TupO h2 s.heap.objs.size (ss.map fun v=>v.2.1.toArray.getD i .none).toArray:=by
   have:=sb2.extBut _ _ (Nat.ne_of_gt hzl) p1
   rw [List.map_map] at this
   exact this
  have rel:Vals (ss.map fun v=>v.2.2.2) (ss.map fun v=>v.2.1.toArray.getD i .none):=paired_map fun v hv=>by
   obtain ⟨u,e,r⟩:=ys v hv
   rw [show v.2.1.toArray.getD i Value.none=u by simp only [Array.getD_eq_getD_getElem?,e,Option.getD_some]]
   exact r
  have len:(ss.map fun v=>v.2.2.2).length≤sizeLine:=by rw [List.length_map,show ss.length=subs.length by rw [← ess,List.length_map]]; exact hln
  refine ⟨.ref s.heap.objs.size,upd H s.heap.objs.size (.tup (ss.map fun v=>v.2.2.2)),?_,rfl,⟨_,_,rfl,hfr,rfl,?_⟩,⟨z2,?_,?_,fun u hu=>?_⟩,fun b hb=>?_⟩
  ·show Inv X pins σ _ { s with heap:=h2 }
   refine I.step (g':=s.gens) (t':=s.toks) (d':=s.drawn) (ch:=z::TO::subs.map (·.i)) (fun b hb=>?_) (fun b o _ _ hc e _=>kp b o ?_ ?_ ?_ e) (fun b o _ _ hc e _=>⟨o.slots,kp b o ?_ ?_ ?_ e⟩) (fun b o hc e n=>?_) (fun b o hc e=>⟨o,kp b o ?_ ?_ ?_ e⟩) (fun b xs e=>?_) (fun b o u e=>?_) (fun b ps e=>?_) (fun m hm=>?_) ?_ I.bare
   ·simp only [List.mem_cons,List.mem_map] at hb
    rcases hb with rfl | rfl | ⟨u,hu,rfl⟩
    ·exact ⟨fz.2.2.2.1,fz.2.1,fz.2.2.2.2.1,fz.2.2.2.2.2⟩
    ·exact ⟨fT.2.2.2.1,fT.2.1,fT.2.2.2.2.1,fT.2.2.2.2.2⟩
    ·have f:=fi u hu; exact ⟨f.2.2.2.1,f.2.1,f.2.2.2.2.1,f.2.2.2.2.2⟩
   all_goals first
    | (intro q; exact hc (by simp [q]; done))
    | (intro u hu q; exact hc (by rw [q]; exact List.mem_cons_of_mem _ (List.mem_cons_of_mem _ (List.mem_map.mpr ⟨u,hu,rfl⟩))))
    | skip
   ·rw [upd_ne (Nat.ne_of_lt (Heap.lt_size e))]; exact n
   ·rw [upd_ne (ne_of_none e hfr)]; exact e
   ·rw [upd_ne (ne_of_none e hfr)]; exact e
   ·exact ⟨#[],by rw [upd_ne (ne_of_none e hfr),e]; simp⟩
   ·obtain ⟨o,es,ep,ho,r⟩:=hm
    exact ⟨o,es,ep,kp _ o (Ne.symm fz.2.1) (Ne.symm fT.2.1) (fun u hu=>Ne.symm (fi u hu).2.1) ho,r⟩
   ·intro b u e
    by_cases hb:b=s.heap.objs.size
    ·subst hb
     rw [upd_same] at e; cases e
     exact ⟨len,_,rel,⟨_,hP2,rfl,_,rfl⟩⟩
    ·rw [upd_ne hb] at e
     refine (I.hok b u e).stay (fun c v hcc q=>?_) (fun c q=>by rw [upd_ne (ne_of_none q hfr)]; exact q) fun c xs q=>by rw [upd_ne (ne_of_none q hfr)]; exact q
     rcases hcc with rfl | hcc
     ·exact kp _ v (trk _ _ e).1 (trk _ _ e).2.1 (trk _ _ e).2.2 q
     ·exact kp _ v (trk _ _ hcc).1 (trk _ _ hcc).2.1 (trk _ _ hcc).2.2 q
  ·rw [← ess,List.map_map]
   exact paired_map fun v hv xs hx=>by rw [Sq.inj I hx (hss v hv).1]; exact (hss v hv).2.2.2
  ·exact kp TI _ D.TIz D.TITO (fun u hu=>Ne.symm (D.Ii u hu)) hTI
  ·obtain ⟨arr',hT',ha'⟩:=T1
   exact ⟨arr',sb2.extBut _ _ D.zTO.symm hT',by rw [ha',el]⟩
  ·have hv:∃ v∈ss,v.1=u:=by rw [← ess] at hu; exact List.mem_map.mp hu
   obtain ⟨v,hv,rfl⟩:=hv
   exact (a1 (v.1,v.2.1.toArray) (List.mem_map.mpr ⟨v,hv,rfl⟩)).keep fun o e=>sb2.extBut _ _ (D.zi _ (mss v hv)) e
  ·have:b≠s.heap.objs.size:=by
    simp only [List.mem_cons,List.mem_map] at hb
    rcases hb with rfl | rfl | rfl | ⟨u,hu,rfl⟩
    ·exact Nat.ne_of_lt hzl
    ·exact Nat.ne_of_lt (Heap.lt_size hTI)
    ·exact Nat.ne_of_lt (Heap.lt_size hTO)
    ·obtain ⟨o,e,_⟩:=(hs u hu).obj; exact Nat.ne_of_lt (Heap.lt_size e)
   rw [upd_ne this]
   exact (hf b hb).1
 done:=by
  intro X hP hw hK hc i pins s σ H E I hf st hg
  subst hP hw hK
  obtain ⟨hz,hTI,⟨arr,hTO,ha⟩,hs⟩:=st
  obtain ⟨hall,u0,hu0,xs0,hq0,hl0⟩:=hg
  have fz:=hf z (by simp)
  have fT:=hf TO (by simp)
  have fi:∀ u∈subs,FpOk X pins H u.i:=fun u hu=>hf u.i (by simp only [List.mem_cons,List.mem_map]; exact .inr (.inr (.inr ⟨u,hu,rfl⟩)))
  obtain ⟨ss,ess,hss⟩:=choose_list (R:=fun (u:Sub) (q:List Value×List V)=>Sq X.K H u.t u.l q.2∧Vals q.2 q.1∧u.Src s.heap q.1.toArray) (l:=subs) (fun u hu=>by
   obtain ⟨xs,h1⟩:=hall (u.t,u.l) (List.mem_map.mpr ⟨u,hu,rfl⟩)
   obtain ⟨its,r,hsrc⟩:=Sq.src I h1
   exact ⟨(its,xs),h1,r,hsrc⟩)
  have mss:∀ v∈ss,v.1∈subs:=fun v hv=>by rw [← ess]; exact List.mem_map.mpr ⟨v,hv,rfl⟩
  have nd2:ss.Pairwise fun u v=>u.1.i≠v.1.i:=by
   have:=D.nd
   rw [← ess,List.pairwise_map] at this
   exact this
  have DA:Apart z TO (ss.map fun v=>(v.1,v.2.1.toArray)):=by
   refine ⟨D.zTO,?_,?_,?_,?_,?_,?_⟩
   ·rintro _ hu; obtain ⟨v,hv,rfl⟩:=List.mem_map.mp hu; exact D.zi _ (mss v hv)
   ·rintro _ hu; obtain ⟨v,hv,rfl⟩:=List.mem_map.mp hu; exact D.ti _ (mss v hv)
   ·rw [List.pairwise_map]; exact nd2
   ·rintro _ hu; obtain ⟨v,hv,rfl⟩:=List.mem_map.mp hu; exact Sq.ne I (hss v hv).1 fz
   ·rintro _ hu; obtain ⟨v,hv,rfl⟩:=List.mem_map.mp hu; exact Sq.ne I (hss v hv).1 fT
   ·rintro _ hu _ hu2; obtain ⟨v,hv,rfl⟩:=List.mem_map.mp hu; obtain ⟨v2,hv2,rfl⟩:=List.mem_map.mp hu2; exact Sq.ne I (hss v hv).1 (fi _ (mss v2 hv2))
  have el:(ss.map fun v=>(v.1,v.2.1.toArray)).length=subs.length:=by rw [List.length_map,← ess,List.length_map]
  have eI:((ss.map fun v=>(v.1,v.2.1.toArray)).map fun u=>Value.ref u.1.i)=subs.map fun u=>Value.ref u.i:=by rw [← ess,List.map_map,List.map_map]; rfl
  refine zip_stop (n:=i) (I.ok.hd hc) DA (by rw [ha,el]) (by rw [el]; exact hln) hz (by rw [eI]; exact hTI) hTO (fun u hu=>?_) ?_ fun h1 k1=>⟨rfl,?_⟩
  ·obtain ⟨v,hv,rfl⟩:=List.mem_map.mp hu
   exact ⟨hs _ (mss v hv),(hss v hv).2.2⟩
  ·obtain ⟨u,hu,e0⟩:=List.mem_map.mp hu0
   have hv:∃ v∈ss,v.1=u:=by rw [← ess] at hu; exact List.mem_map.mp hu
   obtain ⟨v,hv,rfl⟩:=hv
   subst e0
   refine ⟨(v.1,v.2.1.toArray),List.mem_map.mpr ⟨v,hv,rfl⟩,?_⟩
   have e1:=Sq.inj I (hss v hv).1 hq0
   have e2:=(hss v hv).2.1.length
   rw [e1] at e2
   simp only [List.getElem?_toArray]
   exact List.getElem?_eq_none (by omega)
  ·have kp:∀ b o,b≠z→b≠TO→(∀ u∈subs,b≠u.i)→s.heap.get? b=some o→h1.get? b=some o:=fun b o b1 b2 b3 e=>k1 b o b1 b2 (fun u hu=>by obtain ⟨v,hv,rfl⟩:=List.mem_map.mp hu; exact b3 _ (mss v hv)) e
   have trk:∀ b u,H b=some u→b≠z∧b≠TO∧∀ v∈subs,b≠v.i:=fun b u e=>⟨fun q=>(by subst q; rw [fz.1] at e; cases e),fun q=>(by subst q; rw [fT.1] at e; cases e),fun v hv q=>(by subst q; rw [(fi v hv).1] at e; cases e)⟩
   refine I.step (g':=s.gens) (t':=s.toks) (d':=s.drawn) (ch:=z::TO::subs.map (·.i)) (fun b hb=>?_) (fun b o _ _ hc e _=>kp b o ?_ ?_ ?_ e) (fun b o _ _ hc e _=>⟨o.slots,kp b o ?_ ?_ ?_ e⟩) (fun b o hc e n=>n) (fun b o hc e=>⟨o,kp b o ?_ ?_ ?_ e⟩) (fun b xs e=>e) (fun b o u e=>e) (fun b ps e=>⟨#[],by rw [e]; simp⟩) (fun m hm=>?_) (fun b u e=>?_) I.bare
   ·simp only [List.mem_cons,List.mem_map] at hb
    rcases hb with rfl | rfl | ⟨u,hu,rfl⟩
    ·exact ⟨fz.2.2.2.1,fz.2.1,fz.2.2.2.2.1,fz.2.2.2.2.2⟩
    ·exact ⟨fT.2.2.2.1,fT.2.1,fT.2.2.2.2.1,fT.2.2.2.2.2⟩
    ·have f:=fi u hu; exact ⟨f.2.2.2.1,f.2.1,f.2.2.2.2.1,f.2.2.2.2.2⟩
   all_goals first
    | (intro q; exact hc (by simp [q]; done))
    | (intro u hu q; exact hc (by rw [q]; exact List.mem_cons_of_mem _ (List.mem_cons_of_mem _ (List.mem_map.mpr ⟨u,hu,rfl⟩))))
    | skip
   ·obtain ⟨o,es,ep,ho,r⟩:=hm
    exact ⟨o,es,ep,kp _ o (Ne.symm fz.2.1) (Ne.symm fT.2.1) (fun u hu=>Ne.symm (fi u hu).2.1) ho,r⟩
   ·refine (I.hok b u e).stay (fun c v hcc q=>?_) (fun c q=>q) fun c xs q=>q
    rcases hcc with rfl | hcc
    ·exact kp _ v (trk _ _ e).1 (trk _ _ e).2.1 (trk _ _ e).2.2 q
    ·exact kp _ v (trk _ _ hcc).1 (trk _ _ hcc).2.1 (trk _ _ hcc).2.2 q
 self:=fun _ _ _ _ _ st h=>wpAny_pyIter_zip st.1 h
noncomputable def iZip (K:PySem.W.Frag) (ta:TA):TI:=fun σ H R=>ta σ H fun vs H1=>∃ us:List (Bool×Addr),vs=us.map (fun u=>V.ref u.2)∧(us.length=2∨us.length=3)∧(∀ u∈us,∃ xs,Sq K H1 u.1 u.2 xs)∧R (ItZ K us) H1
theorem neN {a b:Nat} (h:a≠b):(a:Addr)≠b:=h
theorem vals_refs:∀ {us:List (Bool×Addr)} {vs:List Value},Vals (us.map fun u=>V.ref u.2) vs→vs=us.map fun u=>Value.ref u.2
 | [],_,.nil=>rfl
 | _::_,_,.cons r t=>by
  have r':_=Value.ref _:=r
  rw [r',vals_refs t]; rfl
theorem subs_i:∀ (us:List (Bool×Addr×Array Value)) (n:Nat),∀ v∈subsFrom n us,n≤v.1.i∧n+us.length>v.1.i
 | [],_,_,h=>nomatch h
 | u::r,n,v,h=>by
  rcases List.mem_cons.mp h with rfl | h
  ·exact ⟨Nat.le_refl _,by show n+(r.length+1)>n; omega⟩
  ·have:=subs_i r (n+1) v h
   rw [List.length_cons]; omega
theorem subs_nd:∀ (us:List (Bool×Addr×Array Value)) (n:Nat),(subsFrom n us).Pairwise fun u v=>u.1.i≠v.1.i
 | [],_=>.nil
 | u::r,n=>by
  refine List.pairwise_cons.mpr ⟨fun v hv=>?_,subs_nd r (n+1)⟩
  have:=subs_i r (n+1) v hv
  show (n:Nat)≠v.1.i
  omega
theorem subs_src:∀ (us:List (Bool×Addr×Array Value)) (n:Nat),(subsFrom n us).map (fun u=>(u.1.t,u.1.l))=us.map fun u=>(u.1,u.2.1)
 | [],_=>rfl
 | u::r,n=>by unfold subsFrom; rw [List.map_cons,subs_src r,List.map_cons]
section
variable {X:Cx}
theorem pi_zip {a:Expr} {es elts:List Expr} {ta:TA} {p pos tp:Pos} {k:Nat} (hg:Gl X "zip") (hm:X.mg "zip" = none) (ha:PA X (a::es) ta) (hs:starEach (a::es) X.env=(false,eval a X.env)::starEach es X.env:=by rfl)
  (hpl:(backTo pos (starEach es X.env)).any (·.1)=false:=by rfl):PI X (.Tuple elts k tp) (.Call (.Name "zip" p) (a::es) [] pos) (iZip X.K ta):=by
 intro pins s σ H R I h
 refine Call_ (ld_blt I hg hm boot_zip (PyProof.Rows.callWith_type1 (thn (ha pos pins s σ H _ I h) fun vs s1 zz54=>?_) hs hpl))
 obtain ⟨xs,H1,I1,r1,us,e1,hl,hsq,q⟩:=zz54
 subst e1
 have e2:=vals_refs r1
 subst e2
 obtain ⟨ws,ew,hws⟩:=choose_list (R:=fun (u:Bool×Addr) (its:Array Value)=>SrcAt s1.heap (u.1,u.2,its)) (l:=us) (fun u hu=>by
  obtain ⟨ys,hy⟩:=hsq u hu
  obtain ⟨its,_,hsrc⟩:=Sq.src I1 hy
  exact ⟨its.toArray,by unfold SrcAt; unfold Sub.Src at hsrc; exact hsrc⟩)
 have ev:us.map (fun u=>Value.ref u.2)=(ws.map fun w=>(w.1.1,w.1.2,w.2)).map fun u=>Value.ref u.2.1:=by rw [← ew,List.map_map,List.map_map]; rfl
 have el:(ws.map fun w=>(w.1.1,w.1.2,w.2)).length=us.length:=by rw [← ew,List.length_map,List.length_map]
 rw [ev]
 generalize hW:(ws.map fun w=>(w.1.1,w.1.2,w.2))=W at el ev
 have hsw:∀ u∈W,SrcAt s1.heap u:=fun u hu=>by
  rw [← hW] at hu
  obtain ⟨w,hw,rfl⟩:=List.mem_map.mp hu
  exact hws w hw
 refine call_zip W (by rw [el]; exact hl) hsw fun h' hA hTI hTO hz hk=>wpAny_pyIter_zip hz ?_
 have I2:Inv X pins σ H1 { s1 with heap:=h' }:=I1.kept (t':=s1.toks) hk
 have eS:((subsFrom s1.heap.objs.size W).map (·.1)).map (fun u=>(u.t,u.l))=us:=by
  rw [List.map_map]
  show (subsFrom s1.heap.objs.size W).map (fun u=>(u.1.t,u.1.l))=us
  rw [subs_src,← hW,List.map_map,← ew]
  rfl
 have D:ZSt (s1.heap.objs.size+W.length+2) (s1.heap.objs.size+W.length) (s1.heap.objs.size+W.length+1) ((subsFrom s1.heap.objs.size W).map (·.1)):=by
  refine ⟨neN (by omega),neN (by omega),neN (by omega),?_,?_,?_,?_⟩
  ·rintro _ hu; obtain ⟨v,hv,rfl⟩:=List.mem_map.mp hu; have:=subs_i W _ v hv; exact neN (by omega)
  ·rintro _ hu; obtain ⟨v,hv,rfl⟩:=List.mem_map.mp hu; have:=subs_i W _ v hv; exact neN (by omega)
  ·rintro _ hu; obtain ⟨v,hv,rfl⟩:=List.mem_map.mp hu; have:=subs_i W _ v hv; exact neN (by omega)
  ·rw [List.pairwise_map]; exact subs_nd W _
 have ls:((subsFrom s1.heap.objs.size W).map (·.1)).length=W.length:=by rw [List.length_map,subs_length]
 have TZ:=turn_zip (P:=X.prog) (w:=X.w) (K:=X.K) (elts:=elts) (k:=k) (tp:=tp) D (by intro q; have:=congrArg List.length q; rw [ls,el] at this; have h0:us.length=0:=this; omega) (by rw [ls,el]; exact Nat.le_trans (show us.length≤3 by omega) (by decide))
 rw [eS] at TZ
 refine ⟨_,_,_,_,H1,rfl,I2,TZ,⟨hz,?_,?_,fun u hu=>?_⟩,fun b hb=>?_,q⟩
 ·rw [List.map_map]; exact hTI
 ·obtain ⟨arr,h1,h2⟩:=hTO
  exact ⟨arr,h1,by rw [ls]; exact h2⟩
 ·obtain ⟨v,hv,rfl⟩:=List.mem_map.mp hu
  exact hA v hv
 ·have hb':s1.heap.objs.size≤b:=by
   simp only [List.mem_cons,List.mem_map] at hb
   rcases hb with rfl | rfl | rfl | ⟨_,⟨v,hv,rfl⟩,rfl⟩
   ·omega
   ·omega
   ·omega
   ·exact (subs_i W _ v hv).1
  have f:=I1.fpOk (H':=H1) hb' (I1.hok.fresh hb')
  exact f
end
end L2
set_option Elab.async false
set_option linter.all false
set_option maxRecDepth 100000
namespace L2
open PySem PySem.Spec PyProof.Rows
theorem relabel_lookup (cs:Scope) (env:Env) (x:Str):(relabel cs env).names.lookup x=(cs.names.lookup x).map fun k=>if (k == .free&&env.scope.kind == .function&&env.kindOf x == some .cell)=true then .cell else k:=by
 unfold relabel
 show List.lookup x (cs.names.map _)=_
 induction cs.names with
 | nil=>rfl
 | cons p r ih=>
  obtain ⟨n,k⟩:=p
  by_cases hx:x=n
  ·subst hx
   rw [List.map_cons]
   simp only [List.lookup_cons]
   split <;> simp_all
  ·have hb:(x == n)=false:=by simpa using hx
   have er:List.lookup x ((n,k)::r)=List.lookup x r:=by rw [List.lookup_cons,hb]
   rw [List.map_cons,er]
   refine Eq.trans ?_ ih
   dsimp only
   by_cases hc:(k == NameKind.free&&env.scope.kind == ScopeKind.function&&env.kindOf n == some NameKind.cell)=true
   ·rw [if_pos hc,List.lookup_cons,hb]
   ·rw [if_neg hc,List.lookup_cons,hb]
theorem closure_of {env : Env} : ∀ (names : List (Str × NameKind)) (cs0 : List (Str × Addr)), (∀ x ∈ names, x.2 = .free → ∃ c, env.cells.lookup x.1 = some c) → (∀ x c, cs0.lookup x = some c → env.cells.lookup x = some c) →
    ∃ cl, (forIn (m := Sem) names cs0 fun x __s => if (x.snd == NameKind.free) = true then do
              let __do_lift ← cellOf env x.fst
              pure (ForInStep.yield ((x.fst, __do_lift) :: __s))
            else pure (ForInStep.yield __s)) = pure cl ∧ (∀ x c, cl.lookup x = some c → env.cells.lookup x = some c) ∧ (∀ x, (x, NameKind.free) ∈ names → ∃ c, cl.lookup x = some c) ∧ ∀ x c, cs0.lookup x = some c → ∃ c', cl.lookup x = some c' := by
  intro names
  induction names with
  | nil =>
    intro cs0 _ h0
    exact ⟨cs0, by simp only [List.forIn_nil], h0, fun _ h => absurd h List.not_mem_nil, fun _ c h => ⟨c, h⟩⟩
  | cons p r ih =>
    intro cs0 hf h0
    obtain ⟨n, k⟩ := p
    by_cases hk : k = .free
    · subst hk
      obtain ⟨c, hc⟩ := hf (n, .free) List.mem_cons_self rfl
      obtain ⟨cl, e, h1, h2, h3⟩ := ih ((n, c) :: cs0) (fun x hx => hf x (List.mem_cons_of_mem _ hx)) (fun x c' hx => by
        rw [List.lookup_cons] at hx
        split at hx
        · rename_i hb
          have hxn : x = n := by simpa using hb
          cases hx; rw [hxn]; exact hc
        · exact h0 x c' hx)
      have hn : ∃ c', cl.lookup n = some c' := h3 n c (by simp)
      refine ⟨cl, ?_, h1, fun x hx => ?_, fun x c' hx => ?_⟩
      · rw [List.forIn_cons]
        simp only [beq_self_eq_true, if_true, cellOf, hc]
        exact e
      · rcases List.mem_cons.mp hx with q | hx
        · cases q; exact hn
        · exact h2 x hx
      · by_cases hxn : x = n
        · subst hxn; exact hn
        · exact h3 x c' (by
            have hb : (x == n) = false := by simpa using hxn
            rw [List.lookup_cons, hb]; exact hx)
    · have hb : (k == NameKind.free) = false := by simpa using hk
      obtain ⟨cl, e, h1, h2, h3⟩ := ih cs0 (fun x hx => hf x (List.mem_cons_of_mem _ hx)) h0
      refine ⟨cl, ?_, h1, fun x hx => ?_, h3⟩
      · rw [List.forIn_cons]
        simp only [hb, Bool.false_eq_true, if_false]
        exact e
      · rcases List.mem_cons.mp hx with q | hx
        · cases q; exact absurd rfl hk
        · exact h2 x hx
structure CompScope (sc cs:Scope) (N N':List Str):Prop where
 kind:cs.kind=.function
 ncell:∀ x∈cs.names,x.2≠.cell
 loc:∀ x∈cs.names,x.2=.local→cs.names.lookup x.1=some .local
 free:∀ x∈cs.names,x.2=.free→sc.names.lookup x.1=some .cell∨sc.names.lookup x.1=some .free
 nd:N'.Nodup
 len:N.length≤N'.length
 same:∀ i∈List.range N.length,N'[i]?=N[i]?∨∀ x∈N'[i]?,cs.names.lookup x=none
 out:∀ x∈N'.take N.length,cs.names.lookup x≠some .local
noncomputable abbrev cxComp (X:Cx) (cs:Scope) (cl:List (Str×Addr)) (N':List Str) (ex:List Addr) (s:Shared) (H:Hp):Cx:=
 { X with N:=N',s₀:=s,H₀:=H,env:=compEnvC cs cl s.heap.objs.size X.env,outer:=X.stack,stack:=X.stack,ex:=ex,fn:=fun _=>false,pn:=[],xe:=fun _ _=>False }
noncomputable def inner (N':List Str) (σ:St):St:=σ++List.replicate (N'.length-σ.length) none
theorem inner_get {N':List Str} {σ:St} {i:Nat} {v:V} (h:(inner N' σ)[i]?=some (some v)):σ[i]?=some (some v):=by
 unfold inner at h
 by_cases hi:i<σ.length
 ·rwa [List.getElem?_append_left hi] at h
 ·rw [List.getElem?_append_right (by omega),List.getElem?_replicate] at h
  split at h <;> cases h
theorem comp_inv {X:Cx} {pins:List (Addr×Obj)} {σ:St} {H:Hp} {s3 s4:Shared} {cs:Scope} {cl:List (Str×Addr)} {N':List Str} {fp:List Addr} {m:Str→Option Value} (S:CompScope X.env.scope cs X.N N') (I:Inv X pins σ H s3)
  (hcl1:∀ x c,cl.lookup x=some c→X.env.cells.lookup x=some c) (hcl2:∀ x,(x,NameKind.free)∈cs.names→∃ c,cl.lookup x=some c) (hf:∀ b∈fp,FpOk X pins H b) (hlt:∀ b∈fp,b<s3.heap.objs.size)
  (kp:∀ b o,s3.heap.get? b=some o→s4.heap.get? b=some o) (hn:s4.heap.Ns s3.heap.objs.size m) (hos:s4.os=s3.os) (hg:s4.gens=s3.gens):Inv (cxComp X cs cl N' fp s3 H) [] (inner N' σ) H s4:=by
 have kcell:∀ {c:Addr} {v:Option Value},s3.heap.IsCell c v→s4.heap.IsCell c v:=fun {c v} z=>by obtain ⟨o,e,d⟩:=z; exact ⟨o,kp c o e,d⟩
 refine ⟨⟨I.ok.mod,S.kind,I.ok.glob,I.ok.blt,Nat.le_refl _,fun x y c h1 h2=>I.ok.inj x y c (hcl1 x c h1) (hcl1 y c h2),fun x hx=>?_,fun x c h _=>absurd (show false=true from h) (by decide),I.ok.hd,I.ok.frames,.inl rfl,fun b hb=>⟨?_,fun x c e=>(hf b hb).2.2.2.2.1 x c (hcl1 x c e)⟩,I.bs,Nat.le_trans I.ok.bsz I.sz,fun b o e hb=>?_,fun b hb hfs=>?_,I.stack,I.stkFree⟩,
  hos,by rw [hg]; exact I.bare,Un.kept kp,⟨m,hn,fun i x v e1 e2 e3=>?_⟩,fun x c e=>?_,I.hok.fresh (Nat.le_refl _),fun x c e=>I.freeC x c (hcl1 x c e),fun p hp=>absurd (show p∈([]:List (Addr×Obj)) from hp) (by simp),I.hok.kept kp,?_⟩
 ·have hx':(relabel cs X.env).names.lookup x=some .cell∨(relabel cs X.env).names.lookup x=some .free:=hx
  rw [relabel_lookup] at hx'
  cases hl:cs.names.lookup x with
  | none=>rw [hl] at hx'; rcases hx' with h | h <;> cases h
  | some k=>
   have hm:=PySem.mem_of_lookup hl
   by_cases hk:k=.free
   ·subst hk; exact hcl2 x hm
   ·exfalso
    have hb:(k == NameKind.free)=false:=by simpa using hk
    rw [hl] at hx'
    simp only [Option.map_some,hb,Bool.false_and,Bool.false_eq_true,if_false] at hx'
    rcases hx' with h | h
    ·cases h; exact S.ncell _ hm rfl
    ·cases h; exact hk rfl
 ·intro q
  have hb':b=s3.heap.objs.size:=q
  exact absurd (hlt b hb) (by rw [hb']; exact Nat.lt_irrefl _)
 ·obtain ⟨f0,f1,f2,f3,f4,f5⟩:=hf b hb
  rcases f3 with z | z
  ·exact I.ok.noex b o e z
  ·exact absurd (Nat.lt_of_lt_of_le (Heap.lt_size (I.ok.bs b o e).1) z) (Nat.lt_irrefl _)
 ·have hfs':b∈frs X.stack:=hfs
  rcases List.mem_cons.mp (I.stkSub b hfs') with z | z
  ·exact (hf b hb).2.1 z
  ·exact (hf b hb).2.2.1 z
 ·have e2':=inner_get e2
  have hi:i<X.N.length:=by rw [← I.len]; exact (List.getElem?_eq_some_iff.mp e2').1
  have e1':N'[i]?=some x:=e1
  have e3':Vis (relabel cs X.env) x:=e3
  have hv:∃ k,cs.names.lookup x=some k:=by
   unfold Vis at e3'
   rw [relabel_lookup] at e3'
   cases hl:cs.names.lookup x with
   | none=>rw [hl] at e3'; rcases e3' with h | h | h <;> cases h
   | some k=>exact ⟨k,rfl⟩
  obtain ⟨k,hk⟩:=hv
  have hN:X.N[i]?=some x:=by
   rcases S.same i (List.mem_range.mpr hi) with q | q
   ·rw [← q]; exact e1'
   ·have:=q x (by rw [e1']; rfl)
    rw [hk] at this; cases this
  have hnl:k≠.local:=fun q=>by
   subst q
   exact S.out x (List.mem_of_getElem? (i:=i) (by rw [List.getElem?_take_of_lt hi]; exact e1')) hk
  have hm:=PySem.mem_of_lookup hk
  have hfree:k=.free:=by
   unfold Vis at e3'
   rw [relabel_lookup,hk] at e3'
   by_cases hkf:k=.free
   ·exact hkf
   ·exfalso
    have hb:(k == NameKind.free)=false:=by simpa using hkf
    simp only [Option.map_some,hb,Bool.false_and,Bool.false_eq_true,if_false] at e3'
    rcases e3' with h | h | h
    ·exact hnl (Option.some.inj h)
    ·exact S.ncell _ hm (Option.some.inj h)
    ·exact hkf (Option.some.inj h)
  subst hfree
  obtain ⟨m0,hn0,hl0⟩:=I.loc
  have hvis:Vis X.env.scope x:=by
   rcases S.free _ hm rfl with h | h
   ·exact .inr (.inl h)
   ·exact .inr (.inr h)
  obtain ⟨u,r,l⟩:=hl0 i x v hN e2' hvis
  refine ⟨u,r,.inr ⟨?_,?_⟩⟩
  ·show (relabel cs X.env).names.lookup x=some .cell∨(relabel cs X.env).names.lookup x=some .free
   rw [relabel_lookup,hk]
   show some (if _ then _ else _)=_∨some (if _ then _ else _)=_
   split
   ·exact .inl rfl
   ·exact .inr rfl
  ·obtain ⟨c,hc⟩:=hcl2 x hm
   have hc':=hcl1 x c hc
   rcases l with ⟨q,_⟩ | ⟨_,c',e,z⟩
   ·exfalso
    have q':X.env.scope.names.lookup x=some .local:=q
    rcases S.free _ hm rfl with h | h <;> (rw [q'] at h; cases h)
   ·rw [hc'] at e; cases e
    exact ⟨c,hc,kcell z⟩
 ·obtain ⟨v,z⟩:=I.cell x c (hcl1 x c e)
  exact ⟨v,kcell z⟩
 ·unfold inner
  rw [List.length_append,List.length_replicate,I.len]
  have:=S.len
  show _=N'.length
  omega
noncomputable def GKeep (n:Nat) (g:TG):Prop:=∀ (v:V) (σ:St) (H:Hp) (Q:St→Hp→Prop),g v σ H Q→g v σ H fun σ2 H2=>Q σ2 H2∧σ2.length=σ.length∧∀ j,j<n→σ2[j]?=σ[j]?
noncomputable def GKeeps (n:Nat) (g:TGs):Prop:=∀ (vs:List V) (σ:St) (H:Hp) (Q:St→Hp→Prop),g vs σ H Q→g vs σ H fun σ2 H2=>Q σ2 H2∧σ2.length=σ.length∧∀ j,j<n→σ2[j]?=σ[j]?
theorem gk_name {n i:Nat} (h:n≤i):GKeep n (gName i):=fun v σ H Q q=>⟨q,by simp,fun j hj=>List.getElem?_set_ne (by omega)⟩
theorem gk_nil {n:Nat}:GKeeps n gNil:=fun vs σ H Q zz55=>by obtain ⟨e,q⟩:=zz55; exact ⟨e,q,rfl,fun _ _=>rfl⟩
theorem gk_cons {n i:Nat} {u:TGs} (h:n≤i) (hu:GKeeps n u):GKeeps n (gCons (gName i) u):=fun vs σ H Q zz56=>by
 obtain ⟨v,r,e,q⟩:=zz56
 refine ⟨v,r,e,?_⟩
 have q':=hu r (σ.set i (some v)) H Q q
 show u r (σ.set i (some v)) H _
 have e1:∀ σ2:St,(σ2.length=(σ.set i (some v)).length∧∀ j,j<n→σ2[j]?=(σ.set i (some v))[j]?)=(σ2.length=σ.length∧∀ j,j<n→σ2[j]?=σ[j]?):=fun σ2=>by
  have:∀ j,j<n→(σ.set i (some v))[j]?=σ[j]?:=fun j hj=>List.getElem?_set_ne (by omega)
  rw [List.length_set]
  exact propext ⟨fun zz57=>by obtain ⟨a,b⟩:=zz57; exact ⟨a,fun j hj=>(b j hj).trans (this j hj)⟩,fun zz58=>by obtain ⟨a,b⟩:=zz58; exact ⟨a,fun j hj=>(b j hj).trans (this j hj).symm⟩⟩
 have e2:(fun (σ2:St) (H2:Hp)=>Q σ2 H2∧σ2.length=σ.length∧∀ j,j<n→σ2[j]?=σ[j]?)=fun σ2 H2=>Q σ2 H2∧σ2.length=(σ.set i (some v)).length∧∀ j,j<n→σ2[j]?=(σ.set i (some v))[j]?:=by
  funext σ2 H2; rw [e1]
 rw [e2]; exact q'
theorem gk_tup {K:PySem.W.Frag} {n k:Nat} {u:TGs} (hu:GKeeps n u):GKeep n (gTup K k u):=fun v σ H Q zz59=>by obtain ⟨a,xs,e,h1,h2,q⟩:=zz59; exact ⟨a,xs,e,h1,h2,hu xs σ H Q q⟩
noncomputable def PIf (X:Cx) (ifs:List Expr) (t:TT):Prop:=
 ∀ (pins:List (Addr×Obj)) (s:Shared) (σ:St) (H:Hp) (Q:Bool→Hp→Prop),Inv X pins σ H s→t σ H Q →
  wpAny (model X.prog X.w) X.A (forIn ifs true fun c r=>if r=true then do let ok ← isTrue c X.env (eval c X.env); pure (ForInStep.yield ok) else pure (ForInStep.yield r)) (TP X pins σ Q) X.xe s
noncomputable def tYes:TT:=fun _ H Q=>Q true H
theorem pif_nil {X:Cx}:PIf X [] tYes:=fun _ _ _ H _ I h=>wpAny_tests_nil ⟨H,I,h⟩
theorem pif_one {X:Cx} {c:Expr} {t:TT} (h:PT X c t):PIf X [c] t:=fun pins s σ H Q I q=>wpAny_tests_one (h pins s σ H Q I q)
noncomputable def CompW (J:It) (D:Addr) (g:TG) (tc:TT) (te:TE) (σ':St) (H1:Hp) (Q:Hp→Prop):Prop:=
 ∃ W:Nat→Nat→Hp→Prop,(∃ m,W 0 m (upd H1 D (.lst [])))∧∀ i m H2,W i m H2 →
  (J.stop i H2∧Q H2)∨(J.go i H2∧∀ x H3,J.yld i H2 x H3→g x σ' H3 fun σ4 H4=>tc σ4 H4 fun b H5=>
   if b=true then te σ4 H5 fun y H6=>∃ ys,H6 D=some (.lst ys)∧ys.length<sizeLine∧∃ m',m'<m∧W (i+1) m' (upd H6 D (.lst (ys ++ [y])))
   else ∃ m',m'<m∧W (i+1) m' H5)
noncomputable def tComp (N':List Str) (wi:TI) (g:TG) (tc:TT) (te:TE):TE:=fun σ H Q=>wi σ H fun J H1=>∀ D,H1 D=none→CompW J D g tc te (inner N' σ) H1 (Q (.ref D))
section
variable {X:Cx} {cs:Scope} {N':List Str} {tg iter elt:Expr} {ifs:List Expr} {wi:TI} {g:TG} {tc:TT} {te:TE} {pos:Pos}
theorem fp_in {cl:List (Str×Addr)} {pins:List (Addr×Obj)} {fp:List Addr} {H3 H':Hp} {s3:Shared} (hcl1:∀ x c,cl.lookup x=some c→X.env.cells.lookup x=some c) (stk:∀ b∈frs X.stack,b∈X.env.locals::X.fs)
  (hf3:∀ b∈fp,FpOk X pins H3 b) (hlt:∀ b∈fp,b<s3.heap.objs.size) (hn:∀ b∈fp,H' b=none):∀ b∈fp,FpOk (cxComp X cs cl N' fp s3 H3) [] H' b:=fun b hb=>by
 obtain ⟨f0,f1,f2,f3,f4,f5⟩:=hf3 b hb
 refine ⟨hn b hb,Nat.ne_of_lt (hlt b hb),fun hfs=>?_,.inl hb,fun x c e=>f4 x c (hcl1 x c e),fun p hp=>absurd (show p∈([]:List (Addr×Obj)) from hp) (by simp)⟩
 have hfs':b∈frs X.stack:=hfs
 rcases List.mem_cons.mp (stk b hfs') with z | z
 ·exact f1 z
 ·exact f2 z
theorem comp_loop {cl:List (Str×Addr)} {pins:List (Addr×Obj)} {σ:St} {R:Result→Shared→Prop} {Q:Hp→Prop} {s3 s4:Shared} {H3:Hp} {it D:Addr} {fp:List Addr} {tn:Nat→Heap→Prop} {J:It} {W:Nat→Nat→Hp→Prop} {m0:Nat}
  (hc:X.calm=true) (hg:PG (cxComp X cs cl N' fp s3 H3) tg g) (hk:GKeep X.N.length g) (ht:PIf (cxComp X cs cl N' fp s3 H3) ifs tc) (he:PE (cxComp X cs cl N' fp s3 H3) elt te)
  (hcl1:∀ x c,cl.lookup x=some c→X.env.cells.lookup x=some c)
  (I3:Inv X pins σ H3 s3) (I4:Inv (cxComp X cs cl N' fp s3 H3) [] (inner N' σ) H3 s4) (T:Turn X.prog X.w X.K tg J fp it tn) (st:tn 0 s4.heap) (hf3:∀ b∈fp,FpOk X pins H3 b) (hlt:∀ b∈fp,b<s3.heap.objs.size)
  (w0:W 0 m0 H3)
  (turn:∀ i m H2,W i m H2→(J.stop i H2∧Q H2)∨(J.go i H2∧∀ x H3,J.yld i H2 x H3→g x (inner N' σ) H3 fun σ4 H4=>tc σ4 H4 fun b H5=>
   if b=true then te σ4 H5 fun y H6=>∃ ys,H6 D=some (.lst ys)∧ys.length<sizeLine∧∃ m',m'<m∧W (i+1) m' (upd H6 D (.lst (ys ++ [y])))
   else ∃ m',m'<m∧W (i+1) m' H5))
  (hR:∀ (H':Hp) (s':Shared),Inv X pins σ H' s'→Q H'→(∃ m,s'.heap.Ns s3.heap.objs.size m)→FpOk X pins H' s3.heap.objs.size→R (.ok .next) s') :
  codeAny (model X.prog X.w) X.A (.compLoop (.ListComp elt [⟨tg,iter,ifs,0⟩] cs pos) 0 (.ref it) (.ref D) (cxComp X cs cl N' fp s3 H3).env) R s4:=by
 have fpx:∀ {H':Hp},(∀ b∈fp,H' b=none)→∀ b∈fp,FpOk (cxComp X cs cl N' fp s3 H3) [] H' b:=fun hn=>fp_in hcl1 I3.stkSub hf3 hlt hn
 have lσ:(inner N' σ).length=N'.length:=I4.len
 refine codeAny_loop rfl (fun n s'=>∃ i H',Inv (cxComp X cs cl N' fp s3 H3) [] (inner N' σ) H' s'∧tn i s'.heap∧(∀ b∈fp,H' b=none)∧W i n H') (fun n s5 hI=>?_) m0 ⟨0,H3,I4,st,fun b hb=>(hf3 b hb).1,w0⟩
 obtain ⟨i,H5,I5,st5,fr5,w5⟩:=hI
 show wpAny _ _ ((compTurn (.ListComp elt [⟨tg,iter,ifs,0⟩] cs pos) 0 (.ref it) (.ref D) (cxComp X cs cl N' fp s3 H3).env).onRaise _) _ _ s5
 refine wpAny_noted ?_
 rw [compTurn_list]
 refine wpAny_bind (wpAny_standAt (wpAny_bind ?_))
 have cvt:∀ {α:Type} {t:Sem α} {P:α→Shared→Prop} {E':Value→Shared→Prop} {s:Shared},wpAny (model X.prog X.w) X.A t P (fun _ _=>False) s→wpAny (model X.prog X.w) X.A t P E' s:=fun h=>wpAny_mono h (fun _ _ q=>q) fun _ _ q=>q.elim
 rcases turn i n H5 w5 with ⟨stop,q⟩ | ⟨go,step⟩
 ·refine thn (T.done (cxComp X cs cl N' fp s3 H3) rfl rfl rfl hc i [] s5 _ H5 _ I5 (fpx fr5) st5 stop) fun r s6 ⟨hr,I6⟩=>?_
  subst hr
  refine wpAny_pure ?_
  have J6:Inv X pins σ H5 s6:=I3.call' (H':=H5) (ch:=fp) I6.os I6.base I6.hok I6.bare fun b hb=>by
   obtain ⟨f0,f1,f2,f3,f4,f5⟩:=hf3 b hb
   exact ⟨f3,f1,f4,f5⟩
  obtain ⟨m,hn,_⟩:=I6.loc
  exact hR H5 s6 J6 q ⟨m,hn⟩ (I3.fpOk (Nat.le_refl _) I6.free)
 ·refine thn (T.item (cxComp X cs cl N' fp s3 H3) rfl rfl rfl hc i [] s5 _ H5 _ I5 (fpx fr5) st5 go) fun r s6 ⟨u,hr,h6⟩=>?_
  subst hr
  refine wpAny_bind (thn h6 fun _ s7 zz62=>?_)
  obtain ⟨x,H7,I7,r7,y7,st7,fr7⟩:=zz62
  have I7':=I7.pinned (fpx fr7) (T.obj _ _ st7)
  refine wpAny_bind (cvt (thn (hg _ s7 _ H7 x u _ I7' r7 (hk x _ H7 _ (step x H7 y7))) fun _ s8 zz63=>?_))
  obtain ⟨σ8,H8,I8,q8,l8,k8⟩:=zz63
  refine wpAny_bind (cvt (thn (ht _ s8 σ8 H8 _ I8 q8) fun b s9 zz64=>?_))
  obtain ⟨H9,I9,q9⟩:=zz64
  have again:∀ {s':Shared} {H':Hp},Inv (cxComp X cs cl N' fp s3 H3) ([]++pinsAt fp s7.heap) σ8 H' s'→(∃ m',m'<n∧W (i+1) m' H') →
    ∃ m',m'<n∧∃ i H',Inv (cxComp X cs cl N' fp s3 H3) [] (inner N' σ) H' s'∧tn i s'.heap∧(∀ b∈fp,H' b=none)∧W i m' H':=fun {s' H'} I' zz65=>by
   obtain ⟨m',hm,w'⟩:=zz65
   refine ⟨m',hm,i+1,H',(I'.unpinned).weak (by rw [l8]) (fun j v e=>?_),T.keep _ _ _ st7 fun b hb o e=>(I'.pin (b,o) (List.mem_append_right _ (List.mem_append_right _ (mem_pinsAt hb e)))).1,fun b hb=>?_,w'⟩
   ·have hj:j<X.N.length:=by rw [← I3.len]; exact (List.getElem?_eq_some_iff.mp (inner_get e)).1
    rw [k8 j hj]; exact e
   ·obtain ⟨o,e,d⟩:=T.obj _ _ st7 b hb
    exact (I'.pin (b,o) (List.mem_append_right _ (List.mem_append_right _ (mem_pinsAt hb e)))).2.1
  cases b with
  | false=>
   have q9':∃ m',m'<n∧W (i+1) m' H9:=q9
   exact wpAny_pure ⟨rfl,again I9 q9'⟩
  | true=>
   have q9':te σ8 H9 _:=q9
   refine wpAny_bind (wpAny_bind (cvt (thn (he _ s9 σ8 H9 _ I9 q9') fun v s10 zz66=>?_)))
   obtain ⟨y,H10,I10,r10,ys,hD,hy,q10⟩:=zz66
   refine wpAny_bind (cvt (thn (mt_append _ s10 σ8 H10 (.ref D) [y] (.ref D) [v] (fun _ H'=>∃ m',m'<n∧W (i+1) m' H') I10 rfl (.cons r10 .nil) ⟨D,ys,y,rfl,rfl,hD,hy,q10⟩) fun _ s11 zz67=>?_))
   obtain ⟨_,H11,I11,_,q11⟩:=zz67
   exact wpAny_pure (wpAny_pure ⟨rfl,again I11 q11⟩)
theorem comp_core {cl:List (Str×Addr)} {pins:List (Addr×Obj)} {σ:St} {R:Value→Addr→Result→Shared→Prop} {Q:V→Hp→Prop} {s2:Shared} {itv:Value} (S:CompScope X.env.scope cs X.N N') (hc:X.calm=true)
  (hg:∀ cl ex s H,PG (cxComp X cs cl N' ex s H) tg g) (hk:GKeep X.N.length g) (ht:∀ cl ex s H,PIf (cxComp X cs cl N' ex s H) ifs tc) (he:∀ cl ex s H,PE (cxComp X cs cl N' ex s H) elt te)
  (hcl1:∀ x c,cl.lookup x=some c→X.env.cells.lookup x=some c) (hcl2:∀ x,(x,NameKind.free)∈cs.names→∃ c,cl.lookup x=some c)
  (h:PIE X pins σ tg (fun J H1=>∀ D,H1 D=none→CompW J D g tc te (inner N' σ) H1 (Q (.ref D))) itv s2)
  (hR:∀ (D C:Addr) (H':Hp) (s':Shared),Inv X pins σ H' s'→Q (.ref D) H'→(∃ m,s'.heap.Ns C m)→FpOk X pins H' C→R (.ref D) C (.ok .next) s') :
  wpAny (model X.prog X.w) X.A (newList []) (fun acc s₃=>wpAny (model X.prog X.w) X.A (newFunctionEnv cs X.env.globals cl [] X.env.qual none .none (some X.env)) (fun cenv s₄=>
   codeAny (model X.prog X.w) X.A (.compStart (.ListComp elt [⟨tg,iter,ifs,0⟩] cs pos) 0 itv acc { cenv with scope:=relabel cs X.env }) (R acc cenv.locals) s₄) X.xe s₃) X.xe s2:=by
 obtain ⟨it,fp,tn,J,H2,e,I2,T,st2,f2,hw⟩:=h
 subst e
 refine wpAny_newObj_type (wpAny_newFunctionEnv S.ncell (by intro y hy; simp at hy) (fun h1 hns1 hsb1=>?_) S.kind)
 dsimp only at hns1 hsb1 ⊢
 have hD:=I2.hok.fresh (Nat.le_refl _)
 obtain ⟨W,⟨m0,w0⟩,turn⟩:=hw s2.heap.objs.size hD
 have I3:Inv X pins σ (upd H2 s2.heap.objs.size (.lst [])) { s2 with heap:=s2.heap.push { cls:=.type "list",dict:=none,data:=.seq ([]:List Value).toArray } }:=I2.lnew (t':=s2.toks) .nil (Nat.zero_le _)
 have hfp3:∀ b∈fp,b<s2.heap.objs.size:=fun b hb=>by
  obtain ⟨o,e,_⟩:=T.obj 0 _ st2 b hb
  exact Heap.lt_size e
 have hf3:∀ b∈fp,FpOk X pins (upd H2 s2.heap.objs.size (.lst [])) b:=fun b hb=>by
  obtain ⟨f0,r⟩:=f2 b hb
  exact ⟨by rw [upd_ne (Nat.ne_of_lt (hfp3 b hb))]; exact f0,r⟩
 have hlt:∀ b∈fp,b<(s2.heap.push { cls:=.type "list",dict:=none,data:=.seq ([]:List Value).toArray }).objs.size:=fun b hb=>by rw [Heap.size_push]; exact Nat.lt_succ_of_lt (hfp3 b hb)
 have kp:∀ b o,(s2.heap.push { cls:=.type "list",dict:=none,data:=.seq ([]:List Value).toArray }).get? b=some o→h1.get? b=some o:=fun b o e=>hsb1.extBut b o (Nat.ne_of_lt (Heap.lt_size e)) (Heap.get?_push_of_some _ e)
 have I4:=comp_inv (cs:=cs) (cl:=cl) (N':=N') (fp:=fp) (s4:={ s2 with heap:=h1,toks:=s2.toks+([]:List (Str×Value)).length }) S I3 hcl1 hcl2 hf3 hlt kp hns1 rfl rfl
 have st4:tn 0 h1:=T.keep 0 _ _ st2 fun b hb o e=>kp b o (Heap.get?_push_of_some _ e)
 have loop:=comp_loop (R:=R (.ref s2.heap.objs.size) (s2.heap.push { cls:=.type "list",dict:=none,data:=.seq ([]:List Value).toArray }).objs.size) (D:=s2.heap.objs.size) (iter:=iter) (pos:=pos) (it:=it) (Q:=Q (.ref s2.heap.objs.size)) hc (hg cl fp _ _) hk (ht cl fp _ _) (he cl fp _ _) hcl1 I3 I4 T st4 hf3 hlt w0 turn fun H' s' I' q n f=>hR _ _ H' s' I' q n f
 exact codeAny_compStart_list loop (T.self _ 0 _ _ _ st4 loop)
theorem pe_comp (S:CompScope X.env.scope cs X.N N') (hc:X.calm=true) (hi:PI X tg iter wi)
  (hg:∀ cl ex s H,PG (cxComp X cs cl N' ex s H) tg g) (hk:GKeep X.N.length g) (ht:∀ cl ex s H,PIf (cxComp X cs cl N' ex s H) ifs tc) (he:∀ cl ex s H,PE (cxComp X cs cl N' ex s H) elt te)
  (hs:∀ x,foldedSetIterable iter X.env x=pure x:=by intro _; rfl):PE X (.ListComp elt [⟨tg,iter,ifs,0⟩] cs pos) (tComp N' wi g tc te):=by
 intro pins s σ H Q I h
 obtain ⟨cl,e,h1,h2,_⟩:=closure_of (env:=X.env) cs.names [] (fun x hx hk=>I.ok.has x.1 (S.free x hx hk)) (fun _ _ z=>nomatch z)
 have hclos:closureFor cs X.env=pure cl:=by
  simp only [closureFor]
  rw [e]; rfl
 rw [eval_ListComp]
 refine wpAny_comprehension_free (use:=none) rfl hs hclos S.kind S.loc (thn (hi pins s σ H _ I h) fun v s1 q1=>thn q1 fun itv s2 q2=>?_)
 refine comp_core (R:=fun acc C=>compPost (model X.prog X.w) X.A X.xe none (EP X pins σ Q) acc C) (Q:=Q) S hc hg hk ht he h1 h2 q2 fun D C H' s' I' q n f=>?_
 obtain ⟨m,hn⟩:=n
 obtain ⟨f0,f1,f2,f3,f4,f5⟩:=f
 exact ⟨m,hn,fun h' sb=>⟨.ref D,H',I'.turned (t':=s'.toks) (fun b o hb e=>sb.extBut b o hb e) f0 f1 f3 f4 f5,rfl,q⟩⟩
theorem ps_setc {i:Nat} {y:Str} {py spos:Pos} (S:CompScope X.env.scope cs X.N N') (hc:X.calm=true) (hi:PI X tg iter wi)
  (hg:∀ cl ex s H,PG (cxComp X cs cl N' ex s H) tg g) (hk:GKeep X.N.length g) (ht:∀ cl ex s H,PIf (cxComp X cs cl N' ex s H) ifs tc) (he:∀ cl ex s H,PE (cxComp X cs cl N' ex s H) elt te)
  (hN:X.N.Nodup) (hy:X.N[i]?=some y) (hl:Loc X.env.scope y)
  (hsw:swapsWith (.ListComp elt [⟨tg,iter,ifs,0⟩] cs pos) (some (.Name y py)) spos.line X.env=pure true:=by rfl) (hf:X.fn y=true∨X.env.scope.names.lookup y=some .local:=by first | exact .inl rfl | exact .inr rfl | assumption)
  (hs:∀ x,foldedSetIterable iter X.env x=pure x:=by intro _; rfl):PS X (.Assign [.Name y py] (.ListComp elt [⟨tg,iter,ifs,0⟩] cs pos) spos) (tAsg (tComp N' wi g tc te) (gName i)):=by
 intro pins s σ H Q I h
 obtain ⟨cl,e,h1,h2,_⟩:=closure_of (env:=X.env) cs.names [] (fun x hx hk=>I.ok.has x.1 (S.free x hx hk)) (fun _ _ z=>nomatch z)
 have hclos:closureFor cs X.env=pure cl:=by
  simp only [closureFor]
  rw [e]; rfl
 rw [exec_Assign_Name_used _ _ _ _ hsw]
 refine wpAny_bind (wpAny_standAt (wpAny_bind ?_))
 show wpAny _ _ (comprehension (.ListComp elt [⟨tg,iter,ifs,0⟩] cs pos) cs X.env _ (newList []) false (eval iter X.env) (some (assign (.Name y py) X.env))>>=_) _ _ s
 refine wpAny_bind (thn (wpAny_comprehension_free (use:=some (assign (.Name y py) X.env)) (Q:=fun _ s'=>SP X pins Q .next s') rfl hs hclos S.kind S.loc (thn (hi pins s σ H _ I h) fun v s1 q1=>thn q1 fun itv s2 q2=>?_)) fun _ s' q=>wpAny_pure (wpAny_pure q))
 refine comp_core (R:=fun acc C=>compPost (model X.prog X.w) X.A X.xe (some (assign (.Name y py) X.env)) (fun _ s'=>SP X pins Q .next s') acc C) (Q:=fun x H1=>gName i x σ H1 Q.nx) S hc hg hk ht he h1 h2 q2 fun D C H' s' I' q n f=>?_
 obtain ⟨m,hn⟩:=n
 obtain ⟨f0,f1,f2,f3,f4,f5⟩:=f
 show wpAny _ _ (assign (.Name y py) X.env (.ref D)) _ _ _
 refine wpAny_assign_Name (store_ok2 (v:=.ref D) (u:=.ref D) I' hN hy hl rfl (fun s'' I'' zz68=>?_) hf)
 obtain ⟨a,sb,ha⟩:=zz68
 have hCa:C≠a:=by
  rcases ha with rfl | ha
  ·exact f1
  ·exact fun q=>f4 _ _ ha q.symm
 refine ⟨m,hn.sameBut sb hCa,fun h' sb'=>?_⟩
 exact ⟨_,H',I''.turned (t':=s''.toks) (fun b o hb e=>sb'.extBut b o hb e) f0 f1 f3 f4 f5,q⟩
end
end L2
set_option Elab.async false
set_option linter.all false
set_option maxRecDepth 100000
namespace L2
open PySem PySem.Spec PyProof.Rows
theorem Sq.same {K:PySem.W.Frag} {H H':Hp} {t:Bool} {a:Addr} {xs:List V} (e:Same H H') (h:Sq K H t a xs):Sq K H' t a xs:=by
 unfold Sq at h ⊢
 split
 ·rename_i ht; rw [if_pos ht] at h
  rcases h with (h | ⟨o,h⟩) | h
  ·exact .inl (.inl (e _ _ h))
  ·exact .inl (.inr ⟨o,e _ _ h⟩)
  ·exact .inr h
 ·rename_i ht; rw [if_neg ht] at h
  exact e.seq h
noncomputable def seqAt (K:PySem.W.Frag) (H:Hp) (p:Addr) (R:List V→Prop):Prop:=match H p with
 | some (.tup xs)=>R xs
 | some (.lst xs)=>R xs
 | _=>∃ t xs,Sq K H t p xs∧R xs
section
variable {X:Cx}
noncomputable def ItQ (K:PySem.W.Frag) (t:Bool) (a:Addr):It:=if t=true then Itt K a else Itl K a
noncomputable def iSq (K:PySem.W.Frag) (tl:TE):TI:=fun σ H R=>tl σ H fun x H1=>∃ a,x=.ref a∧∃ t xs,Sq K H1 t a xs∧R (ItQ K t a) H1
theorem pi_sq {tg l:Expr} {tl:TE} (hl:PE X l tl):PI X tg l (iSq X.K tl):=by
 intro pins s σ H R I h
 refine thn (hl pins s σ H _ I h) fun v s1 zz69=>?_
 obtain ⟨x,H1,I1,r1,q1⟩:=zz69
 obtain ⟨a,e,t,xs,hq,q⟩:=q1
 subst e
 cases r1
 cases t with
 | true=>
  have hq':SqT X.K H1 a xs:=by unfold Sq at hq; rw [if_pos rfl] at hq; exact hq
  obtain ⟨its,rv,p,hz⟩:=I1.tuple hq'
  refine wpAny_pyIter_tuple (show s1.heap.IsTuple a its.toArray from p) ?_
  refine ⟨s1.heap.objs.size,[s1.heap.objs.size],_,Itt X.K a,H1,rfl,I1.kept (t':=s1.toks) fun b o e=>Heap.get?_push_of_some _ e,turn_tuple a _,⟨_,Heap.get?_push_size _ rfl,rfl,rfl⟩,fun b hb=>?_,q⟩
  have e:b=s1.heap.objs.size:=by simpa using hb
  subst e
  exact I1.fpOk (Nat.le_refl _) (I1.hok.fresh (Nat.le_refl _))
 | false=>
  have hq':SqL X.K H1 a xs:=by unfold Sq at hq; rw [if_neg Bool.false_ne_true] at hq; exact hq
  obtain ⟨its,rv,p,hz⟩:=I1.list hq'
  refine wpAny_pyIter_list p.isList ?_
  refine ⟨s1.heap.objs.size,[s1.heap.objs.size],_,Itl X.K a,H1,rfl,I1.kept (t':=s1.toks) fun b o e=>Heap.get?_push_of_some _ e,turn_list a _,⟨_,Heap.get?_push_size _ rfl,rfl,rfl⟩,fun b hb=>?_,q⟩
  have e:b=s1.heap.objs.size:=by simpa using hb
  subst e
  exact I1.fpOk (Nat.le_refl _) (I1.hok.fresh (Nat.le_refl _))
theorem bt_bool:bootBuiltins "bool" = some (.type "bool"):=by decide +kernel
theorem bt_int:bootBuiltins "int" = some (.type "int"):=by decide +kernel
theorem bt_list:bootBuiltins "list" = some (.type "list"):=by decide +kernel
theorem bt_tuple:bootBuiltins "tuple" = some (.type "tuple"):=by decide +kernel
theorem bt_max:bootBuiltins "max" = some (.builtin "max"):=by decide +kernel
noncomputable def tyB (H:Hp):V→Option String
 | .non=>some "NoneType"
 | .bl _=>some "bool"
 | .int _=>some "int"
 | .str _=>some "str"
 | .ref a=>match H a with
  | some (.lst _)=>some "list"
  | some (.tup _)=>some "tuple"
  | some (.dK _)=>some "dict"
  | _=>none
 | _=>none
noncomputable def isiB (A T:String):Option Bool:=
 if A=T then some true else if A = "bool" ∧ T = "int" then some true
 else if (A = "NoneType" ∨ A = "bool" ∨ A = "int" ∨ A = "str" ∨ A = "list" ∨ A = "tuple" ∨ A = "dict")∧(T = "bool" ∨ T = "int" ∨ T = "list" ∨ T = "tuple") then some false else none
theorem tyB_ok {K:PySem.W.Frag} {H:Hp} {x:V} {A:String} (h:tyB H x=some A):TyOf K H x (.type A):=by
 unfold tyB at h
 split at h
 ·cases h; exact .non
 ·cases h; exact .bl _
 ·cases h; exact .int _
 ·cases h; exact .str _
 ·rename_i a
  split at h
  ·rename_i e; cases h; exact .lst e
  ·rename_i e; cases h; exact .tup e
  ·rename_i e; cases h; exact .dK e
  ·cases h
 ·cases h
theorem isiB_ok {K:PySem.W.Frag} {A T:String} {b:Bool} (h:isiB A T=some b):PySem.W.kitOne K (.type A) (.type T)=some b:=by
 unfold isiB at h
 split at h
 ·rename_i e; subst e; cases h
  unfold PySem.W.kitOne
  rw [if_pos (by simp)]
 ·split at h
  ·rename_i e; obtain ⟨rfl,rfl⟩:=e; cases h; with_unfolding_all rfl
  ·split at h
   ·rename_i h1 h2 e
    obtain ⟨e1,e2⟩:=e
    cases h
    rcases e1 with rfl | rfl | rfl | rfl | rfl | rfl | rfl <;> rcases e2 with rfl | rfl | rfl | rfl <;>
     first | exact absurd rfl h1 | exact absurd ⟨rfl,rfl⟩ h2 | with_unfolding_all rfl
   ·cases h
noncomputable def rIsi:List V→Hp→VK→Prop:=fun xs H Q=>∃ x T,xs = [x,.ty T]∧∃ A,tyB H x=some A∧∃ b,isiB A T=some b∧Q (.bl b) H
theorem call_isi:CallR X (.builtin "isinstance") rIsi:=by
 intro pins s σ H xs us Q I r h
 obtain ⟨x,T,rfl,A,ty,b,e,q⟩:=h
 obtain ⟨u,w',rfl,r1,r2⟩:=vals2 r
 have e2:w'=Value.type T:=r2
 subst e2
 exact isinst_ok I r1 (tyB_ok ty) (isiB_ok e) fun tk=>⟨.bl b,H,I.tok tk,rfl,q⟩
end
theorem isi_bb:isiB "bool" "bool" = some true:=by decide
theorem isi_bi:isiB "bool" "int" = some true:=by decide
theorem isi_ib:isiB "int" "bool" = some false:=by decide
theorem isi_ii:isiB "int" "int" = some true:=by decide
theorem isi_tt:isiB "tuple" "tuple" = some true:=by decide
theorem isi_ll:isiB "list" "list" = some true:=by decide
theorem isi_ni:isiB "NoneType" "int" = some false:=by decide
theorem isi_nb:isiB "NoneType" "bool" = some false:=by decide
theorem isi_si:isiB "str" "int" = some false:=by decide
theorem isi_sb:isiB "str" "bool" = some false:=by decide
theorem isi_li:isiB "list" "int" = some false:=by decide
theorem isi_lb:isiB "list" "bool" = some false:=by decide
theorem isi_ti:isiB "tuple" "int" = some false:=by decide
theorem isi_tb:isiB "tuple" "bool" = some false:=by decide
theorem ixN_int {n:Nat} {i:Int} (h0:0≤i) (h1:i<n):ixN n i=some i.toNat:=by unfold ixN; rw [if_pos h0,if_pos h1]
theorem mem_getD {ms:List Int} {P:Int→Prop} (h:∀ x∈ms,P x) {i:Nat} (hi:i<ms.length):P (ms.getD i 0):=by
 have:ms.getD i 0=ms[i]:=by simp [hi]
 rw [this]; exact h _ (List.getElem_mem hi)
structure Runs (J:It) (n:Nat) (H1:Hp) (Y:Nat→V→Hp→Hp→Prop):Prop where
 go:∀ i H,i<n→Same H1 H→J.go i H
 stop:∀ H,Same H1 H→J.stop n H
 yld:∀ i H x H',i<n→Same H1 H→J.yld i H x H'→Y i x H H'
theorem runs_zip2 {K:PySem.W.Frag} {t u:Bool} {a b:Addr} {xs ys:List V} {H1:Hp} (h:Sq K H1 t a xs) (h':Sq K H1 u b ys) :
  Runs (ItZ K [(t,a),(u,b)]) (min xs.length ys.length) H1 fun i x H H'=>∃ p y z,x=.ref p∧H p=none∧H'=upd H p (.tup [y,z])∧xs[i]?=some y∧ys[i]?=some z:=by
 refine ⟨fun i H hi s v hv=>?_,fun H s=>⟨fun v hv=>?_,?_⟩,fun i H x H' hi s hy=>?_⟩
 ·simp only [List.mem_cons,List.not_mem_nil,or_false] at hv
  rcases hv with rfl | rfl
  ·exact ⟨xs,xs[i]'(by omega),Sq.same s h,by simp⟩
  ·exact ⟨ys,ys[i]'(by omega),Sq.same s h',by simp⟩
 ·simp only [List.mem_cons,List.not_mem_nil,or_false] at hv
  rcases hv with rfl | rfl
  ·exact ⟨xs,Sq.same s h⟩
  ·exact ⟨ys,Sq.same s h'⟩
 ·rcases Nat.le_total xs.length ys.length with q | q
  ·exact ⟨(t,a),by simp,xs,Sq.same s h,by omega⟩
  ·exact ⟨(u,b),by simp,ys,Sq.same s h',by omega⟩
 ·obtain ⟨p,zs,e1,e2,e3,pr⟩:=hy
  cases pr with
  | cons r1 pr=>
   cases pr with
   | cons r2 pr=>
    cases pr
    exact ⟨p,_,_,e1,e2,e3,r1 xs (Sq.same s h),r2 ys (Sq.same s h')⟩
theorem runs_zip3 {K:PySem.W.Frag} {t u w:Bool} {a b c:Addr} {xs ys zs:List V} {H1:Hp} (h:Sq K H1 t a xs) (h':Sq K H1 u b ys) (h'':Sq K H1 w c zs) :
  Runs (ItZ K [(t,a),(u,b),(w,c)]) (min xs.length (min ys.length zs.length)) H1 fun i x H H'=>∃ p y z v,x=.ref p∧H p=none∧H'=upd H p (.tup [y,z,v])∧xs[i]?=some y∧ys[i]?=some z∧zs[i]?=some v:=by
 refine ⟨fun i H hi s v hv=>?_,fun H s=>⟨fun v hv=>?_,?_⟩,fun i H x H' hi s hy=>?_⟩
 ·simp only [List.mem_cons,List.not_mem_nil,or_false] at hv
  rcases hv with rfl | rfl | rfl
  ·exact ⟨xs,xs[i]'(by omega),Sq.same s h,by simp⟩
  ·exact ⟨ys,ys[i]'(by omega),Sq.same s h',by simp⟩
  ·exact ⟨zs,zs[i]'(by omega),Sq.same s h'',by simp⟩
 ·simp only [List.mem_cons,List.not_mem_nil,or_false] at hv
  rcases hv with rfl | rfl | rfl
  ·exact ⟨xs,Sq.same s h⟩
  ·exact ⟨ys,Sq.same s h'⟩
  ·exact ⟨zs,Sq.same s h''⟩
 ·have:min xs.length (min ys.length zs.length)=xs.length∨min xs.length (min ys.length zs.length)=ys.length∨min xs.length (min ys.length zs.length)=zs.length:=by omega
  rcases this with q | q | q
  ·exact ⟨(t,a),by simp,xs,Sq.same s h,by omega⟩
  ·exact ⟨(u,b),by simp,ys,Sq.same s h',by omega⟩
  ·exact ⟨(w,c),by simp,zs,Sq.same s h'',by omega⟩
 ·obtain ⟨p,vs,e1,e2,e3,pr⟩:=hy
  cases pr with
  | cons r1 pr=>
   cases pr with
   | cons r2 pr=>
    cases pr with
    | cons r3 pr=>
     cases pr
     exact ⟨p,_,_,_,e1,e2,e3,r1 xs (Sq.same s h),r2 ys (Sq.same s h'),r3 zs (Sq.same s h'')⟩
structure Def (K:PySem.W.Frag) (mg:Str→Option Value) (x:Str) (st:Stmt) (ps:List Str) (f:Addr) (fd:FuncData):Prop where
 F:Fun K x x st f fd
 m:mg x=some (.ref f)
 b:Binds K fd ps []
section
variable {X:Cx}
theorem pg_tupK (K:PySem.W.Frag) {es:List Expr} {pos:Pos} {k:Nat} {t:TGs} (n:Nat) (hc:X.calm=true) (h:PGs X es t) (hK:X.K=K:=by rfl)
  (hn:(assignEach es X.env).length=n:=by rfl) (hst:(assignEach es X.env).findIdx? (·.1)=none:=by rfl):PG X (.Tuple es k pos) (gTup K n t):=by subst hK; exact pg_tup hc h hn hst
noncomputable def tApp (to:TE) (te:TE):TE:=fun σ H Q=>to σ H fun x H1=>∃ p,x=.ref p∧(∃ xs,H1 p=some (.lst xs))∧te σ H1 fun y H2=>match H2 p with
 | some (.lst xs)=>xs.length<sizeLine∧Q .non (upd H2 p (.lst (xs ++ [y])))
 | _=>False
theorem pe_append {o e:Expr} {to te:TE} {apos cpos:Pos} (ho:PE X o to) (ha:PE X e te)
  (hbase:attributeBase o "append" X.env (eval o X.env)=eval o X.env:=by rfl)
  (hfew:((backTo cpos (starEach [e] X.env)).all (fun x=>!x.1)&&(backToKw cpos (keywordEach [] X.env)).all (fun x=>x.1.isSome)
   && decide (([e]:List Expr).length+([]:List Keyword).length+(if ([]:List Keyword).isEmpty then 0 else 1)<30))=true:=by rfl)
  (hline:(apos.endLine == cpos.line)=true:=by rfl) (hs:starEach [e] X.env=(false,eval e X.env)::starEach [] X.env:=by rfl):PE X (.Call (.Attribute o "append" apos) [e] [] cpos) (tApp to te):=by
 intro pins s σ H Q I h
 refine wpAny_Call_method_late hbase hfew hline rfl (thn (ho pins s σ H _ I h) fun v s1 zz70=>?_)
 obtain ⟨x,H1,I1,r1,p,ex,⟨xs,e1⟩,q1⟩:=zz70
 subst ex
 obtain ⟨h1,h2⟩:=tyV_is (T := "list") I1 r1 (.inl ⟨rfl,xs,SqL.of e1⟩)
 refine ⟨"list", "list.append",PySem.F.plainAttrs_list,PySem.F.slot_list_append,PySem.F.type_list_append,h1,h2,?_⟩
 have hA:=pa_cons ha pa_nil hs cpos pins s1 σ H1 (fun vs H2=>∃ y,vs = [y]∧match H2 p with
  | some (.lst xs)=>xs.length<sizeLine∧Q .non (upd H2 p (.lst (xs ++ [y])))
  | _=>False) I1 (by
   have e:(fun (y:V) (H2:Hp)=>match H2 p with
     | some (.lst xs)=>xs.length<sizeLine∧Q .non (upd H2 p (.lst (xs ++ [y])))
     | _=>False)=fun (y:V) (H2:Hp)=>∃ y',[y] = [y']∧match H2 p with
     | some (.lst xs)=>xs.length<sizeLine∧Q .non (upd H2 p (.lst (xs ++ [y'])))
     | _=>False:=by
    funext y H2
    exact propext ⟨fun q=>⟨y,rfl,q⟩,fun zz71=>by obtain ⟨y',e,q⟩:=zz71; cases e; exact q⟩
   rw [e] at q1
   exact q1)
 rw [hs] at hA ⊢
 refine Calls.callWith_builtin rfl (Calls.evalArgs_plain ?_)
 refine thn hA fun us s2 zz72=>?_
 obtain ⟨vs,H2,I2,r2,y,ev,q2⟩:=zz72
 subst ev
 refine mt_append pins s2 σ H2 (.ref p) [y] v us Q I2 r1 r2 ?_
 split at q2
 ·rename_i ys e2; exact ⟨p,ys,y,rfl,rfl,e2,q2.1,q2.2⟩
 ·exact q2.elim
end
section
variable {X:Cx}
end
noncomputable def CPowB (i j:Int):Prop:=0≤j∧(Builtin.Int.intBits i:Int)*j≤2^27
theorem getD_of {ns:List Int} {i:Nat} {z:Int} (h:ns[i]?=some z):ns.getD i 0=z:=by rw [List.getD_eq_getElem?_getD,h]; rfl
theorem some_getD {ns:List Int} {i:Nat} (h:i<ns.length):ns[i]?=some (ns.getD i 0):=by rw [List.getD_eq_getElem?_getD]; simp [h]
end L2
set_option Elab.async false
set_option linter.all false
set_option maxRecDepth 100000
namespace TP
open PySem L2
inductive W where
 | non | bl (b:Bool) | int (i:Int) | str (x:Str) | ty (n:String) | tup (ws:List W) | lst (ws:List W) | scr (ws:List W)
 | exc (c:Str) (i:Option Int) | cls (c:Str)
noncomputable def XD (F:Hp) (od:Option Addr):Option Int→Prop
 | none=>od=none
 | some i=>∃ d,od=some d∧F d=some (.xd [("at",.int i)])
mutual
inductive Rep (K:PySem.W.Frag) (F:Hp):V→W→Prop where
 | non:Rep K F .non .non
 | bl {b:Bool}:Rep K F (.bl b) (.bl b)
 | int {i:Int}:Rep K F (.int i) (.int i)
 | str {x:Str}:Rep K F (.str x) (.str x)
 | ty {n:String}:Rep K F (.ty n) (.ty n)
 | tup {a:Addr} {vs:List V} {ws:List W}:F a=some (.tup vs)→Reps K F vs ws→Rep K F (.ref a) (.tup ws)
 | lst {a:Addr} {vs:List V} {ws:List W}:F a=some (.lst vs)→Reps K F vs ws→Rep K F (.ref a) (.lst ws)
 | scr {a:Addr} {vs:List V} {ws:List W}:SqL K F a vs→Reps K F vs ws→Rep K F (.ref a) (.scr ws)
 | exc {a C:Addr} {o:Obj} {vs:Array Value} {c:Str} {i:Option Int}:F a=some (.ext fun h=>h.get? a=some o)→o.cls=.ref C→o.data=.fields vs→PySem.W.nsIn K mainGlobals c=some (some (.ref C))→XD F o.dict i→Rep K F (.ref a) (.exc c i)
 | cls {C:Addr} {c:Str}:PySem.W.nsIn K mainGlobals c=some (some (.ref C))→Rep K F (.ref C) (.cls c)
inductive Reps (K:PySem.W.Frag) (F:Hp):List V→List W→Prop where
 | nil:Reps K F [] []
 | cons {v:V} {w:W} {vs:List V} {ws:List W}:Rep K F v w→Reps K F vs ws→Reps K F (v::vs) (w::ws)
end
section
variable {K:PySem.W.Frag} {F F':Hp}
theorem sqT_same {a:Addr} {xs:List V} (e:Same F F') (h:SqT K F a xs):SqT K F' a xs:=by
 rcases h with (h | ⟨o,h⟩) | h
 ·exact .inl (.inl (e _ _ h))
 ·exact .inl (.inr ⟨o,e _ _ h⟩)
 ·exact .inr h
theorem XD.same (e:Same F F') {od:Option Addr}:∀ {i:Option Int},XD F od i→XD F' od i:=by
 intro i h
 cases i with
 | none=>exact h
 | some _=>obtain ⟨d,h1,h2⟩:=h; exact ⟨d,h1,e _ _ h2⟩
theorem Rep.same (e:Same F F') {v:V} {w:W} (r:Rep K F v w):Rep K F' v w:=
 @Rep.rec K F (fun v w _=>Rep K F' v w) (fun vs ws _=>Reps K F' vs ws) .non .bl .int .str .ty (fun h _ r=>.tup (e _ _ h) r) (fun h _ r=>.lst (e _ _ h) r) (fun h _ r=>.scr (Same.seq e h) r) (fun h1 h2 h3 h4 h5=>.exc (e _ _ h1) h2 h3 h4 (XD.same e h5)) (fun h=>.cls h) .nil (fun _ _ a b=>.cons a b) v w r
theorem Reps.same (e:Same F F') {vs:List V} {ws:List W} (r:Reps K F vs ws):Reps K F' vs ws:=
 @Reps.rec K F (fun _ _ _=>True) (fun vs ws _=>Reps K F' vs ws) trivial trivial trivial trivial trivial (fun _ _ _=>trivial) (fun _ _ _=>trivial) (fun _ _ _=>trivial) (fun _ _ _ _ _=>trivial) (fun _=>trivial) .nil (fun h _ _ b=>.cons (Rep.same e h) b) vs ws r
theorem Reps.ind {P:List V→List W→Prop} (h0:P [] []) (h1:∀ {v:V} {w:W} {vs:List V} {ws:List W},Rep K F v w→Reps K F vs ws→P vs ws→P (v::vs) (w::ws)) {vs:List V} {ws:List W} (r:Reps K F vs ws):P vs ws:=
 @Reps.rec K F (fun _ _ _=>True) (fun vs ws _=>P vs ws) trivial trivial trivial trivial trivial (fun _ _ _=>trivial) (fun _ _ _=>trivial) (fun _ _ _=>trivial) (fun _ _ _ _ _=>trivial) (fun _=>trivial) h0 (fun h r _ b=>h1 h r b) vs ws r
theorem Reps.length {vs:List V} {ws:List W} (r:Reps K F vs ws):vs.length=ws.length:=
 Reps.ind (P:=fun vs ws=>vs.length=ws.length) rfl (fun _ _ h=>congrArg (·+1) h) r
theorem Reps.get {vs:List V} {ws:List W} {i:Nat} {w:W} (r:Reps K F vs ws):ws[i]?=some w→∃ v,vs[i]?=some v∧Rep K F v w:=
 Reps.ind (P:=fun vs ws=>∀ (i:Nat) (w:W),ws[i]?=some w→∃ v,vs[i]?=some v∧Rep K F v w) (fun i w e=>by cases e) (fun h _ b i w e=>by
  cases i with
  | zero=>cases e; exact ⟨_,rfl,h⟩
  | succ i=>exact b i w e) r i w
theorem Reps.get' {vs:List V} {ws:List W} {i:Nat} {v:V} (r:Reps K F vs ws):vs[i]?=some v→∃ w,ws[i]?=some w∧Rep K F v w:=
 Reps.ind (P:=fun vs ws=>∀ (i:Nat) (v:V),vs[i]?=some v→∃ w,ws[i]?=some w∧Rep K F v w) (fun i w e=>by cases e) (fun h _ b i w e=>by
  cases i with
  | zero=>cases e; exact ⟨_,rfl,h⟩
  | succ i=>exact b i w e) r i v
theorem Reps.append {vs us:List V} {ws xs:List W} (r:Reps K F vs ws) (s:Reps K F us xs):Reps K F (vs++us) (ws++xs):=
 Reps.ind (P:=fun vs ws=>Reps K F (vs++us) (ws++xs)) s (fun h _ b=>.cons h b) r
theorem Reps.take {vs:List V} {ws:List W} (n:Nat) (r:Reps K F vs ws):Reps K F (vs.take n) (ws.take n):=
 Reps.ind (P:=fun vs ws=>∀ n,Reps K F (vs.take n) (ws.take n)) (fun n=>by simpa using .nil) (fun h _ b n=>by
  cases n with
  | zero=>exact .nil
  | succ n=>exact .cons h (b n)) r n
theorem Reps.drop {vs:List V} {ws:List W} (n:Nat) (r:Reps K F vs ws):Reps K F (vs.drop n) (ws.drop n):=
 Reps.ind (P:=fun vs ws=>∀ n,Reps K F (vs.drop n) (ws.drop n)) (fun n=>by simpa using .nil) (fun h r b n=>by
  cases n with
  | zero=>exact .cons h r
  | succ n=>exact b n) r n
theorem Reps.reverse {vs:List V} {ws:List W} (r:Reps K F vs ws):Reps K F vs.reverse ws.reverse:=by
 induction r using Reps.rec (motive_1:=fun _ _ _=>True) with
 | nil=>exact .nil
 | cons h _ _ ih=>rw [List.reverse_cons,List.reverse_cons]; exact Reps.append ih (.cons h .nil)
 | _=>trivial
theorem Reps.set {v:V} {w:W} (h:Rep K F v w) {vs:List V} {ws:List W} (i:Nat) (r:Reps K F vs ws):Reps K F (vs.set i v) (ws.set i w):=
 Reps.ind (P:=fun vs ws=>∀ i,Reps K F (vs.set i v) (ws.set i w)) (fun _=>.nil) (fun q t b i=>by
  cases i with
  | zero=>exact .cons h t
  | succ i=>exact .cons q (b i)) r i
theorem Reps.snoc {vs:List V} {ws:List W} {v:V} {w:W} (r:Reps K F vs ws) (h:Rep K F v w):Reps K F (vs ++ [v]) (ws ++ [w]):=r.append (.cons h .nil)
end
mutual
noncomputable def noL:W→Bool
 | .lst _=>false
 | .scr _=>false
 | .tup ws=>noLs ws
 | _=>true
noncomputable def noLs:List W→Bool
 | []=>true
 | w::ws=>noL w&&noLs ws
end
noncomputable def isL:HO→Bool
 | .lst _=>true
 | .dT _=>true
 | .dK _=>true
 | .frz _ (.lst _)=>true
 | _=>false
noncomputable def join (H0 G:Hp):Hp:=fun a=>match H0 a with
 | some o=>if isL o then some o else G a
 | none=>G a
inductive Sl where
 | un | val (w:W) | par (w:W) | own (ws:List W) | dic (ks:List (List Int)) | dik (ks:List Int) | iop (p:Addr) (ws:List W) | hz (w:W)
noncomputable abbrev Rho:=List Sl
noncomputable def noLG (G:Hp):Hp:=fun a=>match G a with
 | some o=>if isL o then none else some o
 | none=>none
theorem noLG_same {G G':Hp} (h:Same G G'):Same (noLG G) (noLG G'):=fun a o e=>by
 unfold noLG at e ⊢
 cases q:G a with
 | none=>rw [q] at e; cases e
 | some u=>rw [q] at e; rw [h a u q]; exact e
theorem noLG_sub {G:Hp}:Same (noLG G) G:=fun a o e=>by
 unfold noLG at e
 cases q:G a with
 | none=>rw [q] at e; cases e
 | some u=>
  rw [q] at e
  dsimp only at e
  cases hl:isL u
  ·rw [hl] at e; exact e
  ·rw [hl] at e; cases e
noncomputable def SlR (K:PySem.W.Frag) (H0 G H:Hp):Sl→Option V→Prop
 | .un,_=>True
 | .val w,o=>∃ v,o=some v∧Rep K G v w
 | .par w,o=>∃ v,o=some v∧Rep K (join H0 G) v w
 | .own ws,o=>∃ a vs,o=some (.ref a)∧H a=some (.lst vs)∧G a=none∧H0 a=none∧Reps K G vs ws
 | .dic ks,o=>∃ (a:Addr) (kvs:List (List Key×V)),o=some (.ref a)∧H a=some (.dT kvs)∧G a=none∧H0 a=none∧kvs.map (·.1)=ks.map fun k=>k.map Sum.inl
 | .dik ks,o=>∃ (a:Addr) (kvs:List (Key×V)),o=some (.ref a)∧H a=some (.dK kvs)∧G a=none∧H0 a=none∧kvs.map (·.1)=ks.map Sum.inl
 | .iop p ws,o=>o=some (.ref p)∧∃ vs,H0 p=some (.lst vs)∧Reps K G vs ws
 | .hz w,o=>∃ v,o=some v∧Rep K (join H0 (noLG G)) v w
structure PIv (K:PySem.W.Frag) (H0 G:Hp) (ρ:Rho) (σ:St) (H:Hp):Prop where
 g0:∀ a o,H0 a=some o→isL o=false→G a=some o
 gl:∀ a o,H0 a=some o→isL o=true→G a=none
 gh:Same G H
 hh:Same H0 H
 len:ρ.length=σ.length
 sl:∀ (i:Nat) (x:Sl) (o:Option V),ρ[i]?=some x→σ[i]?=some o→SlR K H0 G H x o
 ne:∀ (i j:Nat) (ws us:List W) (a:Addr),i≠j→ρ[i]?=some (.own ws)→ρ[j]?=some (.own us)→σ[i]?=some (some (.ref a))→σ[j]?≠some (some (.ref a))
structure Ext (G H G' H':Hp):Prop where
 gg:Same G G'
 hh:Same H H'
 gh:Same G' H'
 keep:∀ a o,H a=some o→isL o=true→G a=none→G' a=none
theorem Ext.refl {G H:Hp} (h:Same G H):Ext G H G H:=⟨Same.refl G,Same.refl H,h,fun _ _ _ _ e=>e⟩
theorem Ext.trans {G H G1 H1 G2 H2:Hp} (a:Ext G H G1 H1) (b:Ext G1 H1 G2 H2):Ext G H G2 H2:=
 ⟨a.gg.trans b.gg,a.hh.trans b.hh,b.gh,fun x o h l e=>b.keep x o (a.hh x o h) l (a.keep x o h l e)⟩
section
variable {K:PySem.W.Frag} {H0 G H G' H':Hp} {ρ:Rho} {σ:St}
theorem join_same (h:Same G G'):Same (join H0 G) (join H0 G'):=fun a o e=>by
 unfold join at e ⊢
 cases q:H0 a with
 | none=>rw [q] at e; exact h a o e
 | some u=>
  rw [q] at e
  dsimp only at e ⊢
  by_cases hl:isL u=true
  ·rw [if_pos hl] at e ⊢; exact e
  ·rw [if_neg hl] at e ⊢; exact h a o e
theorem PIv.G_join (I:PIv K H0 G ρ σ H):Same G (join H0 G):=fun a o e=>by
 unfold join
 cases q:H0 a with
 | none=>exact e
 | some u=>
  dsimp only
  by_cases hl:isL u=true
  ·rw [I.gl a u q hl] at e; cases e
  ·rw [if_neg hl]; exact e
theorem PIv.join_H (I:PIv K H0 G ρ σ H):Same (join H0 G) H:=fun a o e=>by
 unfold join at e
 cases q:H0 a with
 | none=>rw [q] at e; exact I.gh a o e
 | some u=>
  rw [q] at e
  dsimp only at e
  by_cases hl:isL u=true
  ·rw [if_pos hl] at e; cases e; exact I.hh a _ q
  ·rw [if_neg hl] at e; exact I.gh a o e
theorem PIv.ext (I:PIv K H0 G ρ σ H) (x:Ext G H G' H'):PIv K H0 G' ρ σ H' where
 g0 a o e l:=x.gg a o (I.g0 a o e l)
 gl a o e l:=x.keep a o (I.hh a o e) l (I.gl a o e l)
 gh:=x.gh
 hh:=I.hh.trans x.hh
 len:=I.len
 sl i s o h1 h2:=by
  have:=I.sl i s o h1 h2
  cases s with
  | un=>trivial
  | val w=>obtain ⟨v,e,r⟩:=this; exact ⟨v,e,r.same x.gg⟩
  | par w=>obtain ⟨v,e,r⟩:=this; exact ⟨v,e,r.same (join_same x.gg)⟩
  | own ws=>
   obtain ⟨a,vs,e,h,g,h0,r⟩:=this
   exact ⟨a,vs,e,x.hh a _ h,x.keep a _ h rfl g,h0,r.same x.gg⟩
  | dic ks=>
   obtain ⟨a,kvs,e,h,g,h0,r⟩:=this
   exact ⟨a,kvs,e,x.hh a _ h,x.keep a _ h rfl g,h0,r⟩
  | dik ks=>
   obtain ⟨a,kvs,e,h,g,h0,r⟩:=this
   exact ⟨a,kvs,e,x.hh a _ h,x.keep a _ h rfl g,h0,r⟩
  | iop p ws=>
   obtain ⟨e,vs,h,r⟩:=this
   exact ⟨e,vs,h,r.same x.gg⟩
  | hz w=>obtain ⟨v,e,r⟩:=this; exact ⟨v,e,r.same (join_same (noLG_same x.gg))⟩
 ne:=I.ne
theorem join_noL {a:Addr} {o:HO} (h:join H0 G a=some o) (l:isL o=false):G a=some o:=by
 unfold join at h
 cases q:H0 a with
 | none=>rw [q] at h; exact h
 | some u=>
  rw [q] at h
  dsimp only at h
  by_cases hl:isL u=true
  ·rw [if_pos hl] at h; cases h; rw [hl] at l; cases l
  ·rw [if_neg hl] at h; exact h
theorem XD.clean {od:Option Addr}:∀ {i:Option Int},XD (join H0 G) od i→XD G od i
 | none,h=>h
 | some _,⟨d,h1,h2⟩=>⟨d,h1,join_noL h2 rfl⟩
theorem Rep.clean (I:PIv K H0 G ρ σ H) {v:V} {w:W} (r:Rep K (join H0 G) v w):noL w=true→Rep K G v w:=
 @Rep.rec K (join H0 G) (fun v w _=>noL w=true→Rep K G v w) (fun vs ws _=>noLs ws=true→Reps K G vs ws) (fun _=>.non) (fun _=>.bl) (fun _=>.int) (fun _=>.str) (fun _=>.ty)
  (fun h _ r n=>.tup (join_noL h rfl) (r (by simpa [noL] using n))) (fun _ _ _ n=>by simp [noL] at n) (fun _ _ _ n=>by simp [noL] at n) (fun h1 h2 h3 h4 h5 _=>.exc (join_noL h1 rfl) h2 h3 h4 (XD.clean h5)) (fun h _=>.cls h) (fun _=>.nil)
  (fun _ _ a b n=>by rw [noLs,Bool.and_eq_true] at n; exact .cons (a n.1) (b n.2)) v w r
theorem Reps.clean (I:PIv K H0 G ρ σ H) {vs:List V} {ws:List W} (r:Reps K (join H0 G) vs ws):noLs ws=true→Reps K G vs ws:=
 @Reps.rec K (join H0 G) (fun _ _ _=>True) (fun vs ws _=>noLs ws=true→Reps K G vs ws) trivial trivial trivial trivial trivial (fun _ _ _=>trivial) (fun _ _ _=>trivial) (fun _ _ _=>trivial) (fun _ _ _ _ _=>trivial) (fun _=>trivial) (fun _=>.nil)
  (fun h _ _ b n=>by rw [noLs,Bool.and_eq_true] at n; exact .cons (Rep.clean I h n.1) (b n.2)) vs ws r
end
structure XW where
 cls:Str
 at_:Option Int
inductive R (α:Type) where
 | ok (a:α) | ex (e:XW) | stuck
noncomputable def R.bind {α β:Type} (x:R α) (f:α→R β):R β:=match x with
 | .ok a=>f a
 | .ex e=>.ex e
 | .stuck=>.stuck
noncomputable instance:Monad R where
 pure:=R.ok
 bind:=R.bind
@[simp] theorem R.ok_bind {α β:Type} (a:α) (f:α→R β):((R.ok a:R α)>>=f)=f a:=rfl
@[simp] theorem R.stuck_bind {α β:Type} (f:α→R β):((R.stuck:R α)>>=f)=.stuck:=rfl
@[simp] theorem R.ex_bind {α β:Type} (e:XW) (f:α→R β):((R.ex e:R α)>>=f)=.ex e:=rfl
@[simp] theorem R.pure_eq {α:Type} (a:α):(pure a:R α)=.ok a:=rfl
inductive Mode where
 | F | V | U | C | B
noncomputable def Md (K:PySem.W.Frag) (H0 H G' H':Hp) (v:V) (w:W):Mode→Prop
 | .V=>Rep K G' v w
 | .U=>Rep K (join H0 G') v w
 | .F=>match w with
  | .lst ws=>∃ a vs,v=.ref a∧H' a=some (.lst vs)∧G' a=none∧H a=none∧Reps K G' vs ws
  | w=>Rep K G' v w
 | .C=>Rep K G' v w∨∃ a vs ws,v=.ref a∧w=.lst ws∧H' a=some (.lst vs)∧Reps K G' vs ws
 | .B=>Rep K (join H0 G') v w∨∃ a vs ws,v=.ref a∧w=.lst ws∧H' a=some (.lst vs)∧Reps K G' vs ws
noncomputable abbrev EXT:=XW→Hp→Prop
noncomputable def Out {α β:Type} (EX:EXT) (G H:Hp) (md:α→β→Hp→Hp→Prop) (r:R α) (Q:β→Hp→Prop):Prop:=match r with
 | .ok w=>∀ v G' H',Ext G H G' H'→md w v G' H'→Q v H'
 | .ex e=>∀ H',Same H H'→EX e H'
 | .stuck=>False
noncomputable abbrev mdW (K:PySem.W.Frag) (d:Mode) (H0 H:Hp):W→V→Hp→Hp→Prop:=fun w v G' H'=>Md K H0 H G' H' v w d
noncomputable abbrev mdB:Bool→Bool→Hp→Hp→Prop:=fun b c _ _=>c=b
inductive MdA (K:PySem.W.Frag) (d:Mode) (H0 H G' H':Hp):List W→List V→Prop where
 | nil:MdA K d H0 H G' H' [] []
 | cons {w:W} {v:V} {ws:List W} {vs:List V}:Md K H0 H G' H' v w d→MdA K d H0 H G' H' ws vs→MdA K d H0 H G' H' (w::ws) (v::vs)
noncomputable abbrev mdA (K:PySem.W.Frag) (d:Mode) (H0 H:Hp):List W→List V→Hp→Hp→Prop:=fun ws vs G' H'=>MdA K d H0 H G' H' ws vs
noncomputable def tM (K:PySem.W.Frag) (EX:EXT) (d:Mode) (m:Rho→R W):TE:=fun σ H Q=>∃ H0 G ρ,PIv K H0 G ρ σ H∧Out EX G H (mdW K d H0 H) (m ρ) Q
noncomputable def tT (K:PySem.W.Frag) (EX:EXT) (m:Rho→R Bool):TT:=fun σ H Q=>∃ H0 G ρ,PIv K H0 G ρ σ H∧Out EX G H mdB (m ρ) Q
noncomputable def tA (K:PySem.W.Frag) (EX:EXT) (d:Mode) (m:Rho→R (List W)):TA:=fun σ H Q=>∃ H0 G ρ,PIv K H0 G ρ σ H∧Out EX G H (mdA K d H0 H) (m ρ) Q
section
variable {K:PySem.W.Frag} {EX:EXT} {H0 G H G1 H1 G2 H2:Hp} {ρ:Rho} {σ:St}
theorem Out.bind {α β γ δ:Type} {md:α→β→Hp→Hp→Prop} {md':γ→δ→Hp→Hp→Prop} {m:R α} {k:α→R γ} {Q:δ→Hp→Prop} {Q1:β→Hp→Prop} (o:Out EX G H md' (m>>=k) Q)
  (h:∀ x G1 H1 w,Ext G H G1 H1→md w x G1 H1→Out EX G1 H1 md' (k w) Q→Q1 x H1):Out EX G H md m Q1:=by
 cases m with
 | ok w=>
  intro v G' H' e d
  refine h v G' H' w e d ?_
  rw [R.ok_bind] at o
  revert o
  cases k w with
  | ok u=>exact fun o v2 G2 H2 e2 d2=>o v2 G2 H2 (e.trans e2) d2
  | ex x=>exact fun o H2 s2=>o H2 (e.hh.trans s2)
  | stuck=>exact fun o=>o
 | ex x=>exact o
 | stuck=>exact o
theorem Md.start {v:V} {w:W} {d:Mode} (s:Same H H1) (h:Md K H0 H1 G2 H2 v w d):Md K H0 H G2 H2 v w d:=by
 cases d with
 | F=>
  cases w with
  | lst ws=>obtain ⟨a,vs,e,h1,h2,h3,r⟩:=h; exact ⟨a,vs,e,h1,h2,s.free h3,r⟩
  | _=>exact h
 | _=>exact h
theorem Md.move {v:V} {w:W} {d:Mode} (x:Ext G1 H1 G2 H2) (h:Md K H0 H G1 H1 v w d):Md K H0 H G2 H2 v w d:=by
 cases d with
 | V=>exact Rep.same x.gg h
 | U=>exact Rep.same (join_same x.gg) h
 | F=>
  cases w with
  | lst ws=>obtain ⟨a,vs,e,h1,h2,h3,r⟩:=h; exact ⟨a,vs,e,x.hh _ _ h1,x.keep _ _ h1 rfl h2,h3,r.same x.gg⟩
  | non=>exact Rep.same x.gg h
  | bl _=>exact Rep.same x.gg h
  | int _=>exact Rep.same x.gg h
  | str _=>exact Rep.same x.gg h
  | ty _=>exact Rep.same x.gg h
  | tup _=>exact Rep.same x.gg h
  | scr _=>exact Rep.same x.gg h
  | exc _ _=>exact Rep.same x.gg h
  | cls _=>exact Rep.same x.gg h
 | C=>
  rcases h with h | ⟨a,vs,ws,e,e2,h1,r⟩
  ·exact .inl (h.same x.gg)
  ·exact .inr ⟨a,vs,ws,e,e2,x.hh _ _ h1,r.same x.gg⟩
 | B=>
  rcases h with h | ⟨a,vs,ws,e,e2,h1,r⟩
  ·exact .inl (h.same (join_same x.gg))
  ·exact .inr ⟨a,vs,ws,e,e2,x.hh _ _ h1,r.same x.gg⟩
theorem Md.CB {v:V} {w:W} (I:PIv K H0 G1 ρ σ H1) (h:Md K H0 H G1 H1 v w .C):Md K H0 H G1 H1 v w .B:=by
 rcases h with h | h
 ·exact .inl (h.same I.G_join)
 ·exact .inr h
noncomputable def sca:W→Bool
 | .tup _=>false
 | .scr _=>false
 | .lst _=>false
 | _=>true
theorem Md.sca {v:V} {w:W} (hs:sca w=true) (r:∀ F,Rep K F v w) (d:Mode):Md K H0 H G1 H1 v w d:=by
 cases d with
 | V=>exact r _
 | U=>exact r _
 | C=>exact .inl (r _)
 | B=>exact .inl (r _)
 | F=>cases w <;> first | exact r _ | cases hs
theorem Md.lstB {v:V} {ws:List W} (I:PIv K H0 G1 ρ σ H1) (h:Md K H0 H G1 H1 v (.lst ws) .B):∃ a vs,v=.ref a∧H1 a=some (.lst vs)∧Reps K (join H0 G1) vs ws:=by
 rcases h with h | ⟨a,vs,us,e,e2,h1,r⟩
 ·cases h with
  | lst s r=>exact ⟨_,_,rfl,I.join_H _ _ s,r⟩
 ·cases e2; exact ⟨a,vs,e,h1,r.same I.G_join⟩
theorem Md.scrB {v:V} {ws:List W} (I:PIv K H0 G1 ρ σ H1) (h:Md K H0 H G1 H1 v (.scr ws) .B):∃ a vs,v=.ref a∧SqL K H1 a vs∧Reps K (join H0 G1) vs ws:=by
 rcases h with h | ⟨a,vs,us,e,e2,h1,r⟩
 ·cases h with
  | scr s r=>exact ⟨_,_,rfl,Same.seq I.join_H s,r⟩
 ·cases e2
theorem Md.lstC {v:V} {ws:List W} (I:PIv K H0 G1 ρ σ H1) (h:Md K H0 H G1 H1 v (.lst ws) .C):∃ a vs,v=.ref a∧H1 a=some (.lst vs)∧Reps K G1 vs ws:=by
 rcases h with h | ⟨a,vs,us,e,e2,h1,r⟩
 ·cases h with
  | lst s r=>exact ⟨_,_,rfl,I.gh _ _ s,r⟩
 ·cases e2; exact ⟨a,vs,e,h1,r⟩
theorem Md.tupB {v:V} {ws:List W} (I:PIv K H0 G1 ρ σ H1) (h:Md K H0 H G1 H1 v (.tup ws) .B):∃ a vs,v=.ref a∧H1 a=some (.tup vs)∧Reps K (join H0 G1) vs ws:=by
 rcases h with h | ⟨a,vs,us,e,e2,h1,r⟩
 ·cases h with
  | tup s r=>exact ⟨_,_,rfl,I.join_H _ _ s,r⟩
 ·cases e2
theorem Md.tupC {v:V} {ws:List W} (I:PIv K H0 G1 ρ σ H1) (h:Md K H0 H G1 H1 v (.tup ws) .C):∃ a vs,v=.ref a∧H1 a=some (.tup vs)∧Reps K G1 vs ws:=by
 rcases h with h | ⟨a,vs,us,e,e2,h1,r⟩
 ·cases h with
  | tup s r=>exact ⟨_,_,rfl,I.gh _ _ s,r⟩
 ·cases e2
theorem Md.intB {v:V} {i:Int} (h:Md K H0 H G1 H1 v (.int i) .B):v=.int i:=by
 rcases h with h | ⟨a,vs,us,e,e2,h1,r⟩
 ·cases h; rfl
 ·cases e2
theorem Md.blB {v:V} {i:Bool} (h:Md K H0 H G1 H1 v (.bl i) .B):v=.bl i:=by
 rcases h with h | ⟨a,vs,us,e,e2,h1,r⟩
 ·cases h; rfl
 ·cases e2
theorem Md.strB {v:V} {i:Str} (h:Md K H0 H G1 H1 v (.str i) .B):v=.str i:=by
 rcases h with h | ⟨a,vs,us,e,e2,h1,r⟩
 ·cases h; rfl
 ·cases e2
theorem Md.nonB {v:V} (h:Md K H0 H G1 H1 v .non .B):v=.non:=by
 rcases h with h | ⟨a,vs,us,e,e2,h1,r⟩
 ·cases h; rfl
 ·cases e2
theorem Md.tyB {v:V} {n:String} (h:Md K H0 H G1 H1 v (.ty n) .B):v=.ty n:=by
 rcases h with h | ⟨a,vs,us,e,e2,h1,r⟩
 ·cases h; rfl
 ·cases e2
theorem mode_FV {m:Rho→R W} {Q:VK} (h:tM K EX .V m σ H Q):tM K EX .F m σ H Q:=by
 obtain ⟨H0,G,ρ,I,o⟩:=h
 refine ⟨H0,G,ρ,I,?_⟩
 revert o
 cases m ρ with
 | ex e=>exact id
 | stuck=>exact id
 | ok w=>
  intro o v G' H' e d
  cases w with
  | lst ws=>
   obtain ⟨a,vs,rfl,h1,h2,h3,r⟩:=d
   have s1:Same G' (upd G' a (.lst vs)):=fun b o q=>by rw [upd_ne (ne_of_none q h2)]; exact q
   refine o _ (upd G' a (.lst vs)) H' ⟨e.gg.trans s1,e.hh,fun b o q=>?_,fun b o q l g=>?_⟩ (.lst upd_same (r.same s1))
   ·by_cases hb:b=a
    ·subst hb; rw [upd_same] at q; cases q; exact h1
    ·rw [upd_ne hb] at q; exact e.gh b o q
   ·rw [upd_ne (ne_of_none q h3)]; exact e.keep b o q l g
  | _=>exact o v G' H' e d
theorem mode_VU {m:Rho→R W} {Q:VK} (h:tM K EX .U m σ H Q):tM K EX .V m σ H Q:=by
 obtain ⟨H0,G,ρ,I,o⟩:=h
 refine ⟨H0,G,ρ,I,?_⟩
 revert o
 cases m ρ with
 | ex e=>exact id
 | stuck=>exact id
 | ok w=>exact fun o v G' H' e d=>o v G' H' e (Rep.same (I.ext e).G_join d)
theorem mode_VC {m:Rho→R W} {Q:VK} (h:tM K EX .C m σ H Q):tM K EX .V m σ H Q:=by
 obtain ⟨H0,G,ρ,I,o⟩:=h
 refine ⟨H0,G,ρ,I,?_⟩
 revert o
 cases m ρ with
 | ex e=>exact id
 | stuck=>exact id
 | ok w=>exact fun o v G' H' e d=>o v G' H' e (.inl d)
theorem mode_UB {m:Rho→R W} {Q:VK} (h:tM K EX .B m σ H Q):tM K EX .U m σ H Q:=by
 obtain ⟨H0,G,ρ,I,o⟩:=h
 refine ⟨H0,G,ρ,I,?_⟩
 revert o
 cases m ρ with
 | ex e=>exact id
 | stuck=>exact id
 | ok w=>exact fun o v G' H' e d=>o v G' H' e (.inl d)
theorem mode_CB {m:Rho→R W} {Q:VK} (h:tM K EX .B m σ H Q):tM K EX .C m σ H Q:=by
 obtain ⟨H0,G,ρ,I,o⟩:=h
 refine ⟨H0,G,ρ,I,?_⟩
 revert o
 cases m ρ with
 | ex e=>exact id
 | stuck=>exact id
 | ok w=>exact fun o v G' H' e d=>o v G' H' e (Md.CB (H:=H) (I.ext e) d)
theorem mode_FC {m:Rho→R W} {Q:VK} (h:tM K EX .C m σ H Q):tM K EX .F m σ H Q:=by
 obtain ⟨H0,G,ρ,I,o⟩:=h
 refine ⟨H0,G,ρ,I,?_⟩
 revert o
 cases m ρ with
 | ex e=>exact id
 | stuck=>exact id
 | ok w=>
  intro o v G' H' e d
  cases w with
  | lst ws=>obtain ⟨a,vs,rfl,h1,h2,h3,r⟩:=d; exact o _ G' H' e (.inr ⟨a,vs,ws,rfl,rfl,h1,r⟩)
  | _=>exact o v G' H' e (.inl d)
noncomputable def chk (w:W):R W:=if noL w then .ok w else .stuck
theorem noL_F {v:V} {w:W} (n:noL w=true) (r:Rep K G1 v w):Md K H0 H G1 H1 v w .F:=by
 cases w with
 | lst ws=>simp [noL] at n
 | _=>exact r
theorem mode_chk {m:Rho→R W} {Q:VK} {d:Mode} (hd:d=.F∨d=.V) (h:tM K EX d (fun ρ=>m ρ>>=chk) σ H Q):tM K EX .U m σ H Q:=by
 obtain ⟨H0,G,ρ,I,o⟩:=h
 refine ⟨H0,G,ρ,I,Out.bind o fun x G1 H1 w e m1 o1=>?_⟩
 unfold chk at o1
 by_cases n:noL w=true
 ·rw [if_pos n] at o1
  have r:=Rep.clean (I.ext e) m1 n
  refine o1 x G1 H1 (Ext.refl e.gh) ?_
  rcases hd with rfl | rfl
  ·exact noL_F n r
  ·exact r
 ·rw [if_neg n] at o1; exact o1.elim
end
end TP
namespace TP
open PySem L2
section
variable {K:PySem.W.Frag} {EX:EXT} {H0 G H G1 H1 G2 H2:Hp} {ρ:Rho} {σ:St} {d:Mode} {Q:VK}
theorem c_const {v:V} {w:W} (hs:sca w=true) (r:∀ F,Rep K F v w) (h:tM K EX d (fun _=>.ok w) σ H Q):tC v σ H Q:=by
 obtain ⟨H0,G,ρ,I,o⟩:=h
 exact o v G H (Ext.refl I.gh) (Md.sca hs r d)
noncomputable def mVar (d:Mode) (i:Nat):Rho→R W:=fun ρ=>match ρ[i]? with
 | some (.val w)=>(match d with | .F=>chk w | _=>.ok w)
 | some (.par w)=>(match d with | .F=>chk w | .V=>chk w | .C=>chk w | _=>.ok w)
 | some (.own ws)=>(match d with | .C=>.ok (.lst ws) | .B=>.ok (.lst ws) | _=>.stuck)
 | some (.iop _ ws)=>(match d with | .B=>.ok (.lst ws) | .U=>.ok (.lst ws) | _=>.stuck)
 | some (.hz w)=>(match d with | .B=>.ok w | .U=>.ok w | _=>.stuck)
 | _=>.stuck
theorem Out.chk {α:Type} {v:V} {w:W} {md:W→α→Hp→Hp→Prop} {Q:α→Hp→Prop} (o:Out EX G H md (chk w) Q):noL w=true∧Out EX G H md (.ok w) Q:=by
 unfold TP.chk at o
 by_cases n:noL w=true
 ·rw [if_pos n] at o; exact ⟨n,o⟩
 ·rw [if_neg n] at o; exact o.elim
theorem c_var {i:Nat} (h:tM K EX d (mVar d i) σ H Q):tVar i σ H Q:=by
 obtain ⟨H0,G,ρ,I,o⟩:=h
 unfold mVar at o
 cases e:ρ[i]? with
 | none=>rw [e] at o; exact o.elim
 | some s=>
  rw [e] at o
  have hi:i<σ.length:=by rw [← I.len]; exact (List.getElem?_eq_some_iff.mp e).1
  have es:σ[i]?=some σ[i]:=by simp
  have r:=I.sl i s _ e es
  cases s with
  | un=>exact o.elim
  | val w=>
   obtain ⟨v,ev,r⟩:=r
   refine ⟨v,by rw [es,ev],?_⟩
   cases d with
   | F=>obtain ⟨n,o⟩:=Out.chk (v:=v) o; exact o v G H (Ext.refl I.gh) (noL_F n r)
   | V=>exact o v G H (Ext.refl I.gh) r
   | U=>exact o v G H (Ext.refl I.gh) (r.same I.G_join)
   | C=>exact o v G H (Ext.refl I.gh) (.inl r)
   | B=>exact o v G H (Ext.refl I.gh) (.inl (r.same I.G_join))
  | par w=>
   obtain ⟨v,ev,r⟩:=r
   refine ⟨v,by rw [es,ev],?_⟩
   cases d with
   | F=>obtain ⟨n,o⟩:=Out.chk (v:=v) o; exact o v G H (Ext.refl I.gh) (noL_F n (Rep.clean I r n))
   | V=>obtain ⟨n,o⟩:=Out.chk (v:=v) o; exact o v G H (Ext.refl I.gh) (Rep.clean I r n)
   | U=>exact o v G H (Ext.refl I.gh) r
   | C=>obtain ⟨n,o⟩:=Out.chk (v:=v) o; exact o v G H (Ext.refl I.gh) (.inl (Rep.clean I r n))
   | B=>exact o v G H (Ext.refl I.gh) (.inl r)
  | own ws=>
   obtain ⟨a,vs,ev,ha,hg,h0,r⟩:=r
   refine ⟨.ref a,by rw [es,ev],?_⟩
   cases d with
   | F=>exact o.elim
   | V=>exact o.elim
   | U=>exact o.elim
   | C=>exact o _ G H (Ext.refl I.gh) (.inr ⟨a,vs,ws,rfl,rfl,ha,r⟩)
   | B=>exact o _ G H (Ext.refl I.gh) (.inr ⟨a,vs,ws,rfl,rfl,ha,r⟩)
  | dic ks=>exact o.elim
  | dik ks=>exact o.elim
  | hz w=>
   obtain ⟨v,ev,r⟩:=r
   refine ⟨v,by rw [es,ev],?_⟩
   have rj:=r.same (join_same (H0:=H0) (noLG_sub (G:=G)))
   cases d with
   | F=>exact o.elim
   | V=>exact o.elim
   | C=>exact o.elim
   | U=>exact o v G H (Ext.refl I.gh) rj
   | B=>exact o v G H (Ext.refl I.gh) (.inl rj)
  | iop p ws=>
   obtain ⟨ev,vs,h0,r⟩:=r
   refine ⟨.ref p,by rw [es,ev],?_⟩
   have rj:Rep K (join H0 G) (.ref p) (.lst ws):=by
    refine .lst (vs:=vs) ?_ (r.same I.G_join)
    unfold join
    rw [h0]; rfl
   cases d with
   | F=>exact o.elim
   | V=>exact o.elim
   | U=>exact o _ G H (Ext.refl I.gh) rj
   | C=>exact o.elim
   | B=>exact o _ G H (Ext.refl I.gh) (.inl rj)
noncomputable def Op2 (K:PySem.W.Frag) (b d:Mode) (r:R2) (f:W→W→R W):Prop:=∀ (EX:EXT) (H0 Hs G H:Hp) (ρ:Rho) (σ:St) (Ha Hb:Hp) (x y:V) (u v:W) (Q:VK),PIv K H0 G ρ σ H→Same Hs H→Md K H0 Ha G H x u b→Md K H0 Hb G H y v b →
 Out EX G H (mdW K d H0 Hs) (f u v) Q→r x y H Q
theorem c_op {b:Mode} {r:R2} {f:W→W→R W} {ma mb:Rho→R W} (hr:Op2 K b d r f) (h:tM K EX d (fun ρ=>ma ρ>>=fun x=>mb ρ>>=fun y=>f x y) σ H Q):tOp r (tM K EX b ma) (tM K EX b mb) σ H Q:=by
 obtain ⟨H0,G,ρ,I,o⟩:=h
 refine ⟨H0,G,ρ,I,Out.bind o fun x G1 H1 u e1 m1 o1=>⟨H0,G1,ρ,I.ext e1,Out.bind o1 fun y G2 H2 v e2 m2 o2=>?_⟩⟩
 exact hr EX H0 H G2 H2 ρ σ H H1 x y u v Q ((I.ext e1).ext e2) (e1.hh.trans e2.hh) (m1.move e2) m2 o2
noncomputable def Op1 (K:PySem.W.Frag) (b d:Mode) (r:V→Hp→VK→Prop) (f:W→R W):Prop:=∀ (EX:EXT) (H0 Hs G H:Hp) (ρ:Rho) (σ:St) (Ha:Hp) (x:V) (u:W) (Q:VK),PIv K H0 G ρ σ H→Same Hs H→Md K H0 Ha G H x u b →
 Out EX G H (mdW K d H0 Hs) (f u) Q→r x H Q
theorem c_un {b:Mode} {r:V→Hp→VK→Prop} {f:W→R W} {ma:Rho→R W} (hr:Op1 K b d r f) (h:tM K EX d (fun ρ=>ma ρ>>=fun x=>f x) σ H Q):tUn r (tM K EX b ma) σ H Q:=by
 obtain ⟨H0,G,ρ,I,o⟩:=h
 exact ⟨H0,G,ρ,I,Out.bind o fun x G1 H1 u e1 m1 o1=>hr EX H0 H G1 H1 ρ σ H x u Q (I.ext e1) e1.hh m1 o1⟩
noncomputable def fI (C:Int→Int→Prop) [∀ i j,Decidable (C i j)] (g:Int→Int→W):W→W→R W
 | .int i,.int j=>if C i j then .ok (g i j) else .stuck
 | _,_=>.stuck
noncomputable def fI0 (g:Int→Int→W):W→W→R W
 | .int i,.int j=>.ok (g i j)
 | _,_=>.stuck
theorem o2_I {C:Int→Int→Prop} [∀ i j,Decidable (C i j)] {g:Int→Int→W} {gv:Int→Int→V} (hs:∀ i j,sca (g i j)=true) (hg:∀ i j F,Rep K F (gv i j) (g i j)):Op2 K .B d (rI C gv) (fI C g):=by
 intro EX H0 Hs G H ρ σ Ha Hb x y u v Q I s mx my o
 cases u <;> cases v <;> first | exact o.elim | skip
 rename_i i j
 have o':Out EX G H (mdW K d H0 Hs) (if C i j then R.ok (g i j) else .stuck) Q:=o
 by_cases c:C i j
 ·rw [if_pos c] at o'
  exact ⟨i,j,mx.intB,my.intB,c,o' _ G H (Ext.refl I.gh) (Md.sca (hs i j) (hg i j) d)⟩
 ·rw [if_neg c] at o'; exact o'.elim
theorem o2_I0 {g:Int→Int→W} {gv:Int→Int→V} (hs:∀ i j,sca (g i j)=true) (hg:∀ i j F,Rep K F (gv i j) (g i j)):Op2 K .B d (rI0 gv) (fI0 g):=by
 intro EX H0 Hs G H ρ σ Ha Hb x y u v Q I s mx my o
 cases u <;> cases v <;> first | exact o.elim | skip
 rename_i i j
 exact ⟨i,j,mx.intB,my.intB,o _ G H (Ext.refl I.gh) (Md.sca (hs i j) (hg i j) d)⟩
noncomputable def fU (g:Int→W):W→R W
 | .int i=>.ok (g i)
 | _=>.stuck
theorem o1_U {g:Int→W} {gv:Int→V} (hs:∀ i,sca (g i)=true) (hg:∀ i F,Rep K F (gv i) (g i)):Op1 K .B d (rU gv) (fU g):=by
 intro EX H0 Hs G H ρ σ Ha x u Q I s mx o
 cases u <;> first | exact o.elim | skip
 rename_i i
 exact ⟨i,mx.intB,o _ G H (Ext.refl I.gh) (Md.sca (hs i) (hg i) d)⟩
noncomputable def isN:W→Bool
 | .non=>true
 | _=>false
noncomputable def fIsN (neg:Bool):W→W→R W
 | u,.non=>.ok (.bl (if neg then !isN u else isN u))
 | _,_=>.stuck
theorem isN_of {b:Mode} (hb:b=.B∨b=.U∨b=.V∨b=.C) {v:V} {w:W} {Hs:Hp} (h:Md K H0 Hs G1 H1 v w b):decide (v=.non)=isN w:=by
 have key:∀ F,Rep K F v w→decide (v=.non)=isN w:=fun F r=>by
  cases r <;> first | rfl | (apply decide_eq_false; intro z; cases z)
 rcases hb with rfl | rfl | rfl | rfl
 ·rcases h with h | ⟨a,vs,ws,rfl,rfl,_⟩
  ·exact key _ h
  ·apply decide_eq_false; intro z; cases z
 ·exact key _ h
 ·exact key _ h
 ·rcases h with h | ⟨a,vs,ws,rfl,rfl,_⟩
  ·exact key _ h
  ·apply decide_eq_false; intro z; cases z
theorem o2_isN:Op2 K .B d (fun x y H Q=>y=.non∧Q (.bl (decide (x=.non))) H) (fIsN false):=by
 intro EX H0 Hs G H ρ σ Ha Hb x y u v Q I s mx my o
 cases v <;> first | exact o.elim | skip
 refine ⟨my.nonB,?_⟩
 rw [isN_of (.inl rfl) mx]
 exact o _ G H (Ext.refl I.gh) (Md.sca rfl (fun _=>.bl) d)
theorem o2_notN:Op2 K .B d (fun x y H Q=>y=.non∧Q (.bl (!decide (x=.non))) H) (fIsN true):=by
 intro EX H0 Hs G H ρ σ Ha Hb x y u v Q I s mx my o
 cases v <;> first | exact o.elim | skip
 refine ⟨my.nonB,?_⟩
 rw [isN_of (.inl rfl) mx]
 exact o _ G H (Ext.refl I.gh) (Md.sca rfl (fun _=>.bl) d)
noncomputable def toB:W→R Bool
 | .bl b=>.ok b
 | _=>.stuck
theorem c_test {ma:Rho→R W} {Q:Bool→Hp→Prop} (h:tT K EX (fun ρ=>ma ρ>>=toB) σ H Q):tTest (tM K EX .B ma) σ H Q:=by
 obtain ⟨H0,G,ρ,I,o⟩:=h
 refine ⟨H0,G,ρ,I,Out.bind o fun x G1 H1 u e1 m1 o1=>?_⟩
 cases u <;> first | exact o1.elim | skip
 rename_i b
 exact ⟨b,m1.blB,o1 b G1 H1 (Ext.refl e1.gh) rfl⟩
theorem c_tB {ma:Rho→R W} {Q:Bool→Hp→Prop} (h:tT K EX (fun ρ=>ma ρ>>=toB) σ H Q):tB (tM K EX .B ma) σ H Q:=c_test h
noncomputable def rAnd (a b:R Bool):R Bool:=a>>=fun c=>if c then b else .ok false
noncomputable def rOr (a b:R Bool):R Bool:=a>>=fun c=>if c then .ok true else b
noncomputable def rNot (a:R Bool):R Bool:=a>>=fun c=>.ok (!c)
theorem c_and {ma mb:Rho→R Bool} {Q:Bool→Hp→Prop} (h:tT K EX (fun ρ=>rAnd (ma ρ) (mb ρ)) σ H Q):tAnd (tT K EX ma) (tT K EX mb) σ H Q:=by
 obtain ⟨H0,G,ρ,I,o⟩:=h
 refine ⟨H0,G,ρ,I,Out.bind o fun x G1 H1 u e1 m1 o1=>?_⟩
 cases m1
 cases x with
 | true=>exact ⟨H0,G1,ρ,I.ext e1,o1⟩
 | false=>exact o1 false G1 H1 (Ext.refl e1.gh) rfl
theorem c_or {ma mb:Rho→R Bool} {Q:Bool→Hp→Prop} (h:tT K EX (fun ρ=>rOr (ma ρ) (mb ρ)) σ H Q):tOr (tT K EX ma) (tT K EX mb) σ H Q:=by
 obtain ⟨H0,G,ρ,I,o⟩:=h
 refine ⟨H0,G,ρ,I,Out.bind o fun x G1 H1 u e1 m1 o1=>?_⟩
 cases m1
 cases x with
 | true=>exact o1 true G1 H1 (Ext.refl e1.gh) rfl
 | false=>exact ⟨H0,G1,ρ,I.ext e1,o1⟩
theorem c_not {ma:Rho→R Bool} {Q:Bool→Hp→Prop} (h:tT K EX (fun ρ=>rNot (ma ρ)) σ H Q):tNot (tT K EX ma) σ H Q:=by
 obtain ⟨H0,G,ρ,I,o⟩:=h
 refine ⟨H0,G,ρ,I,Out.bind o fun x G1 H1 u e1 m1 o1=>?_⟩
 cases m1
 exact o1 _ G1 H1 (Ext.refl e1.gh) rfl
noncomputable def rAndV (a b:R W):R W:=a>>=fun x=>toB x>>=fun c=>if c then b else .ok (.bl false)
noncomputable def rOrV (a b:R W):R W:=a>>=fun x=>toB x>>=fun c=>if c then .ok (.bl true) else b
noncomputable def rNotV (a:R W):R W:=a>>=fun x=>toB x>>=fun c=>.ok (.bl (!c))
theorem c_andV {ma mb:Rho→R W} (h:tM K EX d (fun ρ=>rAndV (ma ρ) (mb ρ)) σ H Q):tAndV (tM K EX .B ma) (tM K EX d mb) σ H Q:=by
 obtain ⟨H0,G,ρ,I,o⟩:=h
 refine ⟨H0,G,ρ,I,Out.bind o fun x G1 H1 u e1 m1 o1=>?_⟩
 cases u <;> first | exact o1.elim | skip
 rename_i b
 refine ⟨b,m1.blB,?_⟩
 cases b with
 | true=>
  rw [if_pos rfl]
  refine ⟨H0,G1,ρ,I.ext e1,?_⟩
  have o2:Out EX G1 H1 (mdW K d H0 H) (mb ρ) Q:=o1
  revert o2
  cases mb ρ with
  | ok w=>exact fun o2 v G2 H2 e2 m2=>o2 v G2 H2 e2 (m2.start e1.hh)
  | ex _=>exact id
  | stuck=>exact id
 | false=>
  rw [if_neg Bool.false_ne_true]
  exact o1 _ G1 H1 (Ext.refl e1.gh) (Md.sca rfl (fun _=>.bl) d)
theorem c_notV {ma:Rho→R W} (h:tM K EX d (fun ρ=>rNotV (ma ρ)) σ H Q):tNotV (tM K EX .B ma) σ H Q:=by
 obtain ⟨H0,G,ρ,I,o⟩:=h
 refine ⟨H0,G,ρ,I,Out.bind o fun x G1 H1 u e1 m1 o1=>?_⟩
 cases u <;> first | exact o1.elim | skip
 rename_i b
 exact ⟨b,m1.blB,o1 _ G1 H1 (Ext.refl e1.gh) (Md.sca rfl (fun _=>.bl) d)⟩
theorem Out.restart {r:R W} (s:Same H H1) (o:Out EX G1 H1 (mdW K d H0 H) r Q):Out EX G1 H1 (mdW K d H0 H1) r Q:=by
 revert o
 cases r with
 | ok w=>exact fun o v G2 H2 e2 m2=>o v G2 H2 e2 (m2.start s)
 | ex _=>exact id
 | stuck=>exact id
theorem c_if {mc:Rho→R Bool} {ma mb:Rho→R W} (h:tM K EX d (fun ρ=>mc ρ>>=fun c=>if c then ma ρ else mb ρ) σ H Q):tIf (tT K EX mc) (tM K EX d ma) (tM K EX d mb) σ H Q:=by
 obtain ⟨H0,G,ρ,I,o⟩:=h
 refine ⟨H0,G,ρ,I,Out.bind o fun x G1 H1 u e1 m1 o1=>?_⟩
 cases m1
 cases x with
 | true=>exact ⟨H0,G1,ρ,I.ext e1,Out.restart e1.hh o1⟩
 | false=>exact ⟨H0,G1,ρ,I.ext e1,Out.restart e1.hh o1⟩
theorem c_chain {b:Mode} {r r':R2} {f f':W→W→R W} {ma mb mc:Rho→R W} (hr:Op2 K b .B r f) (hr':Op2 K b d r' f')
  (h:tM K EX d (fun ρ=>ma ρ>>=fun x=>mb ρ>>=fun y=>f x y>>=fun z=>toB z>>=fun c=>if c then mc ρ>>=fun u=>f' y u else .ok (.bl false)) σ H Q) :
  (fun σ H Q=>tM K EX b ma σ H fun x H1=>tM K EX b mb σ H1 fun y H2=>r x y H2 fun z H3=>∃ k,z=.bl k∧if k=true then tM K EX b mc σ H3 fun u H4=>r' y u H4 Q else Q (.bl false) H3) σ H Q:=by
 obtain ⟨H0,G,ρ,I,o⟩:=h
 refine ⟨H0,G,ρ,I,Out.bind o fun x G1 H1 u e1 m1 o1=>⟨H0,G1,ρ,I.ext e1,Out.bind o1 fun y G2 H2 v e2 m2 o2=>?_⟩⟩
 have I2:=(I.ext e1).ext e2
 refine hr EX H0 H G2 H2 ρ σ H H1 x y u v _ I2 (e1.hh.trans e2.hh) (m1.move e2) m2 (Out.bind o2 fun z G3 H3 wz e3 m3 o3=>?_)
 cases wz <;> first | exact o3.elim | skip
 rename_i k
 refine ⟨k,m3.blB,?_⟩
 cases k with
 | true=>
  rw [if_pos rfl]
  refine ⟨H0,G3,ρ,I2.ext e3,Out.bind (k:=fun u=>f' v u) o3 fun t G4 H4 wt e4 m4 o4=>?_⟩
  exact hr' EX H0 H G4 H4 ρ σ H1 H3 y t v wt Q ((I2.ext e3).ext e4) (((e1.hh.trans e2.hh).trans e3.hh).trans e4.hh) ((m2.move e3).move e4) m4 o4
 | false=>
  rw [if_neg Bool.false_ne_true]
  exact o3 _ G3 H3 (Ext.refl e3.gh) (Md.sca rfl (fun _=>.bl) d)
theorem c_nil {QA:List V→Hp→Prop} (h:tA K EX d (fun _=>.ok []) σ H QA):tNil σ H QA:=by
 obtain ⟨H0,G,ρ,I,o⟩:=h
 exact o [] G H (Ext.refl I.gh) .nil
theorem c_cons {ma:Rho→R W} {mr:Rho→R (List W)} {QA:List V→Hp→Prop} (h:tA K EX d (fun ρ=>ma ρ>>=fun x=>mr ρ>>=fun xs=>.ok (x::xs)) σ H QA):tCons (tM K EX d ma) (tA K EX d mr) σ H QA:=by
 obtain ⟨H0,G,ρ,I,o⟩:=h
 refine ⟨H0,G,ρ,I,Out.bind o fun x G1 H1 u e1 m1 o1=>⟨H0,G1,ρ,I.ext e1,Out.bind o1 fun xs G2 H2 us e2 m2 o2=>?_⟩⟩
 refine o2 (x::xs) G2 H2 (Ext.refl e2.gh) (.cons (m1.move e2) ?_)
 have go:∀ {ws:List W} {vs:List V},MdA K d H0 H1 G2 H2 ws vs→MdA K d H0 H G2 H2 ws vs:=fun {ws vs} q=>by
  induction q with
  | nil=>exact .nil
  | cons a _ ih=>exact .cons (a.start e1.hh) ih
 exact go m2
theorem MdA.reps {ws:List W} {vs:List V} (h:MdA K .V H0 H G1 H1 ws vs):Reps K G1 vs ws:=
 @MdA.rec K .V H0 H G1 H1 (fun ws vs _=>Reps K G1 vs ws) .nil (fun h _ b=>.cons h b) ws vs h
theorem MdA.repsU {ws:List W} {vs:List V} (h:MdA K .U H0 H G1 H1 ws vs):Reps K (join H0 G1) vs ws:=
 @MdA.rec K .U H0 H G1 H1 (fun ws vs _=>Reps K (join H0 G1) vs ws) .nil (fun h _ b=>.cons h b) ws vs h
theorem new_ext {p:Addr} {o:HO} (hG:Same G H) (hp:H p=none):Ext G H G (upd H p o):=
 ⟨Same.refl G,fun b u q=>by rw [upd_ne (ne_of_none q hp)]; exact q,fun b u q=>by rw [upd_ne (ne_of_none (hG b u q) hp)]; exact hG b u q,fun _ _ _ _ e=>e⟩
theorem new_extG {p:Addr} {o:HO} (hG:Same G H) (hp:H p=none):Ext G H (upd G p o) (upd H p o):=by
 have gp:G p=none:=hG.free hp
 refine ⟨fun b u q=>by rw [upd_ne (ne_of_none q gp)]; exact q,fun b u q=>by rw [upd_ne (ne_of_none q hp)]; exact q,fun b u q=>?_,fun b u q l g=>?_⟩
 ·by_cases hb:b=p
  ·subst hb; rw [upd_same] at q ⊢; exact q
  ·rw [upd_ne hb] at q ⊢; exact hG b u q
 ·rw [upd_ne (ne_of_none q hp)]; exact g
theorem Out.newL {p:Addr} {vs:List V} {ws:List W} {Hs:Hp} (I:PIv K H0 G ρ σ H) (s:Same Hs H) (r:Reps K G vs ws) (hp:H p=none) (o:Out EX G H (mdW K .F H0 Hs) (.ok (.lst ws)) Q):Q (.ref p) (upd H p (.lst vs)):=
 o _ G _ (new_ext I.gh hp) ⟨p,vs,rfl,upd_same,I.gh.free hp,s.free hp,r⟩
theorem Out.newTF {p:Addr} {vs:List V} {ws:List W} {Hs:Hp} (I:PIv K H0 G ρ σ H) (r:Reps K G vs ws) (hp:H p=none) (o:Out EX G H (mdW K .F H0 Hs) (.ok (.tup ws)) Q):Q (.ref p) (upd H p (.tup vs)):=
 o _ (upd G p (.tup vs)) _ (new_extG I.gh hp) (.tup upd_same (r.same fun b u q=>by rw [upd_ne (ne_of_none q (I.gh.free hp))]; exact q))
noncomputable def lim (n:Nat) (w:W):R W:=if n≤1000 then .ok w else .stuck
theorem Out.lim {α:Type} {n:Nat} {w:W} {md:W→α→Hp→Hp→Prop} {Q:α→Hp→Prop} (o:Out EX G H md (lim n w) Q):n≤1000∧Out EX G H md (.ok w) Q:=by
 unfold TP.lim at o
 by_cases n:n≤1000
 ·rw [if_pos n] at o; exact ⟨n,o⟩
 ·rw [if_neg n] at o; exact o.elim
theorem le_line {n:Nat} (h:n≤1000):n≤sizeLine:=Nat.le_trans h (by decide)
theorem c_tup {ma:Rho→R (List W)} (h:tM K EX .F (fun ρ=>ma ρ>>=fun ws=>lim ws.length (.tup ws)) σ H Q):tTup (tA K EX .V ma) σ H Q:=by
 obtain ⟨H0,G,ρ,I,o⟩:=h
 refine ⟨H0,G,ρ,I,Out.bind o fun xs G1 H1 ws e1 m1 o1=>?_⟩
 obtain ⟨hl,o2⟩:=Out.lim o1
 have r:=MdA.reps m1
 exact ⟨by rw [r.length]; exact le_line hl,fun p hp=>Out.newTF (I.ext e1) r hp o2⟩
theorem c_lst {ma:Rho→R (List W)} (h:tM K EX .F (fun ρ=>ma ρ>>=fun ws=>lim ws.length (.lst ws)) σ H Q):tLst (tA K EX .V ma) σ H Q:=by
 obtain ⟨H0,G,ρ,I,o⟩:=h
 refine ⟨H0,G,ρ,I,Out.bind o fun xs G1 H1 ws e1 m1 o1=>?_⟩
 obtain ⟨hl,o2⟩:=Out.lim o1
 have r:=MdA.reps m1
 exact ⟨by rw [r.length]; exact le_line hl,fun p hp=>Out.newL (I.ext e1) e1.hh r hp o2⟩
theorem join_upd {p:Addr} {o:HO} (h:H0 p=none):join H0 (upd G p o)=upd (join H0 G) p o:=by
 funext b
 by_cases hb:b=p
 ·subst hb; unfold join; rw [h]; dsimp only; rw [upd_same,upd_same]
 ·rw [upd_ne hb]; unfold join; cases H0 b with
  | none=>dsimp only; rw [upd_ne hb]
  | some u=>dsimp only; rw [upd_ne hb]
theorem c_tupU {ma:Rho→R (List W)} (h:tM K EX .U (fun ρ=>ma ρ>>=fun ws=>lim ws.length (.tup ws)) σ H Q):tTup (tA K EX .U ma) σ H Q:=by
 obtain ⟨H0,G,ρ,I,o⟩:=h
 refine ⟨H0,G,ρ,I,Out.bind o fun xs G1 H1 ws e1 m1 o1=>?_⟩
 obtain ⟨hl,o2⟩:=Out.lim o1
 have r:=MdA.repsU m1
 have I1:=I.ext e1
 refine ⟨by rw [r.length]; exact le_line hl,fun p hp=>o2 _ (upd G1 p (.tup xs)) _ (new_extG I1.gh hp) ?_⟩
 show Rep K (join H0 (upd G1 p (.tup xs))) _ _
 rw [join_upd (I1.hh.free hp)]
 exact .tup upd_same (r.same fun b u q=>by rw [upd_ne (ne_of_none (I1.join_H b u q) hp)]; exact q)
end
end TP
namespace TP
open PySem L2
inductive Fl where
 | nx (ρ:Rho) | rt (w:W) | bk (ρ:Rho) | ct (ρ:Rho)
noncomputable def OutS (K:PySem.W.Frag) (EX:EXT) (d:Mode) (H0 G:Hp) (r:R Fl) (D:Ends):Prop:=match r with
 | .ok (.nx ρ)=>∀ G' σ' H',Same G G'→PIv K H0 G' ρ σ' H'→D.nx σ' H'
 | .ok (.bk ρ)=>∀ G' σ' H',Same G G'→PIv K H0 G' ρ σ' H'→D.bk σ' H'
 | .ok (.ct ρ)=>∀ G' σ' H',Same G G'→PIv K H0 G' ρ σ' H'→D.ct σ' H'
 | .ok (.rt w)=>∀ v G' H',Same G G'→Same G' H'→Same H0 H'→(∀ a o,H0 a=some o→isL o=true→G' a=none)→Md K H0 H0 G' H' v w d→D.rt v H'
 | .ex e=>∀ H',Same H0 H'→EX e H'
 | .stuck=>False
noncomputable def tSt (K:PySem.W.Frag) (EX:EXT) (d:Mode) (m:Rho→R Fl):TS:=fun D σ H=>∃ H0 G ρ,PIv K H0 G ρ σ H∧OutS K EX d H0 G (m ρ) D
section
variable {K:PySem.W.Frag} {EX:EXT} {H0 G H G1 H1 G2 H2:Hp} {ρ:Rho} {σ:St} {d:Mode} {D:Ends}
theorem OutS.move {r:R Fl} (s:Same G G1) (o:OutS K EX d H0 G r D):OutS K EX d H0 G1 r D:=by
 cases r with
 | stuck=>exact o
 | ex e=>exact o
 | ok f=>
  cases f with
  | nx ρ'=>exact fun G' σ' H' s' I'=>o G' σ' H' (s.trans s') I'
  | bk ρ'=>exact fun G' σ' H' s' I'=>o G' σ' H' (s.trans s') I'
  | ct ρ'=>exact fun G' σ' H' s' I'=>o G' σ' H' (s.trans s') I'
  | rt w=>exact fun v G' H' s0 s1 s2 c md=>o v G' H' (s.trans s0) s1 s2 c md
theorem OutS.bind {α β:Type} {md:α→β→Hp→Hp→Prop} {m:R α} {k:α→R Fl} {Q1:β→Hp→Prop} (I:PIv K H0 G ρ σ H) (o:OutS K EX d H0 G (m>>=k) D)
  (h:∀ x G1 H1 w,Ext G H G1 H1→md w x G1 H1→OutS K EX d H0 G1 (k w) D→Q1 x H1):Out EX G H md m Q1:=by
 cases m with
 | ok w=>exact fun v G' H' e q=>h v G' H' w e q (OutS.move e.gg o)
 | ex e=>exact fun H' s=>o H' (I.hh.trans s)
 | stuck=>exact o
noncomputable def mSeq (m n:Rho→R Fl):Rho→R Fl:=fun ρ=>m ρ>>=fun f=>match f with
 | .nx ρ'=>n ρ'
 | .rt w=>.ok (.rt w)
 | .bk ρ'=>.ok (.bk ρ')
 | .ct ρ'=>.ok (.ct ρ')
theorem c_next (h:tSt K EX d (fun ρ=>.ok (.nx ρ)) D σ H):tNext D σ H:=by
 obtain ⟨H0,G,ρ,I,o⟩:=h
 exact o G σ H (Same.refl G) I
theorem c_seq {m n:Rho→R Fl} (h:tSt K EX d (mSeq m n) D σ H):tSeq (tSt K EX d m) (tSt K EX d n) D σ H:=by
 obtain ⟨H0,G,ρ,I,o⟩:=h
 refine ⟨H0,G,ρ,I,?_⟩
 unfold mSeq at o
 revert o
 cases m ρ with
 | stuck=>exact id
 | ex e=>exact id
 | ok f=>
  cases f with
  | nx ρ'=>exact fun o G' σ' H' s' I'=>⟨H0,G',ρ',I',OutS.move s' o⟩
  | _=>exact id
theorem c_never (h:tSt K EX d (fun _=>.stuck) D σ H):tNever D σ H:=by
 obtain ⟨H0,G,ρ,I,o⟩:=h
 exact o
theorem c_ret {m:Rho→R W} (h:tSt K EX d (fun ρ=>m ρ>>=fun w=>.ok (.rt w)) D σ H):tRet (tM K EX d m) D σ H:=by
 obtain ⟨H0,G,ρ,I,o⟩:=h
 refine ⟨H0,G,ρ,I,OutS.bind I o fun x G1 H1 w e1 m1 o1=>?_⟩
 have I1:=I.ext e1
 exact o1 x G1 H1 (Same.refl _) e1.gh I1.hh I1.gl (m1.start I.hh)
noncomputable def mRetVar (d:Mode) (i:Nat):Rho→R Fl:=fun ρ=>match ρ[i]? with
 | some (.own ws)=>.ok (.rt (.lst ws))
 | _=>mVar d i ρ>>=fun w=>.ok (.rt w)
theorem c_retVar {i:Nat} (hd:d=.F∨d=.V) (h:tSt K EX d (mRetVar d i) D σ H):tRet (tVar i) D σ H:=by
 obtain ⟨H0,G,ρ,I,o⟩:=h
 unfold mRetVar at o
 by_cases ho:∃ ws,ρ[i]?=some (.own ws)
 ·obtain ⟨ws,e⟩:=ho
  rw [e] at o
  have hi:i<σ.length:=by rw [← I.len]; exact (List.getElem?_eq_some_iff.mp e).1
  have es:σ[i]?=some σ[i]:=by simp
  obtain ⟨a,vs,ev,ha,hg,h0,r⟩:=I.sl i _ _ e es
  refine ⟨.ref a,by rw [es,ev],?_⟩
  rcases hd with rfl | rfl
  ·exact o _ G H (Same.refl _) I.gh I.hh I.gl ⟨a,vs,rfl,ha,hg,h0,r⟩
  ·have s1:Same G (upd G a (.lst vs)):=fun b o q=>by rw [upd_ne (ne_of_none q hg)]; exact q
   refine o _ (upd G a (.lst vs)) H s1 (fun b o q=>?_) I.hh (fun b u q l=>?_) (.lst upd_same (r.same s1))
   ·by_cases hb:b=a
    ·subst hb; rw [upd_same] at q; cases q; exact ha
    ·rw [upd_ne hb] at q; exact I.gh b o q
   ·rw [upd_ne (ne_of_none q h0)]; exact I.gl b u q l
 ·have o':OutS K EX d H0 G (mVar d i ρ>>=fun w=>.ok (.rt w)) D:=by
   revert o
   split
   ·rename_i ws e; exact absurd ⟨ws,e⟩ ho
   ·exact id
  have c:tRet (tM K EX d (mVar d i)) D σ H:=c_ret (m:=mVar d i) ⟨H0,G,ρ,I,o'⟩
  exact c_var c
theorem PIv.setV {i:Nat} {v:V} {w:W} (I:PIv K H0 G ρ σ H) (r:Rep K G v w):PIv K H0 G (ρ.set i (.val w)) (σ.set i (some v)) H where
 g0:=I.g0
 gl:=I.gl
 gh:=I.gh
 hh:=I.hh
 len:=by rw [List.length_set,List.length_set]; exact I.len
 sl j x o h1 h2:=by
  by_cases hj:i=j
  ·subst hj
   rw [List.getElem?_set] at h1 h2
   simp only [if_true] at h1 h2
   split at h1 <;> split at h2 <;> simp only [Option.some.injEq,reduceCtorEq] at h1 h2
   subst h1; subst h2
   exact ⟨v,rfl,r⟩
  ·rw [List.getElem?_set_ne hj] at h1 h2; exact I.sl j x o h1 h2
 ne a b ws us c hab h1 h2 h3 h4:=by
  have na:i≠a:=by
   rintro rfl
   rw [List.getElem?_set] at h1
   simp only [if_true] at h1
   split at h1 <;> simp at h1
  have nb:i≠b:=by
   rintro rfl
   rw [List.getElem?_set] at h2
   simp only [if_true] at h2
   split at h2 <;> simp at h2
  rw [List.getElem?_set_ne na] at h1 h3
  rw [List.getElem?_set_ne nb] at h2 h4
  exact I.ne a b ws us c hab h1 h2 h3 h4
theorem PIv.setU {i:Nat} {v:V} {w:W} (I:PIv K H0 G ρ σ H) (r:Rep K (join H0 G) v w):PIv K H0 G (ρ.set i (.par w)) (σ.set i (some v)) H where
 g0:=I.g0
 gl:=I.gl
 gh:=I.gh
 hh:=I.hh
 len:=by rw [List.length_set,List.length_set]; exact I.len
 sl j x o h1 h2:=by
  by_cases hj:i=j
  ·subst hj
   rw [List.getElem?_set] at h1 h2
   simp only [if_true] at h1 h2
   split at h1 <;> split at h2 <;> simp only [Option.some.injEq,reduceCtorEq] at h1 h2
   subst h1; subst h2
   exact ⟨v,rfl,r⟩
  ·rw [List.getElem?_set_ne hj] at h1 h2; exact I.sl j x o h1 h2
 ne a b ws us c hab h1 h2 h3 h4:=by
  have na:i≠a:=by
   rintro rfl
   rw [List.getElem?_set] at h1
   simp only [if_true] at h1
   split at h1 <;> simp at h1
  have nb:i≠b:=by
   rintro rfl
   rw [List.getElem?_set] at h2
   simp only [if_true] at h2
   split at h2 <;> simp at h2
  rw [List.getElem?_set_ne na] at h1 h3
  rw [List.getElem?_set_ne nb] at h2 h4
  exact I.ne a b ws us c hab h1 h2 h3 h4
theorem PIv.setO {i:Nat} {a:Addr} {vs:List V} {ws:List W} (I:PIv K H0 G ρ σ H) (ha:H a=some (.lst vs)) (hg:G a=none) (h0:H0 a=none) (r:Reps K G vs ws)
  (nw:∀ (j:Nat) (us:List W),ρ[j]?=some (Sl.own us)→σ[j]?≠some (some (V.ref a))):PIv K H0 G (ρ.set i (.own ws)) (σ.set i (some (.ref a))) H where
 g0:=I.g0
 gl:=I.gl
 gh:=I.gh
 hh:=I.hh
 len:=by rw [List.length_set,List.length_set]; exact I.len
 sl j x o h1 h2:=by
  by_cases hj:i=j
  ·subst hj
   rw [List.getElem?_set] at h1 h2
   simp only [if_true] at h1 h2
   split at h1 <;> split at h2 <;> simp only [Option.some.injEq,reduceCtorEq] at h1 h2
   subst h1; subst h2
   exact ⟨a,vs,rfl,ha,hg,h0,r⟩
  ·rw [List.getElem?_set_ne hj] at h1 h2; exact I.sl j x o h1 h2
 ne p q ws' us c hab h1 h2 h3 h4:=by
  by_cases hp:i=p
  ·subst hp
   rw [List.getElem?_set_ne hab] at h2 h4
   rw [List.getElem?_set] at h3
   simp only [if_true] at h3
   split at h3 <;> simp only [Option.some.injEq,reduceCtorEq,V.ref.injEq] at h3
   subst h3
   exact nw q us h2 h4
  ·rw [List.getElem?_set_ne hp] at h1 h3
   by_cases hq:i=q
   ·subst hq
    rw [List.getElem?_set] at h4
    simp only [if_true] at h4
    split at h4 <;> simp only [Option.some.injEq,reduceCtorEq,V.ref.injEq] at h4
    subst h4
    exact nw p ws' h1 h3
   ·rw [List.getElem?_set_ne hq] at h2 h4
    exact I.ne p q ws' us c hab h1 h2 h3 h4
noncomputable def slotF:W→Sl
 | .lst ws=>.own ws
 | w=>.val w
theorem c_setV {i:Nat} {m:Rho→R W} (h:tSt K EX d (fun ρ=>m ρ>>=fun w=>.ok (.nx (ρ.set i (.val w)))) D σ H):tAsg (tM K EX .V m) (gName i) D σ H:=by
 obtain ⟨H0,G,ρ,I,o⟩:=h
 exact ⟨H0,G,ρ,I,OutS.bind I o fun x G1 H1 w e1 m1 o1=>o1 G1 _ H1 (Same.refl _) ((I.ext e1).setV m1)⟩
theorem c_setU {i:Nat} {m:Rho→R W} (h:tSt K EX d (fun ρ=>m ρ>>=fun w=>.ok (.nx (ρ.set i (.par w)))) D σ H):tAsg (tM K EX .U m) (gName i) D σ H:=by
 obtain ⟨H0,G,ρ,I,o⟩:=h
 exact ⟨H0,G,ρ,I,OutS.bind I o fun x G1 H1 w e1 m1 o1=>o1 G1 _ H1 (Same.refl _) ((I.ext e1).setU m1)⟩
theorem c_setF {i:Nat} {m:Rho→R W} (h:tSt K EX d (fun ρ=>m ρ>>=fun w=>.ok (.nx (ρ.set i (slotF w)))) D σ H):tAsg (tM K EX .F m) (gName i) D σ H:=by
 obtain ⟨H0,G,ρ,I,o⟩:=h
 refine ⟨H0,G,ρ,I,OutS.bind I o fun x G1 H1 w e1 m1 o1=>?_⟩
 have I1:=I.ext e1
 cases w with
 | lst ws=>
  obtain ⟨a,vs,rfl,h1,h2,h3,r⟩:=m1
  refine o1 G1 _ H1 (Same.refl _) (I1.setO h1 h2 (I.hh.free h3) r fun j us q z=>?_)
  obtain ⟨b,us',eb,hb,_⟩:=I.sl j _ _ q z
  cases eb
  rw [h3] at hb; cases hb
 | non=>exact o1 G1 _ H1 (Same.refl _) (I1.setV m1)
 | bl _=>exact o1 G1 _ H1 (Same.refl _) (I1.setV m1)
 | int _=>exact o1 G1 _ H1 (Same.refl _) (I1.setV m1)
 | str _=>exact o1 G1 _ H1 (Same.refl _) (I1.setV m1)
 | ty _=>exact o1 G1 _ H1 (Same.refl _) (I1.setV m1)
 | tup _=>exact o1 G1 _ H1 (Same.refl _) (I1.setV m1)
 | scr _=>exact o1 G1 _ H1 (Same.refl _) (I1.setV m1)
 | exc _ _=>exact o1 G1 _ H1 (Same.refl _) (I1.setV m1)
 | cls _=>exact o1 G1 _ H1 (Same.refl _) (I1.setV m1)
noncomputable instance:DecidableEq Mode:=fun a b=>by cases a <;> cases b <;> first | exact isTrue rfl | exact isFalse (by intro h; cases h)
noncomputable def Gt (K:PySem.W.Frag) (e:Mode) (g:TG) (mg:W→Rho→Option Rho):Prop:=∀ (H0 Hs G:Hp) (ρ:Rho) (σ:St) (H:Hp) (v:V) (w:W) (ρ':Rho) (Q:St→Hp→Prop),PIv K H0 G ρ σ H→Md K H0 Hs G H v w e→mg w ρ=some ρ' →
 (∀ σ',PIv K H0 G ρ' σ' H→Q σ' H)→g v σ H Q
noncomputable def Gts (K:PySem.W.Frag) (e:Mode) (g:TGs) (mg:List W→Rho→Option Rho):Prop:=∀ (H0 G:Hp) (ρ:Rho) (σ:St) (H:Hp) (vs:List V) (ws:List W) (ρ':Rho) (Q:St→Hp→Prop),PIv K H0 G ρ σ H→Reps K (if e=.V then G else join H0 G) vs ws→mg ws ρ=some ρ' →
 (∀ σ',PIv K H0 G ρ' σ' H→Q σ' H)→g vs σ H Q
noncomputable def gN (e:Mode) (i:Nat):W→Rho→Option Rho:=fun w ρ=>some (ρ.set i (if e=.V then .val w else .par w))
theorem gt_U {i:Nat}:Gt K .U (gName i) (gN .U i):=fun H0 Hs G ρ σ H v w ρ' Q I m e h=>by
 cases e; exact h _ (I.setU m)
noncomputable def gsNil:List W→Rho→Option Rho
 | [],ρ=>some ρ
 | _,_=>none
noncomputable def gsCons (f:W→Rho→Option Rho) (g:List W→Rho→Option Rho):List W→Rho→Option Rho
 | w::ws,ρ=>(f w ρ).bind (g ws)
 | [],_=>none
theorem gts_nil {e:Mode}:Gts K e gNil gsNil:=fun H0 G ρ σ H vs ws ρ' Q I r e h=>by
 cases r with
 | nil=>cases e; exact ⟨rfl,h _ I⟩
 | cons _ _=>cases e
theorem gts_cons {e:Mode} {t:TG} {u:TGs} {f:W→Rho→Option Rho} {g:List W→Rho→Option Rho} (he:e=.V∨e=.U) (h1:Gt K e t f) (h2:Gts K e u g):Gts K e (gCons t u) (gsCons f g):=fun H0 G ρ σ H vs ws ρ' Q I r q h=>by
 cases r with
 | nil=>cases q
 | cons a b=>
  unfold gsCons at q
  obtain ⟨ρ1,q1,q2⟩:=Option.bind_eq_some_iff.mp q
  refine ⟨_,_,rfl,h1 H0 H G ρ σ H _ _ ρ1 _ I ?_ q1 fun σ1 I1=>h2 H0 G ρ1 σ1 H _ _ ρ' Q I1 b q2 h⟩
  rcases he with rfl | rfl
  ·exact a
  ·exact a
noncomputable def gT (n:Nat) (g:List W→Rho→Option Rho):W→Rho→Option Rho
 | .tup ws,ρ=>if ws.length=n then g ws ρ else none
 | _,_=>none
theorem gt_tup {e:Mode} {n:Nat} {u:TGs} {g:List W→Rho→Option Rho} (he:e=.V∨e=.U) (h:Gts K e u g):Gt K e (gTup K n u) (gT n g):=fun H0 Hs G ρ σ H v w ρ' Q I m q k=>by
 cases w <;> first | cases q | skip
 rename_i ws
 have q':(if ws.length=n then g ws ρ else none)=some ρ':=q
 by_cases hn:ws.length=n
 ·rw [if_pos hn] at q'
  rcases he with rfl | rfl
  ·cases m with
   | tup s r=>exact ⟨_,_,rfl,SqT.of (I.gh _ _ s),by rw [r.length]; exact hn,h H0 G ρ σ H _ ws ρ' Q I (by rw [if_pos rfl]; exact r) q' k⟩
  ·cases m with
   | tup s r=>exact ⟨_,_,rfl,SqT.of (I.join_H _ _ s),by rw [r.length]; exact hn,h H0 G ρ σ H _ ws ρ' Q I (by rw [if_neg (by intro z; cases z)]; exact r) q' k⟩
 ·rw [if_neg hn] at q'; cases q'
noncomputable def toR {α:Type}:Option α→R α
 | some a=>.ok a
 | none=>.stuck
theorem c_asg {e:Mode} {g:TG} {mg:W→Rho→Option Rho} {m:Rho→R W} (hg:Gt K e g mg) (h:tSt K EX d (fun ρ=>m ρ>>=fun w=>toR (mg w ρ)>>=fun ρ'=>.ok (.nx ρ')) D σ H):tAsg (tM K EX e m) g D σ H:=by
 obtain ⟨H0,G,ρ,I,o⟩:=h
 refine ⟨H0,G,ρ,I,OutS.bind I o fun x G1 H1 w e1 m1 o1=>?_⟩
 cases q:mg w ρ with
 | none=>rw [q] at o1; exact o1.elim
 | some ρ'=>
  rw [q] at o1
  exact hg H0 H G1 ρ σ H1 x w ρ' _ (I.ext e1) m1 q fun σ' I'=>o1 G1 σ' H1 (Same.refl _) I'
theorem PIv.own_upd {i:Nat} {a:Addr} {vs':List V} {ws ws':List W} (I:PIv K H0 G ρ σ H) (e:ρ[i]?=some (.own ws)) (es:σ[i]?=some (some (.ref a))) (r:Reps K G vs' ws'):PIv K H0 G (ρ.set i (.own ws')) σ (upd H a (.lst vs')):=by
 obtain ⟨a',vs,ev,ha,hg,h0,_⟩:=I.sl i _ _ e es
 cases ev
 refine ⟨I.g0,I.gl,fun b o q=>by rw [upd_ne (ne_of_none q hg)]; exact I.gh b o q,fun b o q=>by rw [upd_ne (ne_of_none q h0)]; exact I.hh b o q,by rw [List.length_set]; exact I.len,fun j x o h1 h2=>?_,fun p q ws1 us c hab h1 h2 h3 h4=>?_⟩
 ·by_cases hj:i=j
  ·subst hj
   rw [List.getElem?_set] at h1
   simp only [if_true] at h1
   split at h1 <;> simp only [Option.some.injEq,reduceCtorEq] at h1
   subst h1
   rw [es] at h2; cases h2
   exact ⟨a,vs',rfl,upd_same,hg,h0,r⟩
  ·rw [List.getElem?_set_ne hj] at h1
   have:=I.sl j x o h1 h2
   cases x with
   | own us=>
    obtain ⟨b,us',eb,hb,hgb,h0b,rb⟩:=this
    subst eb
    have hne:b≠a:=by
     rintro rfl
     exact I.ne i j ws us b hj e h1 es h2
    exact ⟨b,us',rfl,by rw [upd_ne hne]; exact hb,hgb,h0b,rb⟩
   | dic ks=>
    obtain ⟨b,us',eb,hb,hgb,h0b,rb⟩:=this
    have hne:b≠a:=by
     rintro rfl
     rw [ha] at hb; cases hb
    exact ⟨b,us',eb,by rw [upd_ne hne]; exact hb,hgb,h0b,rb⟩
   | dik ks=>
    obtain ⟨b,us',eb,hb,hgb,h0b,rb⟩:=this
    have hne:b≠a:=by
     rintro rfl
     rw [ha] at hb; cases hb
    exact ⟨b,us',eb,by rw [upd_ne hne]; exact hb,hgb,h0b,rb⟩
   | un=>exact this
   | val _=>exact this
   | par _=>exact this
   | iop _ _=>exact this
   | hz _=>exact this
 ·have key:∀ {k:Nat} {us:List W},(ρ.set i (.own ws'))[k]?=some (.own us)→∃ us',ρ[k]?=some (.own us'):=fun {k us} hk=>by
   by_cases hik:i=k
   ·subst hik; exact ⟨ws,e⟩
   ·rw [List.getElem?_set_ne hik] at hk; exact ⟨us,hk⟩
  obtain ⟨w1,k1⟩:=key h1
  obtain ⟨w2,k2⟩:=key h2
  exact I.ne p q w1 w2 c hab k1 k2 h3 h4
theorem PIv.own_at {i:Nat} {ws:List W} (I:PIv K H0 G ρ σ H) (e:ρ[i]?=some (.own ws)):∃ a vs,σ[i]?=some (some (.ref a))∧H a=some (.lst vs)∧G a=none∧H0 a=none∧Reps K G vs ws:=by
 have hi:i<σ.length:=by rw [← I.len]; exact (List.getElem?_eq_some_iff.mp e).1
 have es:σ[i]?=some σ[i]:=by simp
 obtain ⟨a,vs,ev,r⟩:=I.sl i _ _ e es
 exact ⟨a,vs,by rw [es,ev],r⟩
noncomputable def mApp (i:Nat) (m:Rho→R W):Rho→R Fl:=fun ρ=>match ρ[i]? with
 | some (.own ws)=>m ρ>>=fun w=>if ws.length<1000 then .ok (.nx (ρ.set i (.own (ws ++ [w])))) else .stuck
 | _=>.stuck
theorem c_app {i:Nat} {m:Rho→R W} (h:tSt K EX d (mApp i m) D σ H):tDrop (tApp (tVar i) (tM K EX .V m)) D σ H:=by
 obtain ⟨H0,G,ρ,I,o⟩:=h
 unfold mApp at o
 split at o
 ·rename_i ws e
  obtain ⟨a,vs,es,ha,hg,h0,r⟩:=I.own_at e
  refine ⟨.ref a,es,a,rfl,⟨vs,ha⟩,H0,G,ρ,I,OutS.bind I o fun x G1 H1 w e1 m1 o1=>?_⟩
  by_cases hl:ws.length<1000
  ·rw [if_pos hl] at o1
   have h1:=e1.hh a _ ha
   dsimp only
   rw [h1]
   dsimp only
   have hlen:vs.length=ws.length:=r.length
   exact ⟨Nat.lt_of_lt_of_le (by omega:vs.length<1000) (by decide),o1 G1 σ _ (Same.refl _) ((I.ext e1).own_upd e es ((r.same e1.gg).snoc m1))⟩
  ·rw [if_neg hl] at o1; exact o1.elim
 ·exact o.elim
noncomputable def mSet (i:Nat) (mk me:Rho→R W):Rho→R Fl:=fun ρ=>match ρ[i]? with
 | some (.own ws)=>me ρ>>=fun w=>mk ρ>>=fun k=>(match k with
  | .int k=>(match ixN ws.length k with
   | some j=>.ok (.nx (ρ.set i (.own (ws.set j w))))
   | none=>.stuck)
  | _=>.stuck)
 | _=>.stuck
theorem c_set {i:Nat} {mk me:Rho→R W} (h:tSt K EX d (mSet i mk me) D σ H):tAsg (tM K EX .V me) (gSub (tVar i) (tM K EX .B mk) rSetL) D σ H:=by
 obtain ⟨H0,G,ρ,I,o⟩:=h
 unfold mSet at o
 split at o
 ·rename_i ws e
  obtain ⟨a,vs,es,ha,hg,h0,r⟩:=I.own_at e
  refine ⟨H0,G,ρ,I,OutS.bind I o fun x G1 H1 w e1 m1 o1=>⟨.ref a,es,H0,G1,ρ,I.ext e1,OutS.bind (I.ext e1) o1 fun y G2 H2 k e2 m2 o2=>?_⟩⟩
  cases k <;> first | exact o2.elim | skip
  rename_i k
  dsimp only at o2
  cases q:ixN ws.length k with
  | none=>rw [q] at o2; exact o2.elim
  | some j=>
   rw [q] at o2
   refine ⟨a,vs,k,j,rfl,m2.intB,e2.hh _ _ (e1.hh _ _ ha),by rw [r.length]; exact q,?_⟩
   exact o2 G2 σ _ (Same.refl _) (((I.ext e1).ext e2).own_upd e es (Reps.set (Rep.same e2.gg m1) j ((r.same e1.gg).same e2.gg)))
 ·exact o.elim
noncomputable def mAug (i:Nat) (f:Int→Int→Int) (m:Rho→R W):Rho→R Fl:=fun ρ=>mVar .B i ρ>>=fun x=>m ρ>>=fun y=>match x,y with
 | .int a,.int b=>.ok (.nx (ρ.set i (.val (.int (f a b)))))
 | _,_=>.stuck
theorem c_aug {i:Nat} {f:Int→Int→Int} {m:Rho→R W} (h:tSt K EX d (mAug i f m) D σ H):tAug i (tM K EX .B m) (ipI f) D σ H:=by
 obtain ⟨H0,G,ρ,I,o⟩:=h
 unfold mAug at o
 have c:tM K EX .B (mVar .B i) σ H (fun x H1=>∃ G1 w,Ext G H G1 H1∧Md K H0 H G1 H1 x w .B∧OutS K EX d H0 G1 (m ρ>>=fun y=>match w,y with
   | .int a,.int b=>.ok (.nx (ρ.set i (.val (.int (f a b)))))
   | _,_=>.stuck) D):=⟨H0,G,ρ,I,OutS.bind I o fun x G1 H1 w e1 m1 o1=>⟨G1,w,e1,m1,o1⟩⟩
 obtain ⟨v,es,G1,w,e1,m1,o1⟩:=c_var c
 have I1:=I.ext e1
 refine ⟨v,es,H0,G1,ρ,I1,OutS.bind I1 o1 fun y G2 H2 u e2 m2 o2=>?_⟩
 cases w <;> cases u <;> first | exact o2.elim | skip
 rename_i a b
 exact ⟨a,b,m1.intB,m2.intB,o2 G2 _ H2 (Same.refl _) ((I1.ext e2).setV .int)⟩
noncomputable def mIf (c:Rho→R Bool) (m n:Rho→R Fl):Rho→R Fl:=fun ρ=>c ρ>>=fun b=>if b then m ρ else n ρ
theorem c_ifS {c:Rho→R Bool} {m n:Rho→R Fl} (h:tSt K EX d (mIf c m n) D σ H):tIfS (tT K EX c) (tSt K EX d m) (tSt K EX d n) D σ H:=by
 obtain ⟨H0,G,ρ,I,o⟩:=h
 refine ⟨H0,G,ρ,I,OutS.bind I o fun x G1 H1 w e1 m1 o1=>?_⟩
 cases m1
 cases x with
 | true=>exact ⟨H0,G1,ρ,I.ext e1,o1⟩
 | false=>exact ⟨H0,G1,ρ,I.ext e1,o1⟩
noncomputable def frz (i:Nat) (ρ:Rho):Rho:=match ρ[i]? with
 | some (.own ws)=>ρ.set i (.val (.lst ws))
 | _=>ρ
theorem PIv.frz {i:Nat} (I:PIv K H0 G ρ σ H):∃ G',Same G G'∧PIv K H0 G' (frz i ρ) σ H:=by
 unfold TP.frz
 split
 ·rename_i ws e
  obtain ⟨a,vs,es,ha,hg,h0,r⟩:=I.own_at e
  have s1:Same G (upd G a (.lst vs)):=fun b o q=>by rw [upd_ne (ne_of_none q hg)]; exact q
  refine ⟨upd G a (.lst vs),s1,?_⟩
  have I1:PIv K H0 G (ρ.set i .un) σ H:=by
   refine ⟨I.g0,I.gl,I.gh,I.hh,by rw [List.length_set]; exact I.len,fun j x o h1 h2=>?_,fun p q ws1 us c hab h1 h2 h3 h4=>?_⟩
   ·by_cases hj:i=j
    ·subst hj
     rw [List.getElem?_set] at h1
     simp only [if_true] at h1
     split at h1 <;> simp only [Option.some.injEq,reduceCtorEq] at h1
     subst h1; trivial
    ·rw [List.getElem?_set_ne hj] at h1; exact I.sl j x o h1 h2
   ·have na:i≠p:=by
     rintro rfl
     rw [List.getElem?_set] at h1
     simp only [if_true] at h1
     split at h1 <;> simp at h1
    have nb:i≠q:=by
     rintro rfl
     rw [List.getElem?_set] at h2
     simp only [if_true] at h2
     split at h2 <;> simp at h2
    rw [List.getElem?_set_ne na] at h1
    rw [List.getElem?_set_ne nb] at h2
    exact I.ne p q ws1 us c hab h1 h2 h3 h4
  have I2:PIv K H0 (upd G a (.lst vs)) (ρ.set i .un) σ H:=by
   refine ⟨fun b o q l=>s1 b o (I.g0 b o q l),fun b o q l=>by rw [upd_ne (ne_of_none q h0)]; exact I.gl b o q l,fun b o q=>?_,I.hh,I1.len,fun j x o h1 h2=>?_,I1.ne⟩
   ·by_cases hb:b=a
    ·subst hb; rw [upd_same] at q; cases q; exact ha
    ·rw [upd_ne hb] at q; exact I.gh b o q
   ·have:=I1.sl j x o h1 h2
    cases x with
    | un=>trivial
    | val w=>obtain ⟨v,e1,r1⟩:=this; exact ⟨v,e1,r1.same s1⟩
    | par w=>obtain ⟨v,e1,r1⟩:=this; exact ⟨v,e1,r1.same (join_same s1)⟩
    | own us=>
     obtain ⟨b,us',eb,hb,hgb,h0b,rb⟩:=this
     subst eb
     have hij:i≠j:=by
      rintro rfl
      rw [List.getElem?_set] at h1
      simp only [if_true] at h1
      split at h1 <;> simp at h1
     rw [List.getElem?_set_ne hij] at h1
     have hne:b≠a:=by
      rintro rfl
      exact I.ne i j ws us b hij e h1 es h2
     exact ⟨b,us',rfl,hb,by rw [upd_ne hne]; exact hgb,h0b,rb.same s1⟩
    | dic ks=>
     obtain ⟨b,us',eb,hb,hgb,h0b,rb⟩:=this
     have hne:b≠a:=by
      rintro rfl
      rw [ha] at hb; cases hb
     exact ⟨b,us',eb,hb,by rw [upd_ne hne]; exact hgb,h0b,rb⟩
    | dik ks=>
     obtain ⟨b,us',eb,hb,hgb,h0b,rb⟩:=this
     have hne:b≠a:=by
      rintro rfl
      rw [ha] at hb; cases hb
     exact ⟨b,us',eb,hb,by rw [upd_ne hne]; exact hgb,h0b,rb⟩
    | iop p us=>obtain ⟨e1,vs1,h1',r1⟩:=this; exact ⟨e1,vs1,h1',r1.same s1⟩
    | hz w=>obtain ⟨v,e,r⟩:=this; exact ⟨v,e,r.same (join_same (noLG_same s1))⟩
  have I3:=I2.setV (i:=i) (v:=.ref a) (w:=.lst ws) (.lst upd_same (r.same s1))
  have e3:σ.set i (some (V.ref a))=σ:=by
   apply List.ext_getElem?
   intro j
   by_cases hj:i=j
   ·subst hj; rw [es,List.getElem?_set]; simp only [if_true]; rw [if_pos (List.getElem?_eq_some_iff.mp es).1]
   ·rw [List.getElem?_set_ne hj]
  rw [e3,List.set_set] at I3
  exact I3
 ·exact ⟨G,Same.refl G,I⟩
theorem c_frz {i:Nat} {m:Rho→R Fl} (h:tSt K EX d (fun ρ=>m (frz i ρ)) D σ H):tSt K EX d m D σ H:=by
 obtain ⟨H0,G,ρ,I,o⟩:=h
 obtain ⟨G',s,I'⟩:=I.frz (i:=i)
 exact ⟨H0,G',_,I',OutS.move s o⟩
end
end TP
namespace TP
open PySem L2
section
variable {K:PySem.W.Frag} {EX:EXT} {H0 G H G1 H1 G2 H2:Hp} {ρ:Rho} {σ:St} {d:Mode} {D:Ends}
structure ItOk (K:PySem.W.Frag) (e:Mode) (H0 Z G:Hp) (J:It) (ws:List W):Prop where
 go:∀ i H,i<ws.length→Same Z H→J.go i H
 stop:∀ H,Same Z H→J.stop ws.length H
 yld:∀ i H x H' w,ws[i]?=some w→Same Z H→J.yld i H x H'→∀ G2 ρ σ,PIv K H0 G2 ρ σ H→Same G G2→∃ G3,Ext G2 H G3 H'∧Md K H0 H G3 H' x w e
noncomputable def OutI (K:PySem.W.Frag) (EX:EXT) (lp:Bool) (e:Mode) (H0 G H:Hp) (r:R (List W)) (Rr:It→Hp→Prop):Prop:=match r with
 | .ok ws=>∀ J G' H',Ext G H G' H'→ItOk K e H0 (if lp then join H0 G' else H') G' J ws→Rr J H'
 | .ex x=>∀ H',Same H H'→EX x H'
 | .stuck=>False
noncomputable def tIt (K:PySem.W.Frag) (EX:EXT) (lp:Bool) (e:Mode) (m:Rho→R (List W)):TI:=fun σ H Rr=>∃ H0 G ρ,PIv K H0 G ρ σ H∧OutI K EX lp e H0 G H (m ρ) Rr
noncomputable def mFor (mg:W→Rho→Option Rho) (mb:Rho→R Fl):List W→Rho→R Fl
 | [],ρ=>.ok (.nx ρ)
 | w::ws,ρ=>toR (mg w ρ)>>=fun ρ1=>mb ρ1>>=fun f=>match f with
  | .nx ρ2=>mFor mg mb ws ρ2
  | .ct ρ2=>mFor mg mb ws ρ2
  | .bk ρ2=>.ok (.nx ρ2)
  | .rt w=>.ok (.rt w)
theorem c_for {e:Mode} {g:TG} {mg:W→Rho→Option Rho} {mi:Rho→R (List W)} {mb:Rho→R Fl} (hg:Gt K e g mg) (h:tSt K EX d (fun ρ=>mi ρ>>=fun ws=>mFor mg mb ws ρ) D σ H) :
  tFor (tIt K EX true e mi) g (tSt K EX d mb) D σ H:=by
 obtain ⟨H0,G,ρ,I,o⟩:=h
 refine ⟨H0,G,ρ,I,?_⟩
 replace o:OutS K EX d H0 G (mi ρ>>=fun ws=>mFor mg mb ws ρ) D:=o
 revert o
 cases mi ρ with
 | stuck=>exact id
 | ex x=>exact fun o H' s=>o H' (I.hh.trans s)
 | ok ws=>
  intro o J G1 H1 e1 T
  have o1:OutS K EX d H0 G1 (mFor mg mb ws ρ) D:=OutS.move e1.gg o
  refine ⟨fun i m σ H=>m=ws.length-i∧i≤ws.length∧∃ G2 ρ2,Same G1 G2∧PIv K H0 G2 ρ2 σ H∧OutS K EX d H0 G2 (mFor mg mb (ws.drop i) ρ2) D,⟨_,rfl,Nat.zero_le _,G1,ρ,Same.refl _,I.ext e1,o1⟩,?_⟩
  rintro i m σ2 Hh ⟨rfl,hi,G2,ρ2,s2,I2,o2⟩
  have hz:Same (join H0 G1) Hh:=(join_same s2).trans I2.join_H
  by_cases hlt:i<ws.length
  ·refine .inr ⟨T.go i Hh hlt hz,fun σ' H'=>∃ G4 ρ4,Same G1 G4∧PIv K H0 G4 ρ4 σ' H'∧OutS K EX d H0 G4 (mFor mg mb (ws.drop (i+1)) ρ4) D,fun σ' H' zz73=>by obtain ⟨G4,ρ4,s4,I4,o4⟩:=zz73; exact ⟨ws.length-(i+1),by omega,rfl,hlt,G4,ρ4,s4,I4,o4⟩,fun x H' y=>?_⟩
   obtain ⟨G3,e3,m3⟩:=T.yld i Hh x H' ws[i] (by simp) hz y G2 ρ2 σ2 I2 s2
   rw [List.drop_eq_getElem_cons hlt] at o2
   unfold mFor at o2
   cases q:mg ws[i] ρ2 with
   | none=>rw [q] at o2; exact o2.elim
   | some ρ'=>
    rw [q] at o2
    refine hg H0 Hh G3 ρ2 σ2 H' x _ ρ' _ (I2.ext e3) m3 q fun σ' I'=>⟨H0,G3,ρ',I',?_⟩
    have o3:OutS K EX d H0 G3 (mb ρ'>>=fun f=>match f with
     | .nx ρ2=>mFor mg mb (ws.drop (i+1)) ρ2
     | .ct ρ2=>mFor mg mb (ws.drop (i+1)) ρ2
     | .bk ρ2=>.ok (.nx ρ2)
     | .rt w=>.ok (.rt w)) D:=OutS.move e3.gg o2
    revert o3
    have s3:Same G1 G3:=s2.trans e3.gg
    cases mb ρ' with
    | stuck=>exact id
    | ex x=>exact id
    | ok f=>
     cases f with
     | nx ρ4=>exact fun o4 G4 σ4 H4 s4 I4=>⟨G4,ρ4,s3.trans s4,I4,OutS.move s4 o4⟩
     | ct ρ4=>exact fun o4 G4 σ4 H4 s4 I4=>⟨G4,ρ4,s3.trans s4,I4,OutS.move s4 o4⟩
     | bk ρ4=>exact id
     | rt w=>exact id
  ·have e:i=ws.length:=by omega
   subst e
   refine .inl ⟨T.stop Hh hz,?_⟩
   rw [List.drop_length] at o2
   exact o2 G2 σ2 Hh (Same.refl _) I2
noncomputable def iterW (c:Rho→R Bool) (b:Rho→R Fl):Nat→Rho→Option (R Fl)
 | 0,_=>none
 | n+1,ρ=>match c ρ with
  | .ok false=>some (.ok (.nx ρ))
  | .ok true=>(match b ρ with
   | .ok (.nx ρ')=>iterW c b n ρ'
   | .ok (.ct ρ')=>iterW c b n ρ'
   | .ok (.bk ρ')=>some (.ok (.nx ρ'))
   | .ok (.rt w)=>some (.ok (.rt w))
   | .ex e=>some (.ex e)
   | .stuck=>some .stuck)
  | .ex e=>some (.ex e)
  | .stuck=>some .stuck
theorem iterW_more {c:Rho→R Bool} {b:Rho→R Fl}:∀ (n:Nat) (ρ:Rho) (r:R Fl),iterW c b n ρ=some r→∀ m,n≤m→iterW c b m ρ=some r
 | 0,_,_,h,_,_=>by cases h
 | n+1,ρ,r,h,m,hm=>by
  obtain ⟨k,rfl⟩:∃ k,m=k+1:=⟨m-1,by omega⟩
  unfold iterW at h ⊢
  revert h
  cases c ρ with
  | ex e=>exact id
  | stuck=>exact id
  | ok t=>
   cases t with
   | false=>exact id
   | true=>
    cases b ρ with
    | ex e=>exact id
    | stuck=>exact id
    | ok f=>
     cases f with
     | nx ρ'=>exact fun h=>iterW_more n ρ' r h k (by omega)
     | ct ρ'=>exact fun h=>iterW_more n ρ' r h k (by omega)
     | bk ρ'=>exact id
     | rt w=>exact id
open Classical in
noncomputable def mWhile (c:Rho→R Bool) (b:Rho→R Fl):Rho→R Fl:=fun ρ=>if h:∃ r n,iterW c b n ρ=some r then h.choose else .stuck
theorem mWhile_eq {c:Rho→R Bool} {b:Rho→R Fl} {n:Nat} {r:R Fl} (h:iterW c b n ρ=some r):mWhile c b ρ=r:=by
 unfold mWhile
 have hx:∃ r n,iterW c b n ρ=some r:=⟨r,n,h⟩
 rw [dif_pos hx]
 obtain ⟨m,hm⟩:=hx.choose_spec
 have a:=iterW_more n ρ r h (max n m) (Nat.le_max_left _ _)
 have b:=iterW_more m ρ _ hm (max n m) (Nat.le_max_right _ _)
 rw [a] at b
 exact (Option.some.inj b).symm
theorem c_while {c:Rho→R Bool} {b:Rho→R Fl} (h:tSt K EX d (mWhile c b) D σ H):tWhile (tT K EX c) (tSt K EX d b) D σ H:=by
 obtain ⟨H0,G,ρ,I,o⟩:=h
 by_cases hx:∃ r n,iterW c b n ρ=some r
 ·obtain ⟨r,n,hn⟩:=hx
  rw [mWhile_eq hn] at o
  refine ⟨fun m σ2 Hh=>∃ G2 ρ2,Same G G2∧PIv K H0 G2 ρ2 σ2 Hh∧iterW c b m ρ2=some r,⟨n,G,ρ,Same.refl _,I,hn⟩,?_⟩
  rintro m σ2 Hh ⟨G2,ρ2,s2,I2,h2⟩
  have o2:OutS K EX d H0 G2 r D:=OutS.move s2 o
  refine ⟨H0,G2,ρ2,I2,?_⟩
  cases m with
  | zero=>cases h2
  | succ m=>
   unfold iterW at h2
   revert h2
   cases c ρ2 with
   | stuck=>intro h2; cases h2; exact o2
   | ex x=>intro h2; cases h2; exact fun H' s=>o2 H' (I2.hh.trans s)
   | ok t=>
    cases t with
    | false=>
     intro h2; cases h2
     intro v G3 H3 e3 q
     cases q
     rw [if_neg Bool.false_ne_true]
     exact o2 G3 σ2 H3 e3.gg (I2.ext e3)
    | true=>
     intro h2 v G3 H3 e3 q
     cases q
     rw [if_pos rfl]
     refine ⟨fun σ' H'=>∃ G4 ρ4,Same G G4∧PIv K H0 G4 ρ4 σ' H'∧iterW c b m ρ4=some r,fun σ' H' zz74=>by obtain ⟨G4,ρ4,s4,I4,h4⟩:=zz74; exact ⟨m,Nat.lt_succ_self m,G4,ρ4,s4,I4,h4⟩,H0,G3,ρ2,I2.ext e3,?_⟩
     have o3:OutS K EX d H0 G3 r D:=OutS.move e3.gg o2
     have s3:Same G G3:=s2.trans e3.gg
     revert h2
     cases b ρ2 with
     | stuck=>intro h2; cases h2; exact o3
     | ex x=>intro h2; cases h2; exact o3
     | ok f=>
      cases f with
      | nx ρ4=>exact fun h2 G4 σ4 H4 s4 I4=>⟨G4,ρ4,s3.trans s4,I4,h2⟩
      | ct ρ4=>exact fun h2 G4 σ4 H4 s4 I4=>⟨G4,ρ4,s3.trans s4,I4,h2⟩
      | bk ρ4=>intro h2; cases h2; exact o3
      | rt w=>intro h2; cases h2; exact o3
 ·unfold mWhile at o
  rw [dif_neg hx] at o
  exact o.elim
theorem Md.whole {v:V} {w:W} {Hs:Hp} (I:PIv K H0 G ρ σ H) (h:Md K H0 Hs G H v w .B):Rep K H v w:=by
 rcases h with h | ⟨a,vs,ws,rfl,rfl,h1,r⟩
 ·exact h.same I.join_H
 ·exact .lst h1 (r.same I.gh)
theorem MdA.whole {Hs:Hp} (I:PIv K H0 G ρ σ H) {ws:List W} {vs:List V} (h:MdA K .B H0 Hs G H ws vs):Reps K H vs ws:=
 @MdA.rec K .B H0 Hs G H (fun ws vs _=>Reps K H vs ws) .nil (fun h _ b=>.cons (h.whole I) b) ws vs h
noncomputable def XE (_:XK):EXT:=fun _ _=>False
noncomputable def spM (K:PySem.W.Frag) (n:Nat) (d:Mode) (f:List W→R W):Sp:=fun vs H Q E=>vs.length=n∧∃ ws,Reps K H vs ws∧match f ws with
 | .ok w=>∀ v G' H',Same H H'→Same G' H'→(∀ a o,H a=some o→isL o=true→G' a=none)→Md K H H G' H' v w d→Q v H'
 | .ex e=>∀ H',Same H H'→XE E e H'
 | .stuck=>False
noncomputable def runB (n N:Nat) (m:Rho→R Fl) (ws:List W):R W:=if ws.length=n then (m (ws.map Sl.par++List.replicate (N-n) Sl.un)>>=fun f=>match f with
 | .rt w=>.ok w
 | .nx _=>.ok .non
 | _=>.stuck) else .stuck
theorem runB_len {n N:Nat} {m:Rho→R Fl} (ws:List W) (h:runB n N m ws≠.stuck):ws.length=n:=by
 unfold runB at h
 by_cases e:ws.length=n
 ·exact e
 ·rw [if_neg e] at h; exact absurd rfl h
noncomputable def both (G G':Hp):Hp:=fun b=>match G b with
 | some o=>some o
 | none=>G' b
theorem c_call {n:Nat} {f:List W→R W} {E:XK} {ma:Rho→R (List W)} {Q:VK} (hd:d=.F∨d=.V) (hf:∀ ws,f ws≠.stuck→ws.length=n) (hE:∀ e H,EX e H→XE E e H) (h:tM K EX d (fun ρ=>ma ρ>>=fun ws=>f ws) σ H Q) :
  tCall (spM K n d f) [] E (tA K EX .B ma) σ H Q:=by
 obtain ⟨H0,G,ρ,I,o⟩:=h
 refine ⟨H0,G,ρ,I,Out.bind o fun xs G1 H1 ws e1 m1 o1=>?_⟩
 have I1:=I.ext e1
 have r:=MdA.whole I1 m1
 rw [List.append_nil]
 refine ⟨?_,ws,r,?_⟩
 ·rw [r.length]
  refine hf ws fun z=>?_
  rw [z] at o1; exact o1
 ·revert o1
  cases f ws with
  | stuck=>exact id
  | ex e=>exact fun o1 H' s=>hE e H' (o1 H' s)
  | ok w=>
   intro o1 v G' H' sH gH cl md
   have sB:Same G1 (both G1 G'):=fun b o q=>by unfold both; rw [q]
   have sB':Same G' (both G1 G'):=fun b o q=>by
    unfold both
    cases q1:G1 b with
    | none=>exact q
    | some u=>
     have a1:=sH b u (I1.gh b u q1)
     rw [gH b o q] at a1
     exact a1.symm
   have sHB:Same (both G1 G') H':=fun b o q=>by
    unfold both at q
    cases q1:G1 b with
    | none=>rw [q1] at q; exact gH b o q
    | some u=>rw [q1] at q; cases q; exact sH b _ (I1.gh b _ q1)
   have ex:Ext G1 H1 (both G1 G') H':=⟨sB,sH,sHB,fun b o q l g=>by unfold both; rw [g]; exact cl b o q l⟩
   refine o1 v (both G1 G') H' ex ?_
   rcases hd with rfl | rfl
   ·cases w with
    | lst us=>
     obtain ⟨a,vs,rfl,h1,h2,h3,r3⟩:=md
     exact ⟨a,vs,rfl,h1,by unfold both; rw [I1.gh.free h3]; exact h2,e1.hh.free h3,r3.same sB'⟩
    | non=>exact Rep.same sB' md
    | bl _=>exact Rep.same sB' md
    | int _=>exact Rep.same sB' md
    | str _=>exact Rep.same sB' md
    | ty _=>exact Rep.same sB' md
    | tup _=>exact Rep.same sB' md
    | scr _=>exact Rep.same sB' md
    | exc _ _=>exact Rep.same sB' md
    | cls _=>exact Rep.same sB' md
   ·exact Rep.same sB' md
noncomputable def noLH (H:Hp):Hp:=fun a=>match H a with
 | some o=>if isL o then none else some o
 | none=>none
theorem join_noLH:join H (noLH H)=H:=by
 funext a
 unfold join noLH
 cases q:H a with
 | none=>rfl
 | some o=>
  dsimp only
  cases isL o <;> rfl
theorem Reps.slots {vs:List V} {ws:List W} {i:Nat} {x:Sl} {o:Option V} {k k':Nat} (r:Reps K H vs ws):(ws.map Sl.par++List.replicate k Sl.un)[i]?=some x→(vs.map some++List.replicate k' none)[i]?=some o→x=.un∨∃ v w,x=.par w∧o=some v∧Rep K H v w:=
 Reps.ind (P:=fun vs ws=>∀ i,(ws.map Sl.par++List.replicate k Sl.un)[i]?=some x→(vs.map some++List.replicate k' none)[i]?=some o→x=.un∨∃ v w,x=.par w∧o=some v∧Rep K H v w) (fun i h1 h2=>by
  have h1:(List.replicate k Sl.un)[i]?=some x:=h1
  rw [List.getElem?_replicate] at h1
  by_cases hk:i<k
  ·rw [if_pos hk] at h1; exact .inl (Option.some.inj h1).symm
  ·rw [if_neg hk] at h1; cases h1) (fun r _ b i h1 h2=>by
  cases i with
  | zero=>exact .inr ⟨_,_,(Option.some.inj h1).symm,(Option.some.inj h2).symm,r⟩
  | succ i=>exact b i h1 h2) r i
theorem PIv.begin {vs:List V} {ws:List W} {k k':Nat} (r:Reps K H vs ws) (hk:k=k'):PIv K H (noLH H) (ws.map Sl.par++List.replicate k Sl.un) (vs.map some++List.replicate k' none) H where
 g0 a o e l:=by unfold noLH; rw [e]; dsimp only; rw [l]; rfl
 gl a o e l:=by unfold noLH; rw [e]; dsimp only; rw [l]; rfl
 gh a o e:=by
  unfold noLH at e
  cases q:H a with
  | none=>rw [q] at e; cases e
  | some u=>
   rw [q] at e
   dsimp only at e
   cases hl:isL u
   ·rw [hl] at e; exact e
   ·rw [hl] at e; cases e
 hh:=Same.refl H
 len:=by subst hk; simp [r.length]
 sl i x o h1 h2:=by
  rcases Reps.slots r h1 h2 with rfl | ⟨v,w,rfl,rfl,q⟩
  ·trivial
  ·exact ⟨v,rfl,by rw [join_noLH]; exact q⟩
 ne i j us xs a hij h1 _ _ _:=by
  have:∀ (i:Nat) (us:List W),(ws.map Sl.par++List.replicate k Sl.un)[i]?≠some (Sl.own us):=fun i us q=>by
   rw [List.getElem?_append] at q
   split at q
   ·rw [List.getElem?_map] at q
    cases hh:ws[i]? <;> rw [hh] at q <;> cases q
   ·rw [List.getElem?_replicate] at q
    split at q <;> cases q
  exact absurd h1 (this i us)
theorem c_body {n:Nat} {Nl:List Str} {m:Rho→R Fl} {vs:List V} {Q:VK} {E:XK} (hd:d=.F∨d=.V) (h:spM K n d (runB n Nl.length m) vs H Q E):tSt K (fun _ _=>False) d m { nx:=fun _ H'=>Q .non H',rt:=Q } (L2.start Nl vs) H:=by
 obtain ⟨hl,ws,r,o⟩:=h
 have hw:ws.length=n:=by rw [← r.length]; exact hl
 unfold runB at o
 rw [if_pos hw] at o
 refine ⟨H,noLH H,_,PIv.begin (k:=Nl.length-n) r (by rw [hl]),?_⟩
 revert o
 cases m (ws.map Sl.par++List.replicate (Nl.length-n) Sl.un) with
 | stuck=>exact id
 | ex e=>exact fun o=>(o H (Same.refl H)).elim
 | ok f=>
  cases f with
  | nx ρ'=>exact fun o G' σ' H' s' I'=>o .non G' H' I'.hh I'.gh I'.gl (Md.sca rfl (fun _=>.non) d)
  | rt w=>exact fun o v G' H' _ s1 s2 c md=>o v G' H' s2 s1 c md
  | bk _=>exact fun o=>o.elim
  | ct _=>exact fun o=>o.elim
end
end TP
namespace TP
open PySem L2
section
variable {K:PySem.W.Frag} {EX:EXT} {H0 G H G1 H1 G2 H2:Hp} {ρ:Rho} {σ:St} {d:Mode} {D:Ends}
noncomputable def elR (mg:W→Rho→Option Rho) (mc:Rho→R Bool) (me:Rho→R W) (ρ:Rho) (w:W):R (Option W):=match mg w ρ with
 | none=>.stuck
 | some ρ1=>(match mc ρ1 with
  | .ok true=>(match me ρ1 with
   | .ok y=>.ok (some y)
   | _=>.stuck)
  | .ok false=>.ok none
  | _=>.stuck)
noncomputable def mapR (f:W→R (Option W)):List W→R (List W)
 | []=>.ok []
 | w::ws=>match f w,mapR f ws with
  | .ok (some y),.ok ys=>.ok (y::ys)
  | .ok none,.ok ys=>.ok ys
  | _,_=>.stuck
noncomputable def mComp (N':Nat) (mg:W→Rho→Option Rho) (mc:Rho→R Bool) (me:Rho→R W) (ws:List W) (ρ:Rho):R W:=
 if ws.length≤1000 then (match mapR (elR mg mc me (ρ++List.replicate (N'-ρ.length) Sl.un)) ws with
  | .ok ys=>.ok (.lst ys)
  | _=>.stuck) else .stuck
theorem mapR_ok {f:W→R (Option W)}:∀ {ws ys:List W},mapR f ws=.ok ys→(∀ w∈ws,∃ o,f w=.ok o)∧ys=ws.filterMap fun w=>match f w with
  | .ok o=>o
  | _=>none:=by
 intro ws
 induction ws with
 | nil=>intro ys h; cases h; exact ⟨by simp,rfl⟩
 | cons w ws ih=>
  intro ys h
  unfold mapR at h
  cases hf:f w with
  | stuck=>rw [hf] at h; cases h
  | ex e=>rw [hf] at h; cases h
  | ok o=>
   rw [hf] at h
   cases hm:mapR f ws with
   | stuck=>rw [hm] at h; cases o <;> cases h
   | ex e=>rw [hm] at h; cases o <;> cases h
   | ok zs=>
    rw [hm] at h
    obtain ⟨h1,h2⟩:=ih hm
    refine ⟨fun u hu=>?_,?_⟩
    ·rcases List.mem_cons.mp hu with rfl | hu
     ·exact ⟨o,hf⟩
     ·exact h1 u hu
    ·cases o with
     | none=>cases h; rw [List.filterMap_cons,hf]; exact h2
     | some y=>cases h; rw [List.filterMap_cons,hf,h2]
theorem PIv.inner {N':List Str} (I:PIv K H0 G ρ σ H):PIv K H0 G (ρ++List.replicate (N'.length-ρ.length) Sl.un) (inner N' σ) H:=by
 have hl:=I.len
 unfold L2.inner
 rw [hl]
 refine ⟨I.g0,I.gl,I.gh,I.hh,by simp [hl],fun i x o h1 h2=>?_,fun p q ws us c hab h1 h2 h3 h4=>?_⟩
 ·by_cases hi:i<ρ.length
  ·rw [List.getElem?_append_left hi] at h1
   rw [List.getElem?_append_left (by omega)] at h2
   exact I.sl i x o h1 h2
  ·rw [List.getElem?_append_right (by omega),List.getElem?_replicate] at h1
   split at h1 <;> simp only [Option.some.injEq,reduceCtorEq] at h1
   subst h1; trivial
 ·have key:∀ {k:Nat} {us:List W},(ρ++List.replicate (N'.length-σ.length) Sl.un)[k]?=some (Sl.own us)→k<ρ.length∧ρ[k]?=some (Sl.own us):=fun {k us} hk=>by
   by_cases hi:k<ρ.length
   ·rw [List.getElem?_append_left hi] at hk; exact ⟨hi,hk⟩
   ·rw [List.getElem?_append_right (by omega),List.getElem?_replicate] at hk
    split at hk <;> simp at hk
  obtain ⟨l1,k1⟩:=key h1
  obtain ⟨l2,k2⟩:=key h2
  rw [List.getElem?_append_left (by omega)] at h3 h4
  exact I.ne p q ws us c hab k1 k2 h3 h4
open Classical in
noncomputable def rest (G H:Hp) (Dd:Addr) (H':Hp):Hp:=fun b=>if b=Dd∨∃ o,H b=some o∧isL o=true∧G b=none then none else H' b
theorem rest_none {Dd b:Addr} {H':Hp} (h:b=Dd∨∃ o,H b=some o∧isL o=true∧G b=none):rest G H Dd H' b=none:=by unfold rest; rw [if_pos h]
theorem rest_some {Dd b:Addr} {H':Hp} (h:¬ (b=Dd∨∃ o,H b=some o∧isL o=true∧G b=none)):rest G H Dd H' b=H' b:=by unfold rest; rw [if_neg h]
theorem rest_of {Dd b:Addr} {H':Hp} {o:HO} (h:rest G H Dd H' b=some o):H' b=some o∧¬ (b=Dd∨∃ o,H b=some o∧isL o=true∧G b=none):=by
 by_cases c:b=Dd∨∃ o,H b=some o∧isL o=true∧G b=none
 ·rw [rest_none c] at h; cases h
 ·rw [rest_some c] at h; exact ⟨h,c⟩
theorem PIv.rest {Dd:Addr} {H':Hp} (I:PIv K H0 G ρ σ H) (hD:H Dd=none) (s:Same H H'):Same G (rest G H Dd H')∧PIv K H0 (rest G H Dd H') ρ σ H':=by
 have sG:Same G (TP.rest G H Dd H'):=fun b o q=>by
  rw [rest_some]
  ·exact s b o (I.gh b o q)
  ·rintro (rfl | ⟨u,h1,h2,h3⟩)
   ·rw [I.gh _ _ q] at hD; cases hD
   ·rw [q] at h3; cases h3
 refine ⟨sG,fun a o e l=>sG a o (I.g0 a o e l),fun a o e l=>rest_none (.inr ⟨o,I.hh a o e,l,I.gl a o e l⟩),fun b o q=>(rest_of q).1,I.hh.trans s,I.len,fun i x o h1 h2=>?_,I.ne⟩
 have:=I.sl i x o h1 h2
 cases x with
 | un=>trivial
 | val w=>obtain ⟨v,e,r⟩:=this; exact ⟨v,e,r.same sG⟩
 | par w=>obtain ⟨v,e,r⟩:=this; exact ⟨v,e,r.same (join_same sG)⟩
 | own ws=>
  obtain ⟨a,vs,e,h,g,h0,r⟩:=this
  exact ⟨a,vs,e,s a _ h,rest_none (.inr ⟨_,h,rfl,g⟩),h0,r.same sG⟩
 | dic ks=>
  obtain ⟨a,vs,e,h,g,h0,r⟩:=this
  exact ⟨a,vs,e,s a _ h,rest_none (.inr ⟨_,h,rfl,g⟩),h0,r⟩
 | dik ks=>
  obtain ⟨a,vs,e,h,g,h0,r⟩:=this
  exact ⟨a,vs,e,s a _ h,rest_none (.inr ⟨_,h,rfl,g⟩),h0,r⟩
 | iop p ws=>obtain ⟨e1,vs1,h1',r1⟩:=this; exact ⟨e1,vs1,h1',r1.same sG⟩
 | hz w=>obtain ⟨v,e,r⟩:=this; exact ⟨v,e,r.same (join_same (noLG_same sG))⟩
theorem rest_mono {Dd:Addr} {Ha Hb:Hp} (s:∀ b o,b≠Dd→Ha b=some o→Hb b=some o):Same (rest G H Dd Ha) (rest G H Dd Hb):=fun b o q=>by
 obtain ⟨h,c⟩:=rest_of q
 rw [rest_some c]
 exact s b o (fun z=>c (.inl z)) h
theorem rest_ext {Dd:Addr} {Ha Hb G':Hp} (hl:∃ ys,Ha Dd=some (.lst ys)) (s:Same H Ha) (e:Ext (rest G H Dd Ha) Ha G' Hb):Same G' (rest G H Dd Hb):=fun b o q=>by
 rw [rest_some]
 ·exact e.gh b o q
 ·rintro (rfl | ⟨u,h1,h2,h3⟩)
  ·obtain ⟨ys,hl⟩:=hl
   rw [e.keep _ _ hl rfl (rest_none (.inl rfl))] at q; cases q
  ·rw [e.keep _ _ (s _ _ h1) h2 (rest_none (.inr ⟨u,h1,h2,h3⟩))] at q; cases q
theorem c_comp {Q:VK} {e:Mode} {N':List Str} {g:TG} {mg:W→Rho→Option Rho} {mi:Rho→R (List W)} {mc:Rho→R Bool} {me:Rho→R W} (hg:Gt K e g mg) (h:tM K EX .F (fun ρ=>mi ρ>>=fun ws=>mComp N'.length mg mc me ws ρ) σ H Q) :
  tComp N' (tIt K EX false e mi) g (tT K EX mc) (tM K EX .V me) σ H Q:=by
 obtain ⟨H0,G,ρ,I,o⟩:=h
 refine ⟨H0,G,ρ,I,?_⟩
 replace o:Out EX G H (mdW K .F H0 H) (mi ρ>>=fun ws=>mComp N'.length mg mc me ws ρ) Q:=o
 revert o
 cases mi ρ with
 | stuck=>exact id
 | ex x=>exact id
 | ok ws=>
  intro o J G1 H1 e1 T Dd hD
  have I1:=I.ext e1
  replace o:Out EX G H (mdW K .F H0 H) (mComp N'.length mg mc me ws ρ) Q:=o
  unfold mComp at o
  by_cases hlen:ws.length≤1000
  ·rw [if_pos hlen] at o
   cases hm:mapR (elR mg mc me (ρ++List.replicate (N'.length-ρ.length) Sl.un)) ws with
   | stuck=>rw [hm] at o; exact o.elim
   | ex x=>rw [hm] at o; exact o.elim
   | ok ys=>
    rw [hm] at o
    obtain ⟨hall,hys⟩:=mapR_ok hm
    have T':ItOk K e H0 H1 G1 J ws:=by
     have:=T
     rw [if_neg Bool.false_ne_true] at this
     exact this
    generalize hρ:ρ++List.replicate (N'.length-ρ.length) Sl.un=ρi at hm hall hys
    refine ⟨fun i m H2=>m=ws.length-i∧i≤ws.length∧Same H1 H2∧∃ vs,H2 Dd=some (.lst vs)∧vs.length≤i∧Reps K (rest G1 H1 Dd H2) vs ((ws.take i).filterMap fun w=>match elR mg mc me ρi w with
     | .ok o=>o
     | _=>none),⟨_,rfl,Nat.zero_le _,fun b u q=>by rw [upd_ne (ne_of_none q hD)]; exact q,[],upd_same,Nat.le_refl _,.nil⟩,?_⟩
    rintro i m H2 ⟨rfl,hi,s2,vs,hDv,hvl,r2⟩
    by_cases hlt:i<ws.length
    ·refine .inr ⟨T'.go i H2 hlt s2,fun x H3 y=>?_⟩
     obtain ⟨sG,I2⟩:=I1.rest (Dd:=Dd) hD s2
     have I2i:=I2.inner (N':=N')
     obtain ⟨G3,e3,m3⟩:=T'.yld i H2 x H3 ws[i] (by simp) s2 y _ _ _ I2i sG
     obtain ⟨op,hop⟩:=hall ws[i] (List.getElem_mem hlt)
     have hop':=hop
     unfold elR at hop
     rw [← hρ] at hop
     have htake:ws.take (i+1)=ws.take i ++ [ws[i]]:=by rw [List.take_succ_eq_append_getElem hlt]
     cases q:mg ws[i] (ρ++List.replicate (N'.length-ρ.length) Sl.un) with
     | none=>rw [q] at hop; cases hop
     | some ρ1=>
      rw [q] at hop
      dsimp only at hop
      refine hg H0 H2 G3 _ _ H3 x _ ρ1 _ (I2i.ext e3) m3 q fun σ4 I4=>⟨H0,G3,ρ1,I4,?_⟩
      cases hc:mc ρ1 with
      | stuck=>rw [hc] at hop; cases hop
      | ex x=>rw [hc] at hop; cases hop
      | ok b=>
       intro b' G5 H5 e5 eb
       cases eb
       rw [hc] at hop
       cases b with
       | false=>
        rw [if_neg Bool.false_ne_true]
        have hop2:op=none:=by cases hop; rfl
        have s5:Same H2 H5:=e3.hh.trans e5.hh
        refine ⟨ws.length-(i+1),by omega,rfl,hlt,s2.trans s5,vs,s5 _ _ hDv,by omega,?_⟩
        rw [htake,List.filterMap_append]
        have:([ws[i]].filterMap fun w=>match elR mg mc me ρi w with
         | .ok o=>o
         | _=>none) = []:=by
         rw [List.filterMap_cons,hop',hop2]; rfl
        rw [this,List.append_nil]
        exact r2.same (rest_mono fun b o _ q=>s5 b o q)
       | true=>
        dsimp only at hop
        rw [if_pos rfl]
        refine ⟨H0,G5,ρ1,I4.ext e5,?_⟩
        cases hme:me ρ1 with
        | stuck=>rw [hme] at hop; cases hop
        | ex x=>rw [hme] at hop; cases hop
        | ok z=>
         rw [hme] at hop
         have hop2:op=some z:=by cases hop; rfl
         intro yv G6 H6 e6 m6
         have e36:Ext (TP.rest G1 H1 Dd H2) H2 G6 H6:=(e3.trans e5).trans e6
         have s6:Same H2 H6:=e36.hh
         refine ⟨vs,s6 _ _ hDv,Nat.lt_of_le_of_lt hvl (Nat.lt_of_lt_of_le (by omega:i<1000) (by decide)),ws.length-(i+1),by omega,rfl,hlt,fun b u q=>by rw [upd_ne (ne_of_none q hD)]; exact s6 b u (s2 b u q),vs ++ [yv],upd_same,by rw [List.length_append]; simp; omega,?_⟩
         rw [htake,List.filterMap_append]
         have:([ws[i]].filterMap fun w=>match elR mg mc me ρi w with
          | .ok o=>o
          | _=>none) = [z]:=by
          rw [List.filterMap_cons,hop',hop2]; rfl
         rw [this]
         have k1:Same (TP.rest G1 H1 Dd H2) (TP.rest G1 H1 Dd (upd H6 Dd (.lst (vs ++ [yv])))):=rest_mono fun b o hb q=>by rw [upd_ne hb]; exact s6 b o q
         have k2:Same G6 (TP.rest G1 H1 Dd (upd H6 Dd (.lst (vs ++ [yv])))):=(rest_ext ⟨vs,hDv⟩ s2 e36).trans (rest_mono fun b o hb q=>by rw [upd_ne hb]; exact q)
         exact (r2.same k1).snoc (Rep.same k2 m6)
    ·have ei:i=ws.length:=by omega
     subst ei
     refine .inl ⟨T'.stop H2 s2,?_⟩
     rw [List.take_length,← hys] at r2
     obtain ⟨sG,I2⟩:=I1.rest (Dd:=Dd) hD s2
     refine o _ (TP.rest G1 H1 Dd H2) H2 ⟨e1.gg.trans sG,e1.hh.trans s2,I2.gh,fun b u q l g=>rest_none (.inr ⟨u,e1.hh b u q,l,e1.keep b u q l g⟩)⟩ ⟨Dd,vs,rfl,hDv,rest_none (.inl rfl),e1.hh.free hD,r2⟩
  ·rw [if_neg hlen] at o; exact o.elim
noncomputable def seqW:W→R (List W)
 | .lst ws=>.ok ws
 | .tup ws=>.ok ws
 | .scr ws=>.ok ws
 | _=>.stuck
theorem sq_same {t:Bool} {a:Addr} {xs:List V} (e:Same H H1) (h:Sq K H t a xs):Sq K H1 t a xs:=by
 unfold Sq at h ⊢
 split at h
 ·rename_i ht; rw [if_pos ht]; exact sqT_same e h
 ·rename_i ht; rw [if_neg ht]; exact Same.seq e h
theorem sqT {a:Addr} {xs:List V} (h:SqT K H a xs):Sq K H true a xs:=by unfold Sq; rw [if_pos rfl]; exact h
theorem sqL {a:Addr} {xs:List V} (h:SqL K H a xs):Sq K H false a xs:=by unfold Sq; rw [if_neg Bool.false_ne_true]; exact h
theorem Rep.sq {F:Hp} {x:V} {w:W} {ws:List W} (h:Rep K F x w) (hw:seqW w=.ok ws):∃ t a vs,x=.ref a∧Sq K F t a vs∧Reps K F vs ws:=by
 cases h with
 | tup s r=>cases hw; exact ⟨true,_,_,rfl,sqT (SqT.of s),r⟩
 | lst s r=>cases hw; exact ⟨false,_,_,rfl,sqL (SqL.of s),r⟩
 | scr s r=>cases hw; exact ⟨false,_,_,rfl,sqL s,r⟩
 | _=>cases hw
noncomputable def srcM:Bool→Mode→Mode
 | true,e=>e
 | false,.V=>.C
 | false,_=>.B
noncomputable def fz (e:Mode) (H0 G:Hp):Hp:=if e=.V then G else join H0 G
theorem Md.src {lp:Bool} {e:Mode} {Hs:Hp} {x:V} {w:W} {ws:List W} (he:e=.V∨e=.U) (I:PIv K H0 G ρ σ H) (m:Md K H0 Hs G H x w (srcM lp e)) (hw:seqW w=.ok ws) :
  ∃ t a vs,x=.ref a∧Sq K (if lp then join H0 G else H) t a vs∧Reps K (fz e H0 G) vs ws:=by
 unfold fz
 rcases he with rfl | rfl
 ·rw [if_pos rfl]
  cases lp with
  | true=>
   obtain ⟨t,a,vs,e1,e2,e3⟩:=Rep.sq m hw
   exact ⟨t,a,vs,e1,by rw [if_pos rfl]; exact sq_same I.G_join e2,e3⟩
  | false=>
   rw [if_neg Bool.false_ne_true]
   rcases m with m | ⟨a,vs,us,rfl,rfl,h1,r⟩
   ·obtain ⟨t,a,vs,e1,e2,e3⟩:=Rep.sq m hw
    exact ⟨t,a,vs,e1,sq_same I.gh e2,e3⟩
   ·cases hw; exact ⟨false,a,vs,rfl,sqL (SqL.of h1),r⟩
 ·rw [if_neg (show ¬ (Mode.U=Mode.V) by intro z; cases z)]
  cases lp with
  | true=>
   obtain ⟨t,a,vs,e1,e2,e3⟩:=Rep.sq m hw
   exact ⟨t,a,vs,e1,by rw [if_pos rfl]; exact e2,e3⟩
  | false=>
   rw [if_neg Bool.false_ne_true]
   rcases m with m | ⟨a,vs,us,rfl,rfl,h1,r⟩
   ·obtain ⟨t,a,vs,e1,e2,e3⟩:=Rep.sq m hw
    exact ⟨t,a,vs,e1,sq_same I.join_H e2,e3⟩
   ·cases hw; exact ⟨false,a,vs,rfl,sqL (SqL.of h1),r.same I.G_join⟩
theorem Md.of_fz {e:Mode} {Hs:Hp} {v:V} {w:W} (he:e=.V∨e=.U) (h:Rep K (fz e H0 G) v w):Md K H0 Hs G H v w e:=by
 unfold fz at h
 rcases he with rfl | rfl
 ·rw [if_pos rfl] at h; exact h
 ·rw [if_neg (show ¬ (Mode.U=Mode.V) by intro z; cases z)] at h; exact h
theorem fz_same {e:Mode} (s:Same G G1):Same (fz e H0 G) (fz e H0 G1):=by
 unfold fz
 split
 ·exact s
 ·exact join_same s
theorem itok_sq {e:Mode} {Z:Hp} {t:Bool} {a:Addr} {vs:List V} {ws:List W} (he:e=.V∨e=.U) (s:Sq K Z t a vs) (r:Reps K (fz e H0 G) vs ws):ItOk K e H0 Z G (ItQ K t a) ws:=by
 have hl:=r.length
 cases t with
 | true=>
  have hq:∀ H,Same Z H→SqT K H a vs:=fun H z=>by have:=sq_same z s; unfold Sq at this; rw [if_pos rfl] at this; exact this
  refine ⟨fun i H hi z=>⟨vs,vs[i]'(by omega),hq H z,by simp⟩,fun H z=>⟨vs,hq H z,by omega⟩,fun i H x H' w hw z zz75 G2 ρ σ I sg=>?_⟩
  obtain ⟨e1,y⟩:=zz75
  subst e1
  have hx:=y vs (hq _ z)
  obtain ⟨v,hv,rv⟩:=Reps.get r hw
  rw [hx] at hv; cases hv
  exact ⟨G2,Ext.refl I.gh,Md.of_fz he (rv.same (fz_same sg))⟩
 | false=>
  have hq:∀ H,Same Z H→SqL K H a vs:=fun H z=>by have:=sq_same z s; unfold Sq at this; rw [if_neg Bool.false_ne_true] at this; exact this
  refine ⟨fun i H hi z=>⟨vs,vs[i]'(by omega),hq H z,by simp⟩,fun H z=>⟨vs,hq H z,by omega⟩,fun i H x H' w hw z zz76 G2 ρ σ I sg=>?_⟩
  obtain ⟨e1,y⟩:=zz76
  subst e1
  have hx:=y vs (hq _ z)
  obtain ⟨v,hv,rv⟩:=Reps.get r hw
  rw [hx] at hv; cases hv
  exact ⟨G2,Ext.refl I.gh,Md.of_fz he (rv.same (fz_same sg))⟩
theorem lp_H {lp:Bool} (I:PIv K H0 G ρ σ H):Same (if lp then join H0 G else H) H:=by
 cases lp
 ·exact Same.refl H
 ·exact I.join_H
theorem c_iSq {lp:Bool} {e:Mode} {ml:Rho→R W} {Rr:It→Hp→Prop} (he:e=.V∨e=.U) (h:tIt K EX lp e (fun ρ=>ml ρ>>=seqW) σ H Rr):iSq K (tM K EX (srcM lp e) ml) σ H Rr:=by
 obtain ⟨H0,G,ρ,I,o⟩:=h
 refine ⟨H0,G,ρ,I,?_⟩
 replace o:OutI K EX lp e H0 G H (ml ρ>>=seqW) Rr:=o
 revert o
 cases ml ρ with
 | stuck=>exact id
 | ex x=>exact id
 | ok w=>
  intro o x G1 H1 e1 m1
  have I1:=I.ext e1
  have o':OutI K EX lp e H0 G H (seqW w) Rr:=o
  cases q:seqW w with
  | stuck=>rw [q] at o'; exact o'.elim
  | ex z=>cases w <;> cases q
  | ok ws=>
   rw [q] at o'
   obtain ⟨t,a,vs,ex,s,r⟩:=Md.src he I1 m1 q
   exact ⟨a,ex,t,vs,sq_same (lp_H I1) s,o' _ G1 H1 e1 (itok_sq he s r)⟩
noncomputable def rngW (lo hi:Int):R (List W):=if -1000000≤lo∧lo≤1000000 ∧ -1000000≤hi∧hi≤1000000 then .ok ((List.range (hi-lo).toNat).map fun k=>W.int (lo+(k:Nat))) else .stuck
noncomputable def rng1:List W→R (List W)
 | [.int j]=>rngW 0 j
 | _=>.stuck
noncomputable def rng2:List W→R (List W)
 | [.int i,.int j]=>rngW i j
 | _=>.stuck
theorem itok_rng {e:Mode} {Z:Hp} {lo:Int} {n:Nat} (he:e=.V∨e=.U):ItOk K e H0 Z G (Itr lo n) ((List.range n).map fun k=>W.int (lo+(k:Nat))):=by
 refine ⟨fun i H hi _=>by show i<n; simpa using hi,fun H _=>by simp [Itr],fun i H x H' w hw _ zz77 G2 ρ σ I _=>?_⟩
 obtain ⟨e1,e2⟩:=zz77
 subst e1; subst e2
 rw [List.getElem?_map] at hw
 cases q:(List.range n)[i]? with
 | none=>rw [q] at hw; cases hw
 | some k=>
  rw [q] at hw
  have hk:k=i:=by
   have:=List.getElem?_eq_some_iff.mp q
   obtain ⟨h1,h2⟩:=this
   simpa using h2.symm
  subst hk
  cases hw
  refine ⟨G2,Ext.refl I.gh,Md.sca rfl (fun _=>.int) e⟩
theorem tIt_bind {lp:Bool} {e b:Mode} {ma:Rho→R (List W)} {k:List W→R (List W)} {Rr:It→Hp→Prop} {Q:List V→Hp→Prop} (h:tIt K EX lp e (fun ρ=>ma ρ>>=k) σ H Rr)
  (hq:∀ H0 G ρ G1 H1 xs ws us,PIv K H0 G ρ σ H→Ext G H G1 H1→MdA K b H0 H G1 H1 ws xs→k ws=.ok us→(∀ J G' H',Ext G H G' H'→ItOk K e H0 (if lp then join H0 G' else H') G' J us→Rr J H')→Q xs H1)
  (hx:∀ ws e,k ws≠.ex e):tA K EX b ma σ H Q:=by
 obtain ⟨H0,G,ρ,I,o⟩:=h
 refine ⟨H0,G,ρ,I,?_⟩
 replace o:OutI K EX lp e H0 G H (ma ρ>>=k) Rr:=o
 revert o
 cases ma ρ with
 | stuck=>exact id
 | ex x=>exact id
 | ok ws=>
  intro o xs G1 H1 e1 m1
  have o':OutI K EX lp e H0 G H (k ws) Rr:=o
  cases q:k ws with
  | stuck=>rw [q] at o'; exact o'.elim
  | ex z=>exact absurd q (hx ws z)
  | ok us=>rw [q] at o'; exact hq H0 G ρ G1 H1 xs ws us I e1 m1 q o'
theorem rngW_ok {lo hi:Int} {us:List W} (h:rngW lo hi=.ok us):(-1000000≤lo∧lo≤1000000 ∧ -1000000≤hi∧hi≤1000000)∧us=(List.range (hi-lo).toNat).map fun k=>W.int (lo+(k:Nat)):=by
 unfold rngW at h
 split at h
 ·cases h; rename_i c; exact ⟨c,rfl⟩
 ·cases h
theorem c_rng1 {lp:Bool} {e:Mode} {ma:Rho→R (List W)} {Rr:It→Hp→Prop} (he:e=.V∨e=.U) (h:tIt K EX lp e (fun ρ=>ma ρ>>=rng1) σ H Rr):iRng1 (tA K EX .B ma) σ H Rr:=by
 refine tIt_bind h (fun H0 G ρ G1 H1 xs ws us I e1 m1 q o=>?_) (fun ws e z=>?_)
 ·unfold rng1 at q
  split at q
  ·rename_i j
   cases m1 with
   | cons a t=>
    cases t
    obtain ⟨c,rfl⟩:=rngW_ok q
    refine ⟨j,by rw [Md.intB a],by omega,by omega,?_⟩
    have:=o (Itr 0 j.toNat) G1 H1 e1
    rw [Int.sub_zero] at this
    exact this (itok_rng he)
  ·cases q
 ·unfold rng1 at z
  split at z
  ·unfold rngW at z; split at z <;> cases z
  ·cases z
noncomputable def zipW:List (List W)→List (List W)
 | [xs,ys]=>xs.zipWith (fun x y=>[x,y]) ys
 | [xs,ys,zs]=>(xs.zip ys).zipWith (fun p z=>[p.1,p.2,z]) zs
 | _=>[]
noncomputable def seqWs:List W→R (List (List W))
 | []=>.ok []
 | w::ws=>match seqW w,seqWs ws with
  | .ok x,.ok xs=>.ok (x::xs)
  | _,_=>.stuck
noncomputable def zipR (ws:List W):R (List W):=if ws.length=2∨ws.length=3 then (match seqWs ws with
 | .ok xs=>.ok ((zipW xs).map W.tup)
 | _=>.stuck) else .stuck
theorem rep_new {e:Mode} {p:Addr} {vs:List V} {ws:List W} {Hs:Hp} (he:e=.V∨e=.U) (I:PIv K H0 G ρ σ H) (hp:H p=none) (r:Reps K (fz e H0 G) vs ws):Ext G H (upd G p (.tup vs)) (upd H p (.tup vs))∧Md K H0 Hs (upd G p (.tup vs)) (upd H p (.tup vs)) (.ref p) (.tup ws) e:=by
 refine ⟨new_extG I.gh hp,?_⟩
 have gp:G p=none:=I.gh.free hp
 rcases he with rfl | rfl
 ·unfold fz at r
  rw [if_pos rfl] at r
  exact .tup upd_same (r.same fun b u q=>by rw [upd_ne (ne_of_none q gp)]; exact q)
 ·unfold fz at r
  rw [if_neg (show ¬ (Mode.U=Mode.V) by intro z; cases z)] at r
  show Rep K (join H0 (upd G p (.tup vs))) _ _
  rw [join_upd (I.hh.free hp)]
  exact .tup upd_same (r.same fun b u q=>by rw [upd_ne (ne_of_none (I.join_H b u q) hp)]; exact q)
theorem itok_zip2 {e:Mode} {Z:Hp} {t u:Bool} {a b:Addr} {xs ys:List V} {us vs:List W} (he:e=.V∨e=.U) (s1:Sq K Z t a xs) (s2:Sq K Z u b ys) (r1:Reps K (fz e H0 G) xs us) (r2:Reps K (fz e H0 G) ys vs) :
  ItOk K e H0 Z G (ItZ K [(t,a),(u,b)]) ((us.zipWith (fun x y=>[x,y]) vs).map W.tup):=by
 have Rn:=runs_zip2 s1 s2
 have l1:=r1.length
 have l2:=r2.length
 have hl:((us.zipWith (fun x y=>[x,y]) vs).map W.tup).length=min xs.length ys.length:=by simp [l1,l2]
 refine ⟨fun i H hi z=>Rn.go i H (by omega) z,fun H z=>by rw [hl]; exact Rn.stop H z,fun i H x H' w hw z y G2 ρ σ I sg=>?_⟩
 have hi:i<min xs.length ys.length:=by
  rw [← hl]; exact (List.getElem?_eq_some_iff.mp hw).1
 obtain ⟨p,y1,z1,rfl,hp,rfl,hy,hz⟩:=Rn.yld i H x H' hi z y
 obtain ⟨w1,e1,q1⟩:=Reps.get' r1 hy
 obtain ⟨w2,e2,q2⟩:=Reps.get' r2 hz
 have hw':w=.tup [w1,w2]:=by
  rw [List.getElem?_map,List.getElem?_zipWith,e1,e2] at hw
  cases hw; rfl
 subst hw'
 obtain ⟨x1,x2⟩:=rep_new (Hs:=H) he I hp (.cons (q1.same (fz_same sg)) (.cons (q2.same (fz_same sg)) .nil))
 exact ⟨_,x1,x2⟩
theorem itok_zip3 {e:Mode} {Z:Hp} {t u v:Bool} {a b c:Addr} {xs ys zs:List V} {us vs ts:List W} (he:e=.V∨e=.U) (s1:Sq K Z t a xs) (s2:Sq K Z u b ys) (s3:Sq K Z v c zs) (r1:Reps K (fz e H0 G) xs us) (r2:Reps K (fz e H0 G) ys vs) (r3:Reps K (fz e H0 G) zs ts) :
  ItOk K e H0 Z G (ItZ K [(t,a),(u,b),(v,c)]) (((us.zip vs).zipWith (fun p z=>[p.1,p.2,z]) ts).map W.tup):=by
 have Rn:=runs_zip3 s1 s2 s3
 have l1:=r1.length
 have l2:=r2.length
 have l3:=r3.length
 have hl:(((us.zip vs).zipWith (fun p z=>[p.1,p.2,z]) ts).map W.tup).length=min xs.length (min ys.length zs.length):=by simp [l1,l2,l3,Nat.min_assoc]
 refine ⟨fun i H hi z=>Rn.go i H (by omega) z,fun H z=>by rw [hl]; exact Rn.stop H z,fun i H x H' w hw z y G2 ρ σ I sg=>?_⟩
 have hi:i<min xs.length (min ys.length zs.length):=by
  rw [← hl]; exact (List.getElem?_eq_some_iff.mp hw).1
 obtain ⟨p,y1,z1,t1,rfl,hp,rfl,hy,hz,ht⟩:=Rn.yld i H x H' hi z y
 obtain ⟨w1,e1,q1⟩:=Reps.get' r1 hy
 obtain ⟨w2,e2,q2⟩:=Reps.get' r2 hz
 obtain ⟨w3,e3,q3⟩:=Reps.get' r3 ht
 have hw':w=.tup [w1,w2,w3]:=by
  rw [List.getElem?_map,List.getElem?_zipWith,List.zip,List.getElem?_zipWith,e1,e2,e3] at hw
  cases hw; rfl
 subst hw'
 obtain ⟨x1,x2⟩:=rep_new (Hs:=H) he I hp (.cons (q1.same (fz_same sg)) (.cons (q2.same (fz_same sg)) (.cons (q3.same (fz_same sg)) .nil)))
 exact ⟨_,x1,x2⟩
theorem seqWs_cons {w:W} {ws:List W} {xs:List (List W)} (h:seqWs (w::ws)=.ok xs):∃ y ys,seqW w=.ok y∧seqWs ws=.ok ys∧xs=y::ys:=by
 unfold seqWs at h
 cases h1:seqW w with
 | stuck=>rw [h1] at h; cases h
 | ex _=>rw [h1] at h; cases h
 | ok y=>
  rw [h1] at h
  cases h2:seqWs ws with
  | stuck=>rw [h2] at h; cases h
  | ex _=>rw [h2] at h; cases h
  | ok ys=>rw [h2] at h; cases h; exact ⟨y,ys,rfl,rfl,rfl⟩
theorem c_zip {lp:Bool} {e:Mode} {ma:Rho→R (List W)} {Rr:It→Hp→Prop} (he:e=.V∨e=.U) (h:tIt K EX lp e (fun ρ=>ma ρ>>=zipR) σ H Rr):iZip K (tA K EX (srcM lp e) ma) σ H Rr:=by
 refine tIt_bind h (fun H0 G ρ G1 H1 xs ws us I e1 m1 q o=>?_) (fun ws e z=>?_)
 ·have I1:=I.ext e1
  unfold zipR at q
  split at q
  ·rename_i hn
   cases hs:seqWs ws with
   | stuck=>rw [hs] at q; cases q
   | ex _=>rw [hs] at q; cases q
   | ok ls=>
    rw [hs] at q
    cases q
    cases m1 with
    | nil=>simp at hn
    | cons a1 m1=>
     cases m1 with
     | nil=>simp at hn
     | cons a2 m1=>
      obtain ⟨y1,ys,h1,hs1,rfl⟩:=seqWs_cons hs
      obtain ⟨y2,ys,h2,hs2,rfl⟩:=seqWs_cons hs1
      obtain ⟨t1,p1,v1,rfl,q1,r1⟩:=Md.src he I1 a1 h1
      obtain ⟨t2,p2,v2,rfl,q2,r2⟩:=Md.src he I1 a2 h2
      have k1:=sq_same (lp_H I1) q1
      have k2:=sq_same (lp_H I1) q2
      cases m1 with
      | nil=>
       cases hs2
       refine ⟨[(t1,p1),(t2,p2)],rfl,.inl rfl,fun u hu=>?_,o _ G1 H1 e1 (itok_zip2 he q1 q2 r1 r2)⟩
       simp only [List.mem_cons,List.not_mem_nil,or_false] at hu
       rcases hu with rfl | rfl
       ·exact ⟨_,k1⟩
       ·exact ⟨_,k2⟩
      | cons a3 m1=>
       cases m1 with
       | cons _ _=>simp at hn
       | nil=>
        obtain ⟨y3,ys,h3,hs3,rfl⟩:=seqWs_cons hs2
        cases hs3
        obtain ⟨t3,p3,v3,rfl,q3,r3⟩:=Md.src he I1 a3 h3
        refine ⟨[(t1,p1),(t2,p2),(t3,p3)],rfl,.inr rfl,fun u hu=>?_,o _ G1 H1 e1 (itok_zip3 he q1 q2 q3 r1 r2 r3)⟩
        simp only [List.mem_cons,List.not_mem_nil,or_false] at hu
        rcases hu with rfl | rfl | rfl
        ·exact ⟨_,k1⟩
        ·exact ⟨_,k2⟩
        ·exact ⟨_,sq_same (lp_H I1) q3⟩
  ·cases q
 ·unfold zipR at z
  split at z
  ·split at z <;> cases z
  ·cases z
end
end TP
namespace TP
open PySem L2
section
variable {K:PySem.W.Frag} {EX:EXT} {H0 G H G1 H1 G2 H2:Hp} {ρ:Rho} {σ:St} {d:Mode} {D:Ends} {Q:VK}
theorem Reps.atI {F:Hp} {vs:List V} {ws:List W} {i:Int} {w:W} (r:Reps K F vs ws) (h:L2.atI ws i=some w):∃ v,L2.atI vs i=some v∧Rep K F v w:=by
 unfold L2.atI at h ⊢
 rw [r.length]
 cases q:ixN ws.length i with
 | none=>rw [q] at h; cases h
 | some j=>rw [q] at h; exact Reps.get r h
noncomputable def fIx:W→W→R W
 | .lst ws,.int i=>toR (L2.atI ws i)
 | .tup ws,.int i=>toR (L2.atI ws i)
 | .scr ws,.int i=>toR (L2.atI ws i)
 | _,_=>.stuck
theorem o2_ixU:Op2 K .B .U (rIx K) fIx:=by
 intro EX H0 Hs G H ρ σ Ha Hb x y u v Q I s mx my o
 cases u <;> cases v <;> first | exact o.elim | skip
 ·rename_i ws i
  obtain ⟨a,vs,rfl,hs,r⟩:=mx.tupB I
  replace o:Out EX G H (mdW K .U H0 Hs) (toR (L2.atI ws i)) Q:=o
  cases q:L2.atI ws i with
  | none=>rw [q] at o; exact o.elim
  | some w=>
   rw [q] at o
   obtain ⟨v,hv,rv⟩:=r.atI q
   exact .inr (.inl ⟨a,vs,i,v,rfl,my.intB,SqT.of hs,hv,o v G H (Ext.refl I.gh) rv⟩)
 ·rename_i ws i
  obtain ⟨a,vs,rfl,hs,r⟩:=mx.lstB I
  replace o:Out EX G H (mdW K .U H0 Hs) (toR (L2.atI ws i)) Q:=o
  cases q:L2.atI ws i with
  | none=>rw [q] at o; exact o.elim
  | some w=>
   rw [q] at o
   obtain ⟨v,hv,rv⟩:=r.atI q
   exact .inl ⟨a,vs,i,v,rfl,my.intB,SqL.of hs,hv,o v G H (Ext.refl I.gh) rv⟩
 ·rename_i ws i
  obtain ⟨a,vs,rfl,hs,r⟩:=mx.scrB I
  replace o:Out EX G H (mdW K .U H0 Hs) (toR (L2.atI ws i)) Q:=o
  cases q:L2.atI ws i with
  | none=>rw [q] at o; exact o.elim
  | some w=>
   rw [q] at o
   obtain ⟨v,hv,rv⟩:=r.atI q
   exact .inl ⟨a,vs,i,v,rfl,my.intB,hs,hv,o v G H (Ext.refl I.gh) rv⟩
theorem o2_ixV:Op2 K .C .V (rIx K) fIx:=by
 intro EX H0 Hs G H ρ σ Ha Hb x y u v Q I s mx my o
 cases u <;> cases v <;> first | exact o.elim | skip
 ·rename_i ws i
  obtain ⟨a,vs,rfl,hs,r⟩:=mx.tupC I
  replace o:Out EX G H (mdW K .V H0 Hs) (toR (L2.atI ws i)) Q:=o
  cases q:L2.atI ws i with
  | none=>rw [q] at o; exact o.elim
  | some w=>
   rw [q] at o
   obtain ⟨v,hv,rv⟩:=r.atI q
   exact .inr (.inl ⟨a,vs,i,v,rfl,Md.intB (Md.CB I my),SqT.of hs,hv,o v G H (Ext.refl I.gh) rv⟩)
 ·rename_i ws i
  obtain ⟨a,vs,rfl,hs,r⟩:=mx.lstC I
  replace o:Out EX G H (mdW K .V H0 Hs) (toR (L2.atI ws i)) Q:=o
  cases q:L2.atI ws i with
  | none=>rw [q] at o; exact o.elim
  | some w=>
   rw [q] at o
   obtain ⟨v,hv,rv⟩:=r.atI q
   exact .inl ⟨a,vs,i,v,rfl,Md.intB (Md.CB I my),SqL.of hs,hv,o v G H (Ext.refl I.gh) rv⟩
 ·rename_i ws i
  have mx':Rep K G x (.scr ws):=by
   rcases mx with m | ⟨_,_,_,_,e2,_⟩
   ·exact m
   ·cases e2
  cases mx' with
  | scr hs r=>
   replace o:Out EX G H (mdW K .V H0 Hs) (toR (L2.atI ws i)) Q:=o
   cases q:L2.atI ws i with
   | none=>rw [q] at o; exact o.elim
   | some w=>
    rw [q] at o
    obtain ⟨v,hv,rv⟩:=r.atI q
    exact .inl ⟨_,_,i,v,rfl,Md.intB (Md.CB I my),Same.seq I.gh hs,hv,o v G H (Ext.refl I.gh) rv⟩
noncomputable def tOp_ (K:PySem.W.Frag) (EX:EXT) (m:Rho→R (Option Int)):TO:=fun σ H Q=>∃ H0 G ρ,PIv K H0 G ρ σ H∧Out EX G H (fun (b c:Option Int) _ _=>c=b) (m ρ) Q
noncomputable def partW:W→R (Option Int)
 | .int i=>.ok (some i)
 | _=>.stuck
theorem c_noPart {Q:Option Int→Hp→Prop} (h:tOp_ K EX (fun _=>.ok none) σ H Q):tNoPart σ H Q:=by
 obtain ⟨H0,G,ρ,I,o⟩:=h
 exact o none G H (Ext.refl I.gh) rfl
theorem c_part {m:Rho→R W} {Q:Option Int→Hp→Prop} (h:tOp_ K EX (fun ρ=>m ρ>>=partW) σ H Q):tPart (tM K EX .B m) σ H Q:=by
 obtain ⟨H0,G,ρ,I,o⟩:=h
 refine ⟨H0,G,ρ,I,Out.bind o fun x G1 H1 u e1 m1 o1=>?_⟩
 cases u <;> first | exact o1.elim | skip
 rename_i i
 exact ⟨i,m1.intB,o1 _ G1 H1 (Ext.refl e1.gh) rfl⟩
noncomputable def cutW (xs:List W) (lo hi:Option Int):List W:=(xs.drop (HT.sIx xs.length 0 lo)).take (HT.sIx xs.length xs.length hi-HT.sIx xs.length 0 lo)
theorem Reps.cut {F:Hp} {vs:List V} {ws:List W} (r:Reps K F vs ws) (lo hi:Option Int):Reps K F (cutV vs lo hi) (cutW ws lo hi):=by
 unfold cutV cutW
 rw [r.length]
 exact (r.drop _).take _
noncomputable def lstOf:W→Option (List W)
 | .lst ws=>some ws
 | .scr ws=>some ws
 | _=>none
noncomputable def chks (c:Bool) (ws:List W):R W:=if c||noLs ws then .ok (.lst ws) else .stuck
noncomputable def cb (c:Bool):Mode:=if c then .C else .B
theorem Md.lstOf {c:Bool} {Ha:Hp} {x:V} {w:W} {ws:List W} (I:PIv K H0 G ρ σ H) (m:Md K H0 Ha G H x w (cb c)) (h:lstOf w=some ws):∃ a vs,x=.ref a∧SqL K H a vs∧Reps K (if c then G else join H0 G) vs ws:=by
 cases c with
 | true=>
  rw [if_pos rfl]
  cases w <;> first | cases h | skip
  ·obtain ⟨a,vs,e,hs,r⟩:=Md.lstC (H:=Ha) I m
   exact ⟨a,vs,e,SqL.of hs,r⟩
  ·rcases m with m | ⟨_,_,_,_,e2,_⟩
   ·cases m with
    | scr hs r=>exact ⟨_,_,rfl,Same.seq I.gh hs,r⟩
   ·cases e2
 | false=>
  rw [if_neg Bool.false_ne_true]
  cases w <;> first | cases h | skip
  ·obtain ⟨a,vs,e,hs,r⟩:=Md.lstB (H:=Ha) I m
   exact ⟨a,vs,e,SqL.of hs,r⟩
  ·exact Md.scrB (H:=Ha) I m
theorem Out.chks {c:Bool} {Hs:Hp} {vs:List V} {ws:List W} (I:PIv K H0 G ρ σ H) (s:Same Hs H) (r:Reps K (if c then G else join H0 G) vs ws) (o:Out EX G H (mdW K .F H0 Hs) (chks c ws) Q):∀ p,H p=none→Q (.ref p) (upd H p (.lst vs)):=by
 unfold TP.chks at o
 by_cases n:(c||noLs ws)=true
 ·rw [if_pos n] at o
  have r':Reps K G vs ws:=by
   cases c with
   | true=>rw [if_pos rfl] at r; exact r
   | false=>rw [if_neg Bool.false_ne_true] at r; exact Reps.clean I r (by simpa using n)
  exact fun p hp=>Out.newL I s r' hp o
 ·rw [if_neg n] at o; exact o.elim
theorem c_sl {c:Bool} {m:Rho→R W} {ml mh:Rho→R (Option Int)} (h:tM K EX .F (fun ρ=>m ρ>>=fun x=>ml ρ>>=fun l=>mh ρ>>=fun u=>toR (lstOf x)>>=fun ws=>chks c (cutW ws l u)) σ H Q) :
  tSl (rSlL K) (tM K EX (cb c) m) (tOp_ K EX ml) (tOp_ K EX mh) σ H Q:=by
 obtain ⟨H0,G,ρ,I,o⟩:=h
 refine ⟨H0,G,ρ,I,Out.bind o fun x G1 H1 w e1 m1 o1=>⟨H0,G1,ρ,I.ext e1,Out.bind o1 fun l' G2 H2 l e2 m2 o2=>⟨H0,G2,ρ,(I.ext e1).ext e2,Out.bind o2 fun u' G3 H3 u e3 m3 o3=>?_⟩⟩⟩
 subst m2; subst m3
 have I3:=((I.ext e1).ext e2).ext e3
 cases q:lstOf w with
 | none=>rw [q] at o3; exact o3.elim
 | some ws=>
  rw [q] at o3
  obtain ⟨a,vs,ex,hs,r⟩:=Md.lstOf I3 ((m1.move e2).move e3) q
  refine ⟨a,vs,ex,hs,Out.chks I3 ((e1.hh.trans e2.hh).trans e3.hh) (c:=c) ?_ o3⟩
  cases c with
  | true=>rw [if_pos rfl] at r ⊢; exact r.cut _ _
  | false=>rw [if_neg Bool.false_ne_true] at r ⊢; exact r.cut _ _
noncomputable def Cal (K:PySem.W.Frag) (b d:Mode) (r:List V→Hp→VK→Prop) (f:List W→R W):Prop:=∀ (EX:EXT) (H0 Hs G H:Hp) (ρ:Rho) (σ:St) (Ha:Hp) (vs:List V) (ws:List W) (Q:VK),PIv K H0 G ρ σ H→Same Hs H→MdA K b H0 Ha G H ws vs →
 Out EX G H (mdW K d H0 Hs) (f ws) Q→r vs H Q
theorem c_cb {b:Mode} {r:List V→Hp→VK→Prop} {f:List W→R W} {ma:Rho→R (List W)} (hr:Cal K b d r f) (h:tM K EX d (fun ρ=>ma ρ>>=fun ws=>f ws) σ H Q):tCB r (tA K EX b ma) σ H Q:=by
 obtain ⟨H0,G,ρ,I,o⟩:=h
 exact ⟨H0,G,ρ,I,Out.bind o fun xs G1 H1 ws e1 m1 o1=>hr EX H0 H G1 H1 ρ σ H xs ws Q (I.ext e1) e1.hh m1 o1⟩
noncomputable def fLen:List W→R W
 | [w]=>seqW w>>=fun ws=>.ok (.int ws.length)
 | _=>.stuck
theorem b_len:Cal K .B d (fun xs H Q=>∃ p ys,xs = [.ref p]∧(SqL K H p ys∨SqT K H p ys)∧Q (.int ys.length) H) fLen:=by
 intro EX H0 Hs G H ρ σ Ha vs ws Q I s m o
 cases m with
 | nil=>exact o.elim
 | cons a t=>
  cases t with
  | cons _ _=>exact o.elim
  | nil=>
   rename_i w v
   cases w <;> first | exact o.elim | skip
   ·obtain ⟨p,ys,rfl,hs,r⟩:=a.tupB I
    exact ⟨p,ys,rfl,.inr (SqT.of hs),by rw [r.length]; exact o _ G H (Ext.refl I.gh) (Md.sca rfl (fun _=>.int) d)⟩
   ·obtain ⟨p,ys,rfl,hs,r⟩:=a.lstB I
    exact ⟨p,ys,rfl,.inl (SqL.of hs),by rw [r.length]; exact o _ G H (Ext.refl I.gh) (Md.sca rfl (fun _=>.int) d)⟩
   ·obtain ⟨p,ys,rfl,hs,r⟩:=a.scrB I
    exact ⟨p,ys,rfl,.inl hs,by rw [r.length]; exact o _ G H (Ext.refl I.gh) (Md.sca rfl (fun _=>.int) d)⟩
noncomputable def fList (c:Bool):List W→R W
 | [w]=>seqW w>>=chks c
 | _=>.stuck
theorem b_list {c:Bool}:Cal K (cb c) .F (fun xs H Q=>∃ p ys,xs = [.ref p]∧(SqL K H p ys∨SqT K H p ys)∧∀ l,H l=none→Q (.ref l) (upd H l (.lst ys))) (fList c):=by
 intro EX H0 Hs G H ρ σ Ha vs ws Q I s m o
 cases m with
 | nil=>exact o.elim
 | cons a t=>
  cases t with
  | cons _ _=>exact o.elim
  | nil=>
   rename_i w v
   cases w <;> first | exact o.elim | skip
   ·rename_i us
    cases c with
    | true=>
     obtain ⟨p,ys,rfl,hs,r⟩:=Md.tupC (H:=Ha) I a
     exact ⟨p,ys,rfl,.inr (SqT.of hs),Out.chks (c:=true) I s r o⟩
    | false=>
     obtain ⟨p,ys,rfl,hs,r⟩:=Md.tupB (H:=Ha) I a
     exact ⟨p,ys,rfl,.inr (SqT.of hs),Out.chks (c:=false) I s r o⟩
   ·obtain ⟨p,ys,rfl,hs,r⟩:=Md.lstOf I a rfl
    exact ⟨p,ys,rfl,.inl hs,Out.chks I s r o⟩
   ·obtain ⟨p,ys,rfl,hs,r⟩:=Md.lstOf I a rfl
    exact ⟨p,ys,rfl,.inl hs,Out.chks I s r o⟩
noncomputable def chkT (c:Bool) (ws:List W):R W:=if c||noLs ws then .ok (.tup ws) else .stuck
noncomputable def fTup (c:Bool):List W→R W
 | [w]=>seqW w>>=chkT c
 | _=>.stuck
theorem b_tup {c:Bool}:Cal K (cb c) .F (fun xs H Q=>∃ p ys,xs = [.ref p]∧((SqL K H p ys∧∀ l,H l=none→Q (.ref l) (upd H l (.tup ys)))∨(SqT K H p ys∧Q (.ref p) H))) (fTup c):=by
 intro EX H0 Hs G H ρ σ Ha vs ws Q I s m o
 have key:∀ {vs:List V} {us:List W},Reps K (if c then G else join H0 G) vs us→Out EX G H (mdW K .F H0 Hs) (chkT c us) Q→Reps K G vs us∧Out EX G H (mdW K .F H0 Hs) (.ok (.tup us)) Q:=fun {vs us} r o=>by
  unfold chkT at o
  by_cases n:(c||noLs us)=true
  ·rw [if_pos n] at o
   refine ⟨?_,o⟩
   cases c with
   | true=>rw [if_pos rfl] at r; exact r
   | false=>rw [if_neg Bool.false_ne_true] at r; exact Reps.clean I r (by simpa using n)
  ·rw [if_neg n] at o; exact o.elim
 cases m with
 | nil=>exact o.elim
 | cons a t=>
  cases t with
  | cons _ _=>exact o.elim
  | nil=>
   rename_i w v
   cases w <;> first | exact o.elim | skip
   ·rename_i us
    have hx:∃ p ys,v=.ref p∧(if c then G else join H0 G) p=some (.tup ys)∧Reps K (if c then G else join H0 G) ys us:=by
     cases c with
     | true=>
      rw [if_pos rfl]
      rcases a with a | ⟨_,_,_,_,e2,_⟩
      ·cases a with
       | tup h r=>exact ⟨_,_,rfl,h,r⟩
      ·cases e2
     | false=>
      rw [if_neg Bool.false_ne_true]
      rcases a with a | ⟨_,_,_,_,e2,_⟩
      ·cases a with
       | tup h r=>exact ⟨_,_,rfl,h,r⟩
      ·cases e2
    obtain ⟨p,ys,rfl,hp,r⟩:=hx
    obtain ⟨r',o'⟩:=key r o
    have hH:H p=some (.tup ys):=by
     cases c with
     | true=>rw [if_pos rfl] at hp; exact I.gh _ _ hp
     | false=>rw [if_neg Bool.false_ne_true] at hp; exact I.join_H _ _ hp
    have hG:G p=some (.tup ys):=by
     cases c with
     | true=>rw [if_pos rfl] at hp; exact hp
     | false=>
      rw [if_neg Bool.false_ne_true] at hp
      unfold join at hp
      cases q:H0 p with
      | none=>rw [q] at hp; exact hp
      | some u=>
       rw [q] at hp
       dsimp only at hp
       by_cases hl:isL u=true
       ·rw [if_pos hl] at hp; cases hp; cases hl
       ·rw [if_neg hl] at hp; exact hp
    exact ⟨p,ys,rfl,.inr ⟨SqT.of hH,o' _ G H (Ext.refl I.gh) (.tup hG r')⟩⟩
   ·obtain ⟨p,ys,rfl,hs,r⟩:=Md.lstOf I a rfl
    obtain ⟨r',o'⟩:=key r o
    exact ⟨p,ys,rfl,.inl ⟨hs,fun l hl=>Out.newTF I r' hl o'⟩⟩
   ·obtain ⟨p,ys,rfl,hs,r⟩:=Md.lstOf I a rfl
    obtain ⟨r',o'⟩:=key r o
    exact ⟨p,ys,rfl,.inl ⟨hs,fun l hl=>Out.newTF I r' hl o'⟩⟩
noncomputable def f2 (g:Int→Int→Int):List W→R W
 | [.int i,.int j]=>.ok (.int (g i j))
 | _=>.stuck
theorem b_2 {g:Int→Int→Int}:Cal K .B d (fun xs H Q=>∃ i j,xs = [.int i,.int j]∧Q (.int (g i j)) H) (f2 g):=by
 intro EX H0 Hs G H ρ σ Ha vs ws Q I s m o
 unfold f2 at o
 split at o
 ·cases m with
  | cons a t=>
   cases t with
   | cons b t=>
    cases t
    exact ⟨_,_,by rw [a.intB,b.intB],o _ G H (Ext.refl I.gh) (Md.sca rfl (fun _=>.int) d)⟩
 ·exact o.elim
noncomputable def tyW:W→Option String
 | .non=>some "NoneType"
 | .bl _=>some "bool"
 | .int _=>some "int"
 | .str _=>some "str"
 | .tup _=>some "tuple"
 | .lst _=>some "list"
 | _=>none
noncomputable def fIsi:List W→R W
 | [x,.ty T]=>toR ((tyW x).bind fun A=>isiB A T)>>=fun b=>.ok (.bl b)
 | _=>.stuck
theorem tyW_of {Ha:Hp} {v:V} {w:W} {A:String} (I:PIv K H0 G ρ σ H) (m:Md K H0 Ha G H v w .B) (h:tyW w=some A):L2.tyB H v=some A:=by
 cases w <;> first | cases h | skip
 ·rw [m.nonB]; rfl
 ·rw [m.blB]; rfl
 ·rw [m.intB]; rfl
 ·rw [m.strB]; rfl
 ·obtain ⟨a,vs,rfl,hs,r⟩:=m.tupB I
  show (match H a with
   | some (.lst _)=>some "list"
   | some (.tup _)=>some "tuple"
   | some (.dK _)=>some "dict"
   | _=>none)=_
  rw [hs]
 ·obtain ⟨a,vs,rfl,hs,r⟩:=m.lstB I
  show (match H a with
   | some (.lst _)=>some "list"
   | some (.tup _)=>some "tuple"
   | some (.dK _)=>some "dict"
   | _=>none)=_
  rw [hs]
theorem b_isi:Cal K .B d rIsi fIsi:=by
 intro EX H0 Hs G H ρ σ Ha vs ws Q I s m o
 unfold fIsi at o
 split at o
 ·rename_i x T
  cases m with
  | cons a t=>
   cases t with
   | cons b t=>
    cases t
    cases q:tyW x with
    | none=>rw [q] at o; exact o.elim
    | some A=>
     rw [q] at o
     replace o:Out EX G H (mdW K d H0 Hs) (toR (isiB A T)>>=fun b=>.ok (.bl b)) Q:=o
     cases q2:isiB A T with
     | none=>rw [q2] at o; exact o.elim
     | some c=>
      rw [q2] at o
      exact ⟨_,T,by rw [b.tyB],A,tyW_of I a q,c,q2,o _ G H (Ext.refl I.gh) (Md.sca rfl (fun _=>.bl) d)⟩
 ·exact o.elim
noncomputable def fCat (c:Bool):W→W→R W
 | .lst us,.lst vs=>if us.length+vs.length≤1000 then chks c (us++vs) else .stuck
 | _,_=>.stuck
theorem o2_cat {c:Bool}:Op2 K (cb c) .F rCat (fCat c):=by
 intro EX H0 Hs G H ρ σ Ha Hb x y u v Q I s mx my o
 cases u <;> cases v <;> first | exact o.elim | skip
 rename_i us vs
 replace o:Out EX G H (mdW K .F H0 Hs) (if us.length+vs.length≤1000 then chks c (us++vs) else .stuck) Q:=o
 by_cases hn:us.length+vs.length≤1000
 ·rw [if_pos hn] at o
  have h1:∃ a ws,x=.ref a∧H a=some (.lst ws)∧Reps K (if c then G else join H0 G) ws us:=by
   cases c with
   | true=>exact Md.lstC (H:=Ha) I mx
   | false=>exact Md.lstB (H:=Ha) I mx
  have h2:∃ a ws,y=.ref a∧H a=some (.lst ws)∧Reps K (if c then G else join H0 G) ws vs:=by
   cases c with
   | true=>exact Md.lstC (H:=Hb) I my
   | false=>exact Md.lstB (H:=Hb) I my
  obtain ⟨a,xs,rfl,ha,ra⟩:=h1
  obtain ⟨b,ys,rfl,hb,rb⟩:=h2
  exact ⟨a,b,xs,ys,rfl,rfl,ha,hb,by rw [ra.length,rb.length]; exact le_line hn,Out.chks I s (ra.append rb) o⟩
 ·rw [if_neg hn] at o; exact o.elim
theorem Reps.rep {F:Hp} {vs:List V} {ws:List W} (r:Reps K F vs ws):∀ k:Nat,Reps K F (List.replicate k vs).flatten (List.replicate k ws).flatten
 | 0=>.nil
 | k+1=>by rw [List.replicate_succ,List.replicate_succ,List.flatten_cons,List.flatten_cons]; exact r.append (Reps.rep r k)
noncomputable def fRep (c:Bool):W→W→R W
 | .lst us,.int k=>if us.length*k.toNat≤1000 ∧ -1000≤k∧k≤1000 then chks c (List.replicate k.toNat us).flatten else .stuck
 | _,_=>.stuck
theorem o2_rep {c:Bool}:Op2 K (cb c) .F rRep (fRep c):=by
 intro EX H0 Hs G H ρ σ Ha Hb x y u v Q I s mx my o
 cases u <;> cases v <;> first | exact o.elim | skip
 rename_i us k
 replace o:Out EX G H (mdW K .F H0 Hs) (if us.length*k.toNat≤1000 ∧ -1000≤k∧k≤1000 then chks c (List.replicate k.toNat us).flatten else .stuck) Q:=o
 by_cases hn:us.length*k.toNat≤1000 ∧ -1000≤k∧k≤1000
 ·rw [if_pos hn] at o
  have h1:∃ a ws,x=.ref a∧H a=some (.lst ws)∧Reps K (if c then G else join H0 G) ws us:=by
   cases c with
   | true=>exact Md.lstC (H:=Ha) I mx
   | false=>exact Md.lstB (H:=Ha) I mx
  have h2:y=.int k:=by
   cases c with
   | true=>exact Md.intB (Md.CB (H:=Hb) I my)
   | false=>exact Md.intB (H:=Hb) my
  obtain ⟨a,xs,rfl,ha,ra⟩:=h1
  subst h2
  exact ⟨a,k,xs,rfl,rfl,ha,by omega,by omega,by rw [ra.length]; exact le_line hn.1,Out.chks I s (ra.rep _) o⟩
 ·rw [if_neg hn] at o; exact o.elim
end
end TP
set_option Elab.async false
set_option linter.all false
set_option maxRecDepth 100000
namespace TP
open PySem L2
noncomputable def mC (w:W):Rho→R W:=fun _=>.ok w
noncomputable def b1 (f:W→R W) (ma:Rho→R W):Rho→R W:=fun ρ=>ma ρ>>=fun x=>f x
noncomputable def b2 (f:W→W→R W) (ma mb:Rho→R W):Rho→R W:=fun ρ=>ma ρ>>=fun x=>mb ρ>>=fun y=>f x y
noncomputable def bA (f:List W→R W) (ma:Rho→R (List W)):Rho→R W:=fun ρ=>ma ρ>>=fun ws=>f ws
noncomputable def bI (f:List W→R (List W)) (ma:Rho→R (List W)):Rho→R (List W):=fun ρ=>ma ρ>>=f
noncomputable def bS (ma:Rho→R W):Rho→R (List W):=fun ρ=>ma ρ>>=seqW
noncomputable def aN:Rho→R (List W):=fun _=>.ok []
noncomputable def aC (ma:Rho→R W) (mr:Rho→R (List W)):Rho→R (List W):=fun ρ=>ma ρ>>=fun x=>mr ρ>>=fun xs=>.ok (x::xs)
noncomputable def bChk (ma:Rho→R W):Rho→R W:=fun ρ=>ma ρ>>=chk
noncomputable def bTest (ma:Rho→R W):Rho→R Bool:=fun ρ=>ma ρ>>=toB
noncomputable def tAnd' (a b:Rho→R Bool):Rho→R Bool:=fun ρ=>rAnd (a ρ) (b ρ)
noncomputable def tOr' (a b:Rho→R Bool):Rho→R Bool:=fun ρ=>rOr (a ρ) (b ρ)
noncomputable def tNot' (a:Rho→R Bool):Rho→R Bool:=fun ρ=>rNot (a ρ)
noncomputable def vAnd (a b:Rho→R W):Rho→R W:=fun ρ=>rAndV (a ρ) (b ρ)
noncomputable def vOr (a b:Rho→R W):Rho→R W:=fun ρ=>rOrV (a ρ) (b ρ)
noncomputable def vNot (a:Rho→R W):Rho→R W:=fun ρ=>rNotV (a ρ)
noncomputable def vIf (c:Rho→R Bool) (a b:Rho→R W):Rho→R W:=fun ρ=>c ρ>>=fun t=>if t then a ρ else b ρ
noncomputable def vChain (f f':W→W→R W) (ma mb mc:Rho→R W):Rho→R W:=fun ρ=>ma ρ>>=fun x=>mb ρ>>=fun y=>f x y>>=fun z=>toB z>>=fun c=>if c then mc ρ>>=fun u=>f' y u else .ok (.bl false)
noncomputable def vTup (ma:Rho→R (List W)):Rho→R W:=fun ρ=>ma ρ>>=fun ws=>lim ws.length (.tup ws)
noncomputable def vLst (ma:Rho→R (List W)):Rho→R W:=fun ρ=>ma ρ>>=fun ws=>lim ws.length (.lst ws)
noncomputable def pN:Rho→R (Option Int):=fun _=>.ok none
noncomputable def pS (m:Rho→R W):Rho→R (Option Int):=fun ρ=>m ρ>>=partW
noncomputable def vSl (c:Bool) (m:Rho→R W) (ml mh:Rho→R (Option Int)):Rho→R W:=fun ρ=>m ρ>>=fun x=>ml ρ>>=fun l=>mh ρ>>=fun u=>toR (lstOf x)>>=fun ws=>chks c (cutW ws l u)
noncomputable def vComp (n:Nat) (mi:Rho→R (List W)) (mg:W→Rho→Option Rho) (mc:Rho→R Bool) (me:Rho→R W):Rho→R W:=fun ρ=>mi ρ>>=fun ws=>mComp n mg mc me ws ρ
noncomputable def yes:Rho→R Bool:=fun _=>.ok true
noncomputable def sNx:Rho→R Fl:=fun ρ=>.ok (.nx ρ)
noncomputable def sDrop (m:Rho→R W):Rho→R Fl:=fun ρ=>m ρ>>=fun _=>.ok (.nx ρ)
noncomputable def sRet (m:Rho→R W):Rho→R Fl:=fun ρ=>m ρ>>=fun w=>.ok (.rt w)
noncomputable def sRetN:Rho→R Fl:=fun _=>.ok (.rt .non)
noncomputable def sV (i:Nat) (m:Rho→R W):Rho→R Fl:=fun ρ=>m ρ>>=fun w=>.ok (.nx (ρ.set i (.val w)))
noncomputable def sU (i:Nat) (m:Rho→R W):Rho→R Fl:=fun ρ=>m ρ>>=fun w=>.ok (.nx (ρ.set i (.par w)))
noncomputable def sF (i:Nat) (m:Rho→R W):Rho→R Fl:=fun ρ=>m ρ>>=fun w=>.ok (.nx (ρ.set i (slotF w)))
noncomputable def sG (mg:W→Rho→Option Rho) (m:Rho→R W):Rho→R Fl:=fun ρ=>m ρ>>=fun w=>toR (mg w ρ)>>=fun ρ'=>.ok (.nx ρ')
noncomputable def sFor (mi:Rho→R (List W)) (mg:W→Rho→Option Rho) (mb:Rho→R Fl):Rho→R Fl:=fun ρ=>mi ρ>>=fun ws=>mFor mg mb ws ρ
noncomputable def sFrz (i:Nat) (m:Rho→R Fl):Rho→R Fl:=fun ρ=>m (frz i ρ)
noncomputable def sNever:Rho→R Fl:=fun _=>.stuck
noncomputable def sBk:Rho→R Fl:=fun ρ=>.ok (.bk ρ)
noncomputable def sCt:Rho→R Fl:=fun ρ=>.ok (.ct ρ)
section
variable {X:Cx} {e:Expr} {es:List Expr} {st:Stmt} {sts:List Stmt}
theorem _root_.L2.PE.mono {t t':TE} (h:PE X e t) (hm:∀ σ H Q,t' σ H Q→t σ H Q):PE X e t':=fun pins s σ H Q I q=>h pins s σ H Q I (hm σ H Q q)
theorem _root_.L2.PT.mono {t t':TT} (h:PT X e t) (hm:∀ σ H Q,t' σ H Q→t σ H Q):PT X e t':=fun pins s σ H Q I q=>h pins s σ H Q I (hm σ H Q q)
theorem _root_.L2.PW.mono {t t':TT} (h:PW X e t) (hm:∀ σ H Q,t' σ H Q→t σ H Q):PW X e t':=fun wh pins s σ H Q I q=>h wh pins s σ H Q I (hm σ H Q q)
theorem _root_.L2.PA.mono {t t':TA} (h:PA X es t) (hm:∀ σ H Q,t' σ H Q→t σ H Q):PA X es t':=fun pos pins s σ H Q I q=>h pos pins s σ H Q I (hm σ H Q q)
theorem _root_.L2.PS.mono {t t':TS} (h:PS X st t) (hm:∀ D σ H,t' D σ H→t D σ H):PS X st t':=fun pins s σ H D I q=>h pins s σ H D I (hm D σ H q)
theorem _root_.L2.PSs.mono {t t':TS} (h:PSs X sts t) (hm:∀ D σ H,t' D σ H→t D σ H):PSs X sts t':=fun pins s σ H D I q=>h pins s σ H D I (hm D σ H q)
theorem _root_.L2.PI.mono {tg:Expr} {t t':TI} (h:PI X tg e t) (hm:∀ σ H Q,t' σ H Q→t σ H Q):PI X tg e t':=fun pins s σ H Q I q=>h pins s σ H Q I (hm σ H Q q)
theorem _root_.L2.PO.mono {oe:Option Expr} {t t':TO} (h:PO X oe t) (hm:∀ σ H Q,t' σ H Q→t σ H Q):PO X oe t':=by
 intro pins s σ H Q I q
 exact h pins s σ H Q I (hm σ H Q q)
end
section
variable {X:Cx} {K:PySem.W.Frag} {EX:EXT} {d b:Mode} {a c e:Expr} {es rest:List Expr} {pos:Pos} {ma mb mc:Rho→R W} {ta tb:Rho→R Bool} {mr:Rho→R (List W)}
theorem q_FV (h:PE X e (tM K EX .F ma)):PE X e (tM K EX .V ma):=h.mono fun _ _ _ q=>mode_FV q
theorem q_VU (h:PE X e (tM K EX .V ma)):PE X e (tM K EX .U ma):=h.mono fun _ _ _ q=>mode_VU q
theorem q_VC (h:PE X e (tM K EX .V ma)):PE X e (tM K EX .C ma):=h.mono fun _ _ _ q=>mode_VC q
theorem q_FC (h:PE X e (tM K EX .F ma)):PE X e (tM K EX .C ma):=h.mono fun _ _ _ q=>mode_FC q
theorem q_UB (h:PE X e (tM K EX .U ma)):PE X e (tM K EX .B ma):=h.mono fun _ _ _ q=>mode_UB q
theorem q_CB (h:PE X e (tM K EX .C ma)):PE X e (tM K EX .B ma):=h.mono fun _ _ _ q=>mode_CB q
theorem q_chkV (h:PE X e (tM K EX .U ma)):PE X e (tM K EX .V (bChk ma)):=h.mono fun _ _ _ q=>mode_chk (.inr rfl) q
theorem q_chkF (h:PE X e (tM K EX .U ma)):PE X e (tM K EX .F (bChk ma)):=h.mono fun _ _ _ q=>mode_chk (.inl rfl) q
theorem qv (d:Mode) (i:Nat) {x:Str} (hN:X.N[i]?=some x:=by rfl) (hv:Vis X.env.scope x:=by first | exact Or.inl rfl | exact Or.inr (Or.inl rfl) | exact Or.inr (Or.inr rfl)) (hd:(x == ("__debug__" : Str))=false:=by decide)
  (hcd:(x == ("__classdict__" : Str))=false:=by decide):PE X (.Name x pos) (tM K EX d (mVar d i)):=(pe_var hN hv hd hcd).mono fun _ _ _ q=>c_var q
theorem q_int {i j}:PE X (.Constant (.int i) j pos) (tM K EX d (mC (.int i))):=pe_int.mono fun _ _ _ q=>c_const rfl (fun _=>.int) q
theorem q_bl {t j}:PE X (.Constant (.bool t) j pos) (tM K EX d (mC (.bl t))):=pe_bl.mono fun _ _ _ q=>c_const rfl (fun _=>.bl) q
theorem q_non {j}:PE X (.Constant .none j pos) (tM K EX d (mC .non)):=pe_non.mono fun _ _ _ q=>c_const rfl (fun _=>.non) q
theorem q_ty {x:Str} {n:String} (hg:Gl X x) (hm:X.mg x=none) (hv:bootBuiltins x=some (.type n)) (hn:x ≠ "__name__" := by decide) (hd:(x == ("__debug__" : Str))=false:=by decide):PE X (.Name x pos) (tM K EX d (mC (.ty n))):=
 (pe_bltn (v:=.ty n) hg hm hv rfl hn hd).mono fun _ _ _ q=>c_const rfl (fun _=>.ty) q
theorem q_op {op:Operator} {r:R2} {f:W→W→R W} (ho:OpR X (binaryOp op) r) (hr:Op2 K b d r f) (ha:PE X a (tM K EX b ma)) (hb:PE X c (tM K EX b mb)):PE X (.BinOp a op c pos) (tM K EX d (b2 f ma mb)):=
 (pe_op ho ha hb).mono fun _ _ _ q=>c_op hr q
theorem q_cmp {op:CmpOp} {r:R2} {f:W→W→R W} (ho:OpR X (compareOp op) r) (hr:Op2 K b d r f) (ha:PE X a (tM K EX b ma)) (hb:PE X c (tM K EX b mb)) (hm:behindInMarks op c=false:=by first | exact nomark _ | rfl):PE X (.Compare a [op] [c] pos) (tM K EX d (b2 f ma mb)):=
 (pe_cmpR ho ha hb hm).mono fun _ _ _ q=>c_op hr q
theorem q_tcmp {op:CmpOp} {r:R2} {f:W→W→R W} (ho:OpR X (compareOp op) r) (hr:Op2 K b .B r f) (ha:PE X a (tM K EX b ma)) (hb:PE X c (tM K EX b mb)) (hm:behindInMarks op c=false:=by first | exact nomark _ | rfl):PT X (.Compare a [op] [c] pos) (tT K EX (bTest (b2 f ma mb))):=
 (pt_cmpR ho ha hb hm).mono fun σ H Q q=>by
  obtain ⟨H0,G,ρ,I,o⟩:=q
  have:=c_test (ma:=b2 f ma mb) ⟨H0,G,ρ,I,o⟩
  exact c_op hr this
theorem q_un {op:UnaryOp} {r:V→Hp→VK→Prop} {f:W→R W} (ho:UnR X (unaryOp op) r) (hr:Op1 K b d r f) (ha:PE X a (tM K EX b ma)):PE X (.UnaryOp op a pos) (tM K EX d (b1 f ma)):=
 (pe_un ho ha).mono fun _ _ _ q=>c_un hr q
theorem q_val (ha:PE X a (tM K EX .B ma)) (he:∀ whole,isTrue a X.env whole=(do let v ← whole; standAt a.pos; holding [v] (truthy v)):=by intro _; rfl):PT X a (tT K EX (bTest ma)):=
 (pt_val ha he).mono fun _ _ _ q=>c_tB q
theorem q_tand1 (ha:PT X a (tT K EX ta)):PW X (.BoolOp .And [a] pos) (tT K EX ta):=pw_and1 ha
theorem q_tor1 (ha:PT X a (tT K EX ta)):PW X (.BoolOp .Or [a] pos) (tT K EX ta):=pw_or1 ha
theorem q_tand {b:Expr} (ha:PT X a (tT K EX ta)) (hb:PW X (.BoolOp .And (b::rest) pos) (tT K EX tb)):PW X (.BoolOp .And (a::b::rest) pos) (tT K EX (tAnd' ta tb)):=(pw_and ha hb).mono fun _ _ _ q=>c_and q
theorem q_tor {b:Expr} (ha:PT X a (tT K EX ta)) (hb:PW X (.BoolOp .Or (b::rest) pos) (tT K EX tb)):PW X (.BoolOp .Or (a::b::rest) pos) (tT K EX (tOr' ta tb)):=(pw_or ha hb).mono fun _ _ _ q=>c_or q
theorem q_tnot (ha:PT X a (tT K EX ta)):PT X (.UnaryOp .Not a pos) (tT K EX (tNot' ta)):=(pt_not ha).mono fun _ _ _ q=>c_not q
theorem q_one {op} (h:PE X a (tM K EX d ma)):PE X (.BoolOp op [a] pos) (tM K EX d ma):=pe_one h
theorem q_and {b:Expr} (ha:PE X a (tM K EX .B ma)) (hb:PE X (.BoolOp .And (b::rest) pos) (tM K EX d mb)):PE X (.BoolOp .And (a::b::rest) pos) (tM K EX d (vAnd ma mb)):=(pe_and ha hb).mono fun _ _ _ q=>c_andV q
theorem q_not (ha:PE X a (tM K EX .B ma)):PE X (.UnaryOp .Not a pos) (tM K EX d (vNot ma)):=(pe_not ha).mono fun _ _ _ q=>c_notV q
theorem q_if {t:Expr} (ht:PT X t (tT K EX ta)) (ha:PE X a (tM K EX d ma)) (hb:PE X c (tM K EX d mb)):PE X (.IfExp t a c pos) (tM K EX d (vIf ta ma mb)):=(pe_ifExp ht ha hb).mono fun _ _ _ q=>c_if q
theorem q_chain {op op':CmpOp} {r r':R2} {f f':W→W→R W} {x y z:Expr} (ho:OpR X (compareOp op) r) (hr:Op2 K b .B r f) (ho':OpR X (compareOp op') r') (hr':Op2 K b d r' f') (ha:PE X x (tM K EX b ma)) (hb:PE X y (tM K EX b mb)) (hc:PE X z (tM K EX b mc))
  (hm:lastMarks [op,op'] [y,z]=false:=by with_unfolding_all rfl):PE X (.Compare x [op,op'] [y,z] pos) (tM K EX d (vChain f f' ma mb mc)):=
 (pe_chain ho ho' ha hb hc hm).mono fun _ _ _ q=>c_chain hr hr' q
theorem q_anil:PA X [] (tA K EX d aN):=pa_nil.mono fun _ _ _ q=>c_nil q
theorem q_acons (ha:PE X e (tM K EX d ma)) (hr:PA X es (tA K EX d mr)) (hs:starEach (e::es) X.env=(false,eval e X.env)::starEach es X.env:=by rfl):PA X (e::es) (tA K EX d (aC ma mr)):=(pa_cons ha hr hs).mono fun _ _ _ q=>c_cons q
theorem q_tup {x1} (h:PA X es (tA K EX .V mr)):PE X (.Tuple es x1 pos) (tM K EX .F (vTup mr)):=(pe_tup h).mono fun _ _ _ q=>c_tup q
theorem q_tupU {x1} (h:PA X es (tA K EX .U mr)):PE X (.Tuple es x1 pos) (tM K EX .U (vTup mr)):=(pe_tup h).mono fun _ _ _ q=>c_tupU q
theorem q_lst (h:PA X es (tA K EX .V mr)):PE X (.List es pos) (tM K EX .F (vLst mr)):=(pe_lst h).mono fun _ _ _ q=>c_lst q
theorem q_ixU (ha:PE X a (tM K EX .B ma)) (hb:PE X c (tM K EX .B mb)) (hs:PlainIx c:=by exact fun _ _=>rfl) (hK:X.K=K:=by rfl):PE X (.Subscript a c pos) (tM K EX .U (b2 fIx ma mb)):=by
 subst hK; exact (pe_ix ix_seq ha hb hs).mono fun _ _ _ q=>c_op o2_ixU q
theorem q_ixV (ha:PE X a (tM K EX .C ma)) (hb:PE X c (tM K EX .C mb)) (hs:PlainIx c:=by exact fun _ _=>rfl) (hK:X.K=K:=by rfl):PE X (.Subscript a c pos) (tM K EX .V (b2 fIx ma mb)):=by
 subst hK; exact (pe_ix ix_seq ha hb hs).mono fun _ _ _ q=>c_op o2_ixV q
theorem q_pN:PO X none (tOp_ K EX pN):=po_none.mono fun _ _ _ q=>c_noPart q
theorem q_pS (h:PE X e (tM K EX .B ma)):PO X (some e) (tOp_ K EX (pS ma)):=(po_some h).mono fun _ _ _ q=>c_part q
theorem q_sl (k:Bool) {lo hi:Option Expr} {p2:Pos} {ml mh:Rho→R (Option Int)} (he:PE X e (tM K EX (cb k) ma)) (hl:PO X lo (tOp_ K EX ml)) (hu:PO X hi (tOp_ K EX mh)) (hK:X.K=K:=by rfl):PE X (.Subscript e (.Slice lo hi none p2) pos) (tM K EX .F (vSl k ma ml mh)):=by
 subst hK; exact (pe_slice sl_list he hl hu).mono fun _ _ _ q=>c_sl q
theorem q_cb {x:Str} {id:String} {r:List V→Hp→VK→Prop} {f:List W→R W} {p:Pos} (hc:CallR X (.builtin id) r) (hr:Cal K b d r f) (hg:Gl X x) (hm:X.mg x=none) (hv:bootBuiltins x=some (.builtin id)) (ha:PA X (e::es) (tA K EX b mr))
  (hn:x ≠ "__name__" := by decide) (hdb:(x == ("__debug__" : Str))=false:=by decide) (he:starEach (e::es) X.env=(false,eval e X.env)::starEach es X.env:=by rfl) (hpl:(backTo pos (starEach es X.env)).any (·.1)=false:=by rfl) :
  PE X (.Call (.Name x p) (e::es) [] pos) (tM K EX d (bA f mr)):=(pe_callB hc hg hm hv ha hn hdb he hpl).mono fun _ _ _ q=>c_cb hr q
theorem q_ct {x:Str} {T:String} {r:List V→Hp→VK→Prop} {f:List W→R W} {p:Pos} (hc:CallR X (.type T) r) (hr:Cal K b d r f) (hg:Gl X x) (hm:X.mg x=none) (hv:bootBuiltins x=some (.type T)) (ha:PA X (e::es) (tA K EX b mr))
  (hn:x ≠ "__name__" := by decide) (hdb:(x == ("__debug__" : Str))=false:=by decide) (he:starEach (e::es) X.env=(false,eval e X.env)::starEach es X.env:=by rfl) (hpl:(backTo pos (starEach es X.env)).any (·.1)=false:=by rfl) :
  PE X (.Call (.Name x p) (e::es) [] pos) (tM K EX d (bA f mr)):=(pe_callTy hc hg hm hv ha hn hdb he hpl).mono fun _ _ _ q=>c_cb hr q
theorem K_len (hK:X.K=K:=by rfl):CallR X (.builtin "len") (fun xs H Q=>∃ p ys,xs = [.ref p]∧(SqL K H p ys∨SqT K H p ys)∧Q (.int ys.length) H):=by subst hK; exact call_len_seq
theorem K_list (hK:X.K=K:=by rfl):CallR X (.type "list") (fun xs H Q=>∃ p ys,xs = [.ref p]∧(SqL K H p ys∨SqT K H p ys)∧∀ l,H l=none→Q (.ref l) (upd H l (.lst ys))):=by subst hK; exact call_list_of
theorem K_tup (hK:X.K=K:=by rfl):CallR X (.type "tuple") (fun xs H Q=>∃ p ys,xs = [.ref p]∧((SqL K H p ys∧∀ l,H l=none→Q (.ref l) (upd H l (.tup ys)))∨(SqT K H p ys∧Q (.ref p) H))):=by subst hK; exact call_tuple_of
theorem q_call {k:Nat} {f:Addr} {fd:FuncData} {ps:List Str} {x:Str} {p:Pos} {n N:Nat} {m:Rho→R Fl} (F:FnOk X.prog X.w X.K X.mg X.base CX0 k f fd ps (spM K n d (runB n N m))) (hd:d=.F∨d=.V) (hr:Room k X.A) (hg:Gl X x) (hm:X.mg x=some (.ref f)) (hk:PySem.W.keepIn X.K (.ref f)=true) (hb:Binds X.K fd ps [])
  (ha:PA X (e::es) (tA K (fun _ _=>False) .B mr)) (hdb:(x == ("__debug__" : Str))=false:=by decide) (he:starEach (e::es) X.env=(false,eval e X.env)::starEach es X.env:=by rfl) (hpl:(backTo pos (starEach es X.env)).any (·.1)=false:=by rfl) :
  PE X (.Call (.Name x p) (e::es) [] pos) (tM K (fun _ _=>False) d (bA (runB n N m) mr)):=
 (pe_call F hr hg hm hk hb .nil pass0 ha hdb he hpl).mono fun _ _ _ q=>c_call hd (fun ws h=>runB_len ws h) (fun _ _ z=>z) q
variable {tg:Expr} {lp:Bool}
theorem q_iSq (h:PE X e (tM K EX (srcM lp .U) ma)) (hK:X.K=K:=by rfl):PI X tg e (tIt K EX lp .U (bS ma)):=by subst hK; exact (pi_sq h).mono fun _ _ _ q=>c_iSq (.inr rfl) q
theorem q_rng1 {p:Pos} (hg:Gl X "range") (hm:X.mg "range" = none) (ha:PA X [a] (tA K EX .B mr)) (hs:starEach [a] X.env = [(false,eval a X.env)]:=by rfl):PI X tg (.Call (.Name "range" p) [a] [] pos) (tIt K EX lp .U (bI rng1 mr)):=
 (pi_range1 hg hm ha hs).mono fun _ _ _ q=>c_rng1 (.inr rfl) q
theorem q_zip {elts:List Expr} {p tp:Pos} {k:Nat} (hg:Gl X "zip") (hm:X.mg "zip" = none) (ha:PA X (a::es) (tA K EX (srcM lp .U) mr)) (hK:X.K=K:=by rfl) (hs:starEach (a::es) X.env=(false,eval a X.env)::starEach es X.env:=by rfl) (hpl:(backTo pos (starEach es X.env)).any (·.1)=false:=by rfl) :
  PI X (.Tuple elts k tp) (.Call (.Name "zip" p) (a::es) [] pos) (tIt K EX lp .U (bI zipR mr)):=by subst hK; exact (pi_zip hg hm ha hs hpl).mono fun _ _ _ q=>c_zip (.inr rfl) q
end
section
variable {X:Cx} {K:PySem.W.Frag} {EX:EXT} {d b:Mode} {e:Expr} {st:Stmt} {sts:List Stmt} {pos:Pos} {ma mb:Rho→R W} {ta:Rho→R Bool} {m n:Rho→R Fl}
theorem q_comp {cs:Scope} {N':List Str} {tg iter elt:Expr} {ifs:List Expr} {dd:Mode} {g:TG} {mg:W→Rho→Option Rho} {mi:Rho→R (List W)} (S:CompScope X.env.scope cs X.N N') (hc:X.calm=true) (hi:PI X tg iter (tIt K EX false dd mi))
  (hg:∀ cl ex s H,PG (cxComp X cs cl N' ex s H) tg g) (hgt:Gt K dd g mg) (hk:GKeep X.N.length g) (ht:∀ cl ex s H,PIf (cxComp X cs cl N' ex s H) ifs (tT K EX ta)) (he:∀ cl ex s H,PE (cxComp X cs cl N' ex s H) elt (tM K EX .V ma))
  (hs:∀ x,foldedSetIterable iter X.env x=pure x:=by intro _; rfl):PE X (.ListComp elt [⟨tg,iter,ifs,0⟩] cs pos) (tM K EX .F (vComp N'.length mi mg ta ma)):=
 (pe_comp S hc hi hg hk ht he hs).mono fun _ _ _ q=>c_comp hgt q
theorem q_setc {i:Nat} {y:Str} {py:Pos} {cs:Scope} {N':List Str} {tg iter elt:Expr} {ifs:List Expr} {dd:Mode} {g:TG} {mg:W→Rho→Option Rho} {mi:Rho→R (List W)} {cpos:Pos} (S:CompScope X.env.scope cs X.N N') (hc:X.calm=true) (hi:PI X tg iter (tIt K EX false dd mi))
  (hg:∀ cl ex s H,PG (cxComp X cs cl N' ex s H) tg g) (hgt:Gt K dd g mg) (hk:GKeep X.N.length g) (ht:∀ cl ex s H,PIf (cxComp X cs cl N' ex s H) ifs (tT K EX ta)) (he:∀ cl ex s H,PE (cxComp X cs cl N' ex s H) elt (tM K EX .V ma))
  (hN:X.N.Nodup) (hy:X.N[i]?=some y) (hl:Loc X.env.scope y)
  (hsw:swapsWith (.ListComp elt [⟨tg,iter,ifs,0⟩] cs cpos) (some (.Name y py)) pos.line X.env=pure true:=by rfl) (hf:X.fn y=true∨X.env.scope.names.lookup y=some .local:=by first | exact .inl rfl | exact .inr rfl | assumption)
  (hs:∀ x,foldedSetIterable iter X.env x=pure x:=by intro _; rfl):PS X (.Assign [.Name y py] (.ListComp elt [⟨tg,iter,ifs,0⟩] cs cpos) pos) (tSt K EX d (sF i (vComp N'.length mi mg ta ma))):=
 (ps_setc S hc hi hg hk ht he hN hy hl hsw hf hs).mono fun D σ H q=>by
  have:=c_setF (m:=vComp N'.length mi mg ta ma) q
  exact c_comp hgt this
theorem q_pifN:PIf X [] (tT K EX yes):=fun pins s σ H Q I q=>pif_nil pins s σ H Q I (by obtain ⟨H0,G,ρ,I0,o⟩:=q; exact o true G H (Ext.refl I0.gh) rfl)
theorem q_pif1 {c:Expr} (h:PT X c (tT K EX ta)):PIf X [c] (tT K EX ta):=pif_one h
theorem q_nil:PSs X [] (tSt K EX d sNx):=pss_nil.mono fun _ _ _ q=>c_next q
theorem q_cons (h1:PS X st (tSt K EX d m)) (h2:PSs X sts (tSt K EX d n)):PSs X (st::sts) (tSt K EX d (mSeq m n)):=(pss_cons h1 h2).mono fun _ _ _ q=>c_seq q
theorem q_last (h1:PS X st (tSt K EX d m)):PSs X [st] (tSt K EX d m):=pss_one h1
theorem q_frz {i:Nat} (h:PS X st (tSt K EX d m)):PS X st (tSt K EX d (sFrz i m)):=h.mono fun _ _ _ q=>c_frz q
theorem q_never:PS X st (tSt K EX d sNever):=ps_never.mono fun _ _ _ q=>c_never q
theorem q_ret (he:PE X e (tM K EX d ma)):PS X (.Return (some e) pos) (tSt K EX d (sRet ma)):=(ps_ret he).mono fun _ _ _ q=>c_ret q
theorem q_retv (i:Nat) {x:Str} {p:Pos} (hd:d=.F∨d=.V) (hN:X.N[i]?=some x:=by rfl) (hv:Vis X.env.scope x:=by first | exact Or.inl rfl | exact Or.inr (Or.inl rfl) | exact Or.inr (Or.inr rfl)) (hdd:(x == ("__debug__" : Str))=false:=by decide)
  (hcd:(x == ("__classdict__" : Str))=false:=by decide):PS X (.Return (some (.Name x p)) pos) (tSt K EX d (mRetVar d i)):=(ps_ret (pe_var hN hv hdd hcd)).mono fun _ _ _ q=>c_retVar hd q
theorem q_setV {i:Nat} {x:Str} {pos':Pos} (hN:X.N.Nodup) (hi:X.N[i]?=some x) (hx:Loc X.env.scope x) (he:PE X e (tM K EX .V ma)) (hs:swapsWith e (some (.Name x pos')) pos.line X.env=pure false:=by rfl) (hf:X.fn x=true∨X.env.scope.names.lookup x=some .local:=by first | exact .inl rfl | exact .inr rfl | assumption) :
  PS X (.Assign [.Name x pos'] e pos) (tSt K EX d (sV i ma)):=(ps_set hN hi hx he hs hf).mono fun _ _ _ q=>c_setV q
theorem q_setU {i:Nat} {x:Str} {pos':Pos} (hN:X.N.Nodup) (hi:X.N[i]?=some x) (hx:Loc X.env.scope x) (he:PE X e (tM K EX .U ma)) (hs:swapsWith e (some (.Name x pos')) pos.line X.env=pure false:=by rfl) (hf:X.fn x=true∨X.env.scope.names.lookup x=some .local:=by first | exact .inl rfl | exact .inr rfl | assumption) :
  PS X (.Assign [.Name x pos'] e pos) (tSt K EX d (sU i ma)):=(ps_set hN hi hx he hs hf).mono fun _ _ _ q=>c_setU q
theorem q_setF {i:Nat} {x:Str} {pos':Pos} (hN:X.N.Nodup) (hi:X.N[i]?=some x) (hx:Loc X.env.scope x) (he:PE X e (tM K EX .F ma)) (hs:swapsWith e (some (.Name x pos')) pos.line X.env=pure false:=by rfl) (hf:X.fn x=true∨X.env.scope.names.lookup x=some .local:=by first | exact .inl rfl | exact .inr rfl | assumption) :
  PS X (.Assign [.Name x pos'] e pos) (tSt K EX d (sF i ma)):=(ps_set hN hi hx he hs hf).mono fun _ _ _ q=>c_setF q
theorem q_asg {tg:Expr} {g:TG} {mg:W→Rho→Option Rho} (he:PE X e (tM K EX b ma)) (hg:PG X tg g) (hgt:Gt K b g mg) (hs:swapsWithSole [tg] e pos.line X.env=pure false:=by rfl) (hw:swappedStores [tg] e X.env=pure none:=by rfl) (h1:(assignEach [tg] X.env).map (·.2) = [assign tg X.env]:=by rfl):PS X (.Assign [tg] e pos) (tSt K EX d (sG mg ma)):=
 (ps_asg he hg hs hw h1).mono fun _ _ _ q=>c_asg hgt q
theorem q_app {i:Nat} {x:Str} {p apos cpos:Pos} (hN:X.N[i]?=some x) (hv:Vis X.env.scope x) (ha:PE X e (tM K EX .V ma)) (hd:(x == ("__debug__" : Str))=false:=by decide) (hcd:(x == ("__classdict__" : Str))=false:=by decide)
  (hbase:attributeBase (.Name x p) "append" X.env (eval (.Name x p) X.env)=eval (.Name x p) X.env:=by rfl)
  (hfew:((backTo cpos (starEach [e] X.env)).all (fun x=>!x.1)&&(backToKw cpos (keywordEach [] X.env)).all (fun x=>x.1.isSome)
   && decide (([e]:List Expr).length+([]:List Keyword).length+(if ([]:List Keyword).isEmpty then 0 else 1)<30))=true:=by rfl)
  (hline:(apos.endLine == cpos.line)=true:=by rfl) (hs:starEach [e] X.env=(false,eval e X.env)::starEach [] X.env:=by rfl) (hsw:swapsWith (.Call (.Attribute (.Name x p) "append" apos) [e] [] cpos) none pos.line X.env=pure false:=by rfl) :
  PS X (.Expr (.Call (.Attribute (.Name x p) "append" apos) [e] [] cpos) pos) (tSt K EX d (mApp i ma)):=(ps_expr (pe_append (pe_var hN hv hd hcd) ha hbase hfew hline hs) hsw).mono fun _ _ _ q=>c_app q
theorem q_if_ {c:Expr} {x y:List Stmt} (hc:PT X c (tT K EX ta)) (ha:PSs X x (tSt K EX d m)) (hb:PSs X y (tSt K EX d n)):PS X (.If c x y pos) (tSt K EX d (mIf ta m n)):=(ps_if hc ha hb).mono fun _ _ _ q=>c_ifS q
theorem q_while {c:Expr} {body:List Stmt} (hp:PassesOwn (model X.prog X.w) X.A X.env X.xe) (hc:PT X c (tT K EX ta)) (hb:PSs X body (tSt K EX d m)):PS X (.While c body [] pos) (tSt K EX d (mWhile ta m)):=(ps_while hp hc hb).mono fun _ _ _ q=>c_while q
theorem q_for {tg iter:Expr} {body:List Stmt} {dd:Mode} {g:TG} {mg:W→Rho→Option Rho} {mi:Rho→R (List W)} (hp:PassesOwn (model X.prog X.w) X.A X.env X.xe) (hc:X.calm=true) (hi:PI X tg iter (tIt K EX true dd mi)) (hg:PG X tg g) (hgt:Gt K dd g mg) (hb:PSs X body (tSt K EX d m))
  (hs:∀ x,foldedSetIterable iter X.env x=pure x:=by intro _; rfl):PS X (.For tg iter body [] pos) (tSt K EX d (sFor mi mg m)):=(ps_for hp hc hi hg hb hs).mono fun _ _ _ q=>c_for hgt q
theorem q_aug {i:Nat} {x:Str} {op:Operator} {f:Int→Int→Int} {pos':Pos} (hN:X.N.Nodup) (hi:X.N[i]?=some x) (hx:Loc X.env.scope x) (he:PE X e (tM K EX .B ma)) (ho:PIp X op (ipI f)) (hf:X.fn x=true∨X.env.scope.names.lookup x=some .local:=by first | exact .inl rfl | exact .inr rfl | assumption) :
  PS X (.AugAssign (.Name x pos') op e pos) (tSt K EX d (mAug i f ma)):=(ps_aug hN hi hx he ho hf).mono fun _ _ _ q=>c_aug q
theorem q_set {i:Nat} {x:Str} {k:Expr} {p p2:Pos} (hN:X.N[i]?=some x) (hv:Vis X.env.scope x) (hk:PE X k (tM K EX .B mb)) (he:PE X e (tM K EX .V ma)) (hd:(x == ("__debug__" : Str))=false:=by decide) (hcd:(x == ("__classdict__" : Str))=false:=by decide)
  (hg:PG X (.Subscript (.Name x p) k p2) (gSub (tVar i) (tM K EX .B mb) rSetL))
  (hs:swapsWithSole [.Subscript (.Name x p) k p2] e pos.line X.env=pure false:=by rfl) (hw:swappedStores [.Subscript (.Name x p) k p2] e X.env=pure none:=by rfl):PS X (.Assign [.Subscript (.Name x p) k p2] e pos) (tSt K EX d (mSet i mb ma)):=
 (ps_asg he hg hs hw).mono fun _ _ _ q=>c_set q
end
end TP
namespace TP
open PySem L2
noncomputable abbrev gLt (i j:Int):W:=.bl (decide (i<j))
noncomputable abbrev gLe (i j:Int):W:=.bl (decide (i≤j))
noncomputable abbrev gGt (i j:Int):W:=.bl (decide (j<i))
noncomputable abbrev gGe (i j:Int):W:=.bl (decide (j≤i))
noncomputable abbrev gAdd (i j:Int):W:=.int (i+j)
noncomputable abbrev gSub (i j:Int):W:=.int (i-j)
noncomputable abbrev gMul (i j:Int):W:=.int (i*j)
noncomputable abbrev gMod (i j:Int):W:=.int (i%j)
noncomputable abbrev gDiv (i j:Int):W:=.int (i/j)
noncomputable abbrev gPow (i j:Int):W:=.int (i^j.toNat)
noncomputable abbrev gNeg (i:Int):W:=.int (-i)
noncomputable abbrev gMax (i j:Int):Int:=if j>i then j else i
noncomputable abbrev gMin (i j:Int):Int:=if j<i then j else i
noncomputable abbrev gAdd_ (i j:Int):Int:=i+j
noncomputable abbrev gSub_ (i j:Int):Int:=i-j
noncomputable abbrev cMod (_ j:Int):Prop:=0<j
noncomputable instance (i j:Int):Decidable (CMul i j):=by unfold CMul; infer_instance
noncomputable instance (i j:Int):Decidable (CDiv i j):=by unfold CDiv; infer_instance
noncomputable instance (i j:Int):Decidable (CPow i j):=by unfold CPow; infer_instance
noncomputable instance (i j:Int):Decidable (CPowB i j):=by unfold CPowB; infer_instance
noncomputable def vOf:W→Option V
 | .non=>some .non
 | .bl b=>some (.bl b)
 | .int i=>some (.int i)
 | .str x=>some (.str x)
 | _=>none
noncomputable def eqSc (u v:W):Option Bool:=match vOf u,vOf v with
 | some x,some y=>if scal x y then some (decide (x=y)) else none
 | _,_=>none
noncomputable def fEqS (neg:Bool) (u v:W):R W:=match eqSc u v with
 | some b=>.ok (.bl (if neg then !b else b))
 | none=>.stuck
section
variable {K:PySem.W.Frag} {H0 G H:Hp} {ρ:Rho} {σ:St} {d:Mode}
theorem vOf_B {Ha:Hp} {v:V} {w:W} {x:V} (h:Md K H0 Ha G H v w .B) (e:vOf w=some x):v=x:=by
 cases w <;> first | cases e | skip
 ·exact h.nonB
 ·exact h.blB
 ·exact h.intB
 ·exact h.strB
theorem o2_eqS:Op2 K .B d rEq (fEqS false):=by
 intro EX H0 Hs G H ρ σ Ha Hb x y u v Q I s mx my o
 unfold fEqS eqSc at o
 cases hu:vOf u with
 | none=>rw [hu] at o; exact o.elim
 | some p=>
  cases hv:vOf v with
  | none=>rw [hu,hv] at o; exact o.elim
  | some q=>
   rw [hu,hv] at o
   cases vOf_B mx hu
   cases vOf_B my hv
   dsimp only at o
   by_cases c:scal x y=true
   ·rw [if_pos c] at o
    exact ⟨c,o _ G H (Ext.refl I.gh) (Md.sca rfl (fun _=>.bl) d)⟩
   ·rw [if_neg c] at o; exact o.elim
theorem o2_neS:Op2 K .B d rNe (fEqS true):=by
 intro EX H0 Hs G H ρ σ Ha Hb x y u v Q I s mx my o
 unfold fEqS eqSc at o
 cases hu:vOf u with
 | none=>rw [hu] at o; exact o.elim
 | some p=>
  cases hv:vOf v with
  | none=>rw [hu,hv] at o; exact o.elim
  | some q=>
   rw [hu,hv] at o
   cases vOf_B mx hu
   cases vOf_B my hv
   dsimp only at o
   by_cases c:scal x y=true
   ·rw [if_pos c] at o
    exact ⟨c,o _ G H (Ext.refl I.gh) (Md.sca rfl (fun _=>.bl) d)⟩
   ·rw [if_neg c] at o; exact o.elim
end
theorem law_of {P:Program} {w:World} {K:PySem.W.Frag} {mg:Str→Option Value} {base:Heap} {k:Nat} {f:Addr} {fd:FuncData} {ps:List Str} {d:Mode} {F:List W→R W} (G:FnOk P w K mg base CX0 k f fd ps (spM K 1 d F))
  (h:∀ ns:List Int,ns.length≤63→F [.scr (ns.map W.int)]=.ok (.bl true)):FnOk P w K mg base CX0 k f fd ps (fun vs H Q _=>∃ (a:Addr) (ns:List Int),vs = [.ref a]∧SqL K H a (ns.map V.int)∧ns.length≤63∧∀ H',Q (.bl true) H'):=
 G.imp fun vs H Q E zz78=>by
  obtain ⟨a,ns,e,hs,hl,q⟩:=zz78
  subst e
  refine ⟨rfl,[.scr (ns.map W.int)],.cons (.scr hs ?_) .nil,?_⟩
  ·clear hs hl
   induction ns with
   | nil=>exact .nil
   | cons n ns ih=>exact .cons .int ih
  ·rw [h ns hl]
   intro v G' H' _ _ _ m
   have e:v=.bl true:=by
    cases d <;> first | (cases m; rfl) | (rcases m with m | ⟨_,_,_,_,z,_⟩ <;> first | (cases m; rfl) | cases z)
   subst e
   exact q H'
end TP
set_option Elab.async false
set_option linter.all false
set_option maxRecDepth 100000
namespace TP
open PySem L2
mutual
noncomputable def pd:W→PyData
 | .non=>.none
 | .bl b=>.bool b
 | .int i=>.int i
 | .str x=>.str x
 | .ty _=>.none
 | .exc _ _=>.none
 | .cls _=>.none
 | .tup ws=>.tuple (pds ws)
 | .lst ws=>.list (pds ws)
 | .scr ws=>.list (pds ws)
noncomputable def pds:List W→List PyData
 | []=>[]
 | w::ws=>pd w::pds ws
end
mutual
noncomputable def shp:Nat→W→Bool
 | _,.non=>true
 | _,.bl _=>true
 | _,.int _=>true
 | _,.str x=>PyData.strOk x
 | n+1,.tup ws=>shps n ws
 | n+1,.lst ws=>shps n ws
 | n+1,.scr ws=>shps n ws
 | _,_=>false
noncomputable def shps:Nat→List W→Bool
 | _,[]=>true
 | n,w::ws=>shp n w&&shps n ws
end
theorem shp_ok:∀ (w:W) (n:Nat),shp n w=true→(pd w).canLay0=true∧(pd w).depth≤n:=by
 intro w
 have tl:∀ (ws:List W) (c:List PyData→PyData),(∀ l,(c l).canLay0=PyData.canLayAll0 l)→(∀ l,(c l).depth=PyData.depthAll l+1)→(∀ n:Nat,shps n ws=true→PyData.canLayAll0 (pds ws)=true∧PyData.depthAll (pds ws)≤n)→∀ n:Nat,(match n with | 0=>false | n+1=>shps n ws)=true→(c (pds ws)).canLay0=true∧(c (pds ws)).depth≤n:=fun ws c h1 h2 ih n h=>by
  cases n with
  | zero=>cases h
  | succ n=>have:=ih n h; exact ⟨by rw [h1]; exact this.1,by rw [h2]; exact Nat.succ_le_succ this.2⟩
 have fl:∀ {n:Nat} {w:W} {P:Prop},shp n w=false→shp n w=true→P:=fun h1 h2=>by rw [h1] at h2; cases h2
 induction w using W.rec (motive_2:=fun ws=>∀ n:Nat,shps n ws=true→PyData.canLayAll0 (pds ws)=true∧PyData.depthAll (pds ws)≤n) with
 | non=>exact fun n _=>⟨rfl,Nat.zero_le _⟩
 | bl b=>exact fun n _=>⟨rfl,Nat.zero_le _⟩
 | int i=>exact fun n _=>⟨rfl,Nat.zero_le _⟩
 | str x=>exact fun n h=>⟨by cases n <;> exact h,Nat.zero_le _⟩
 | ty a=>exact fun n h=>fl (by cases n <;> rfl) h
 | exc a b=>exact fun n h=>fl (by cases n <;> rfl) h
 | cls a=>exact fun n h=>fl (by cases n <;> rfl) h
 | tup ws ih=>exact fun n h=>tl ws .tuple (fun _=>rfl) (fun _=>rfl) ih n (by cases n <;> exact h)
 | lst ws ih=>exact fun n h=>tl ws .list (fun _=>rfl) (fun _=>rfl) ih n (by cases n <;> exact h)
 | scr ws ih=>exact fun n h=>tl ws .list (fun _=>rfl) (fun _=>rfl) ih n (by cases n <;> exact h)
 | nil=>exact ⟨rfl,Nat.zero_le _⟩
 | cons w ws h1 h2=>
  rename_i n h
  have h':shp n w=true∧shps n ws=true:=(Bool.and_eq_true _ _).mp h
  have a:=h1 n h'.1
  have b:=h2 n h'.2
  exact ⟨by show (PyData.canLay0 _&&PyData.canLayAll0 _)=true; rw [a.1,b.1]; rfl,Nat.max_le.mpr ⟨a.2,b.2⟩⟩
theorem shps_ok (ws:List W) (n:Nat) (h:shps n ws=true):PyData.canLayAll0 (pds ws)=true∧PyData.depthAll (pds ws)≤n:=by
 have:=shp_ok (.tup ws) (n+1) h
 exact ⟨this.1,Nat.le_of_succ_le_succ this.2⟩
section
variable {X:Cx} {pins:List (Addr×Obj)} {σ:St} {H:Hp} {s:Shared}
theorem Rep.reads (I:Inv X pins σ H s) {x:V} {w:W} {u:Value} (n:Nat) (r:Rep X.K H x w):shp n w=true→RelV x u→∃ as,Reads s.heap u (pd w) as:=by
 have fl:∀ {n:Nat} {w:W} {P:Prop},shp n w=false→shp n w=true→P:=fun h1 h2=>by rw [h1] at h2; cases h2
 induction r using Rep.rec (motive_2:=fun xs ws _=>∀ (us:List Value) (n:Nat),shps n ws=true→Vals xs us→∃ as,ReadsAll s.heap us (pds ws) as) generalizing u n with
 | non=>intro _ r; cases r; exact ⟨_,.none⟩
 | bl=>intro _ r; cases r; exact ⟨_,.bool _⟩
 | int=>intro _ r; obtain ⟨t,rfl⟩:=r; exact ⟨_,.int _ _⟩
 | str=>intro _ r; obtain ⟨t,rfl⟩:=r; exact ⟨_,.str _ _⟩
 | ty=>exact fun h _=>fl (by cases n <;> rfl) h
 | exc=>exact fun h _=>fl (by cases n <;> rfl) h
 | cls=>exact fun h _=>fl (by cases n <;> rfl) h
 | tup ha _ ih=>
  intro h r
  cases r
  cases n with
  | zero=>cases h
  | succ n=>
   obtain ⟨its,rv,⟨o,e,c,k,dd⟩,_⟩:=I.tuple (SqT.of ha)
   obtain ⟨as,q⟩:=ih _ n h rv
   exact ⟨_,.tuple e c dd (by simpa using q)⟩
 | lst ha _ ih=>
  intro h r
  cases r
  cases n with
  | zero=>cases h
  | succ n=>
   obtain ⟨its,rv,pl,_⟩:=I.list (SqL.of ha)
   obtain ⟨o,e,c,k,dd⟩:=pl.isList
   obtain ⟨as,q⟩:=ih _ n h rv
   exact ⟨_,.list e c dd (by simpa using q)⟩
 | scr ha _ ih=>
  intro h r
  cases r
  cases n with
  | zero=>cases h
  | succ n=>
   obtain ⟨its,rv,pl,_⟩:=I.list ha
   obtain ⟨o,e,c,k,dd⟩:=pl.isList
   obtain ⟨as,q⟩:=ih _ n h rv
   exact ⟨_,.list e c dd (by simpa using q)⟩
 | nil=>rename_i us n _ r; cases r; exact ⟨_,.nil⟩
 | cons _ _ h1 h2=>
  rename_i us n h r
  cases r with
  | cons r1 r2=>
   have h':=(Bool.and_eq_true _ _).mp h
   obtain ⟨as,q1⟩:=h1 n h'.1 r1
   obtain ⟨bs,q2⟩:=h2 _ n h'.2 r2
   exact ⟨_,.cons q1 q2⟩
noncomputable def eqW (u v:W):Bool:=PyData.eqv (pd u) (pd v)
noncomputable def rEqD (K:PySem.W.Frag) (neg:Bool):R2:=fun x y H Q=>∃ u v,Rep K H x u∧Rep K H y v∧shp 8 u=true∧shp 8 v=true∧Q (.bl (if neg then !eqW u v else eqW u v)) H
theorem shaped_of {w:W} (h:shp 8 w=true):SeqAt.shaped (pd w)=true:=by
 obtain ⟨a,b⟩:=shp_ok w 8 h
 unfold SeqAt.shaped
 rw [a,Bool.true_and]
 exact decide_eq_true (Nat.le_trans b (by decide))
theorem op_eqD (hu:X.A.units+64<cLine):OpR X (compareOp .Eq) (rEqD X.K false):=by
 intro pins s σ H x y v u Q I rx ry h
 obtain ⟨a,b,ra,rb,sa,sb,q⟩:=h
 obtain ⟨as,qa⟩:=Rep.reads I 8 ra sa rx
 obtain ⟨bs,qb⟩:=Rep.reads I 8 rb sb ry
 exact PyProof.Rows.eq_dataH qa qb (shaped_of sa) (shaped_of sb) hu ⟨.bl (eqW a b),H,I,rfl,q⟩
theorem op_neD (hu:X.A.units+64<cLine):OpR X (compareOp .NotEq) (rEqD X.K true):=by
 intro pins s σ H x y v u Q I rx ry h
 obtain ⟨a,b,ra,rb,sa,sb,q⟩:=h
 obtain ⟨as,qa⟩:=Rep.reads I 8 ra sa rx
 obtain ⟨bs,qb⟩:=Rep.reads I 8 rb sb ry
 exact PyProof.Rows.ne_dataH qa qb (shaped_of sa) (shaped_of sb) hu ⟨.bl (!eqW a b),H,I,rfl,q⟩
noncomputable def fEq (neg:Bool) (u v:W):R W:=if shp 8 u&&shp 8 v then .ok (.bl (if neg then !eqW u v else eqW u v)) else .stuck
theorem o2_eqD {K:PySem.W.Frag} {d:Mode} {neg:Bool}:Op2 K .B d (rEqD K neg) (fEq neg):=by
 intro EX H0 Hs G H ρ σ Ha Hb x y u v Q I s mx my o
 unfold fEq at o
 by_cases c:(shp 8 u&&shp 8 v)=true
 ·rw [if_pos c] at o
  have c':shp 8 u=true∧shp 8 v=true:=by simpa using c
  exact ⟨u,v,mx.whole I,my.whole I,c'.1,c'.2,o _ G H (Ext.refl I.gh) (Md.sca rfl (fun _=>.bl) d)⟩
 ·rw [if_neg c] at o; exact o.elim
noncomputable def isBW:W→Bool→Bool
 | .bl a,b=>a == b
 | _,_=>false
noncomputable def fIsB (neg:Bool):W→W→R W
 | u,.bl b=>.ok (.bl (if neg then !isBW u b else isBW u b))
 | _,_=>.stuck
end
theorem hu64 {A:Around} {k:Nat} (hr:Room k A):A.units+64<cLine:=hr.units
end TP
set_option Elab.async false
set_option linter.all false
set_option maxRecDepth 100000
namespace TP
open PySem L2
section
variable {X:Cx} {pins:List (Addr×Obj)} {σ:St} {H:Hp} {s:Shared}
theorem vals_one {x:V} {us:List Value} (r:Vals [x] us):∃ u,us = [u]∧RelV x u:=by
 cases r with
 | cons a t=>cases t; exact ⟨_,rfl,a⟩
theorem keep_push {h':Heap} {o:Obj} (hk:∀ b u,b ∉ [s.heap.objs.size]→(s.heap.push o).get? b=some u→h'.get? b=some u):∀ b u,s.heap.get? b=some u→h'.get? b=some u:=fun b u e=>
 hk b u (by simp; exact Nat.ne_of_lt (Heap.lt_size e)) (Heap.get?_push_of_some _ e)
theorem val_at {α:Type} {f:α→V} {g:α→Value→Prop} (hg:∀ a u,RelV (f a) u→g a u) {as:List α} {its:List Value} (r:Vals (as.map f) its) {i:Nat} {v:Value} (h:its.toArray[i]?=some v):∃ a,as[i]?=some a∧g a v:=by
 have h':its[i]?=some v:=by simpa using h
 induction as generalizing its i with
 | nil=>cases r; simp at h'
 | cons a as ih=>
  cases r with
  | cons q t=>
   cases i with
   | zero=>simp at h'; subst h'; exact ⟨a,rfl,hg _ _ q⟩
   | succ i=>simpa using ih t (i:=i) (by simpa using h') (by simpa using h')
theorem walk_list {p:Addr} {xs:List V} (I:Inv X pins σ H s) (hc:X.calm=true) (hp:H p=some (.lst xs)):∃ its:List Value,Vals xs its∧s.heap.IsList p its.toArray∧xs.length=its.toArray.size∧p≠s.heap.objs.size ∧
  Walks X.prog X.w X.A.in1 s.heap.objs.size [s.heap.objs.size,p] [s.heap.objs.size] its.toArray.size (fun i v=>its.toArray[i]?=some v) (fun i h=>h.IsListIter s.heap.objs.size p i∧h.IsList p its.toArray):=by
 obtain ⟨its,rv,pl,hz⟩:=I.list (SqL.of hp)
 obtain ⟨o,e,_⟩:=pl.isList
 have hne:p≠s.heap.objs.size:=Nat.ne_of_lt (Heap.lt_size e)
 exact ⟨its,rv,pl.isList,by rw [List.size_toArray]; exact rv.length,hne,Walks.list (show X.A.in1.handled=none from I.ok.hd hc) _ p hne _⟩
theorem all_range {bs:List Bool}:(List.range bs.length).all (fun i=>bs.getD i false)=bs.all id:=by
 rw [Bool.eq_iff_iff,List.all_eq_true,List.all_eq_true]
 constructor
 ·intro h x hx
  obtain ⟨i,hi,e⟩:=List.mem_iff_getElem.mp hx
  have:=h i (by simpa using hi)
  rw [List.getD_eq_getElem?_getD] at this
  simpa [hi,e] using this
 ·intro h i hi
  have hi:i<bs.length:=by simpa using hi
  rw [List.getD_eq_getElem?_getD]
  simpa [hi] using h bs[i] (List.getElem_mem hi)
theorem truth_bl {A:Around} {bs:List Bool} {its:List Value} (rv:Vals (bs.map V.bl) its):TruthOf X.prog X.w A (fun i v=>its.toArray[i]?=some v) (fun i=>bs.getD i false):=fun i v s' Q' E hv hq=>by
 obtain ⟨b,hb,e⟩:=val_at (f:=V.bl) (g:=fun b u=>u=.bool b) (fun b u r=>r) rv hv
 subst e
 have:bs.getD i false=b:=by rw [List.getD_eq_getElem?_getD,hb]; rfl
 have hq':Q' (bs.getD i false) s':=hq
 rw [this] at hq'
 exact wpAny_truthy_bool hq'
theorem call_allL (hc:X.calm=true):CallR X (.builtin "all") (fun xs H Q=>∃ (p:Addr) (bs:List Bool),xs = [.ref p]∧H p=some (.lst (bs.map V.bl))∧Q (.bl (bs.all id)) H):=by
 intro pins s σ H xs us Q I r h
 obtain ⟨p,bs,rfl,hp,q⟩:=h
 obtain ⟨u,rfl,rx⟩:=vals_one r
 cases rx
 obtain ⟨its,rv,hl,hlen,hne,Wk⟩:=walk_list I hc hp
 rw [List.length_map] at hlen
 refine call_all_walk (wpAny_pyIter_list hl ⟨_,_,_,_,_,_,_,rfl,Wk,⟨⟨_,Heap.get?_push_size _ rfl,rfl,rfl⟩,hl.push _⟩,truth_bl rv,fun h' tk hk=>?_⟩)
 rw [← hlen,all_range]
 exact ⟨.bl (bs.all id),H,I.kept (t':=tk) (keep_push hk),rfl,q⟩
noncomputable def blsW:List W→Option (List Bool)
 | []=>some []
 | .bl b::ws=>(blsW ws).map (b::·)
 | _=>none
theorem bls_map (bs:List Bool):blsW (bs.map W.bl)=some bs:=by
 induction bs with
 | nil=>rfl
 | cons b bs ih=>rw [List.map_cons,blsW,ih]; rfl
theorem Reps.bls {K:PySem.W.Frag} {F:Hp} {vs:List V} {ws:List W} {bs:List Bool} (r:Reps K F vs ws):blsW ws=some bs→vs=bs.map V.bl:=
 Reps.ind (P:=fun vs ws=>∀ bs,blsW ws=some bs→vs=bs.map V.bl) (fun bs h=>by cases h; rfl) (fun {v w vs ws} r _ ih bs h=>by
  cases r <;> first | cases h | skip
  rename_i b
  have h':(blsW ws).map (b::·)=some bs:=h
  cases q:blsW ws with
  | none=>rw [q] at h'; cases h'
  | some cs=>rw [q] at h'; cases h'; rw [ih cs q]; rfl) r bs
noncomputable def fBools (g:List Bool→Bool):List W→R W
 | [.lst ws]=>toR (blsW ws)>>=fun bs=>.ok (.bl (g bs))
 | _=>.stuck
theorem b_bools {K:PySem.W.Frag} {d:Mode} {g:List Bool→Bool}:Cal K .B d (fun xs H Q=>∃ (p:Addr) (bs:List Bool),xs = [.ref p]∧H p=some (.lst (bs.map V.bl))∧Q (.bl (g bs)) H) (fBools g):=by
 intro EX H0 Hs G H ρ σ Ha vs ws Q I s m o
 unfold fBools at o
 split at o
 ·rename_i ws
  cases m with
  | cons a t=>
   cases t
   obtain ⟨p,ys,rfl,hs,r⟩:=a.lstB I
   cases q:blsW ws with
   | none=>rw [q] at o; exact o.elim
   | some bs=>
    rw [q] at o
    rw [Reps.bls r q] at hs
    exact ⟨p,bs,rfl,hs,o _ G H (Ext.refl I.gh) (Md.sca rfl (fun _=>.bl) d)⟩
 ·exact o.elim
noncomputable def gAll (bs:List Bool):Bool:=bs.all id
end
theorem bt_all:bootBuiltins "all" = some (.builtin "all"):=by decide +kernel
section
variable {X:Cx} {K:PySem.W.Frag} {d:Mode}
noncomputable def intsW:List W→Option (List Int)
 | []=>some []
 | .int b::ws=>(intsW ws).map (b::·)
 | _=>none
theorem ints_map (bs:List Int):intsW (bs.map W.int)=some bs:=by
 induction bs with
 | nil=>rfl
 | cons b bs ih=>rw [List.map_cons,intsW,ih]; rfl
theorem Reps.ints {F:Hp} {vs:List V} {ws:List W} {bs:List Int} (r:Reps K F vs ws):intsW ws=some bs→vs=bs.map V.int:=
 Reps.ind (P:=fun vs ws=>∀ bs,intsW ws=some bs→vs=bs.map V.int) (fun bs h=>by cases h; rfl) (fun {v w vs ws} r _ ih bs h=>by
  cases r <;> first | cases h | skip
  rename_i b
  have h':(intsW ws).map (b::·)=some bs:=h
  cases q:intsW ws with
  | none=>rw [q] at h'; cases h'
  | some cs=>rw [q] at h'; cases h'; rw [ih cs q]; rfl) r bs
noncomputable def fInts (g:List Int→Int):List W→R W
 | [.lst ws]=>toR (intsW ws)>>=fun bs=>.ok (.int (g bs))
 | _=>.stuck
noncomputable def fAbs:List W→R W
 | [.int i]=>.ok (.int (if i<0 then -i else i))
 | _=>.stuck
noncomputable def fInt:List W→R W
 | [.int i]=>.ok (.int i)
 | [.bl k]=>.ok (.int (if k then 1 else 0))
 | _=>.stuck
theorem b_int:Cal K .B d (fun xs H Q=>(∃ i,xs = [.int i]∧Q (.int i) H)∨∃ k:Bool,xs = [.bl k]∧Q (.int (if k then 1 else 0)) H) fInt:=by
 intro EX H0 Hs G H ρ σ Ha vs ws Q I s m o
 unfold fInt at o
 split at o
 ·cases m with
  | cons a t=>
   cases t
   exact .inl ⟨_,by rw [a.intB],o _ G H (Ext.refl I.gh) (Md.sca rfl (fun _=>.int) d)⟩
 ·cases m with
  | cons a t=>
   cases t
   exact .inr ⟨_,by rw [a.blB],o _ G H (Ext.refl I.gh) (Md.sca rfl (fun _=>.int) d)⟩
 ·exact o.elim
noncomputable def fStr:List W→R W
 | [.int i]=>if i.natAbs.log2<1920 then .ok (.str (toString i)) else .stuck
 | _=>.stuck
end
end TP
namespace TP
open PySem L2
noncomputable def mExt (i:Nat) (c:Bool) (m:Rho→R W):Rho→R Fl:=fun ρ=>match ρ[i]? with
 | some (.own ws)=>m ρ>>=fun w=>(match w with
  | .lst us=>if ws.length+us.length≤1000 then (if c||noLs us then .ok (.nx (ρ.set i (.own (ws++us)))) else .stuck) else .stuck
  | _=>.stuck)
 | _=>.stuck
noncomputable def mRev (i:Nat):Rho→R Fl:=fun ρ=>match ρ[i]? with
 | some (.own ws)=>.ok (.nx (ρ.set i (.own ws.reverse)))
 | _=>.stuck
section
variable {K:PySem.W.Frag} {EX:EXT} {H0 G H:Hp} {ρ:Rho} {σ:St} {d:Mode} {D:Ends}
theorem c_rev {i:Nat} (h:tSt K EX d (mRev i) D σ H):tDrop (tBM0 K "list" rReverse (tVar i)) D σ H:=by
 obtain ⟨H0,G,ρ,I,o⟩:=h
 unfold mRev at o
 split at o
 ·rename_i ws e
  obtain ⟨a,vs,es,ha,hg,h0,r⟩:=I.own_at e
  exact ⟨.ref a,es,.inl ⟨rfl,vs,SqL.of ha⟩,a,vs,rfl,rfl,ha,o G σ _ (Same.refl _) (I.own_upd e es r.reverse)⟩
 ·exact o.elim
end
section
variable {X:Cx} {K:PySem.W.Frag} {EX:EXT} {d:Mode} {e:Expr} {pos:Pos} {ma:Rho→R W}
theorem q_rev {i:Nat} {x:Str} {p apos cpos:Pos} (hN:X.N[i]?=some x) (hv:Vis X.env.scope x) (hK:X.K=K:=by rfl) (hd:(x == ("__debug__" : Str))=false:=by decide) (hcd:(x == ("__classdict__" : Str))=false:=by decide)
  (hbase:attributeBase (.Name x p) "reverse" X.env (eval (.Name x p) X.env)=eval (.Name x p) X.env:=by rfl) (hline:(apos.endLine == cpos.line)=true:=by rfl)
  (hsw:swapsWith (.Call (.Attribute (.Name x p) "reverse" apos) [] [] cpos) none pos.line X.env=pure false:=by rfl) :
  PS X (.Expr (.Call (.Attribute (.Name x p) "reverse" apos) [] [] cpos) pos) (tSt K EX d (mRev i)):=by
 subst hK; exact (ps_expr (pe_bm0 PySem.F.plainAttrs_list PySem.F.slot_list_reverse PySem.F.type_list_reverse mt_reverse (pe_var hN hv hd hcd) hbase hline) hsw).mono fun _ _ _ q=>c_rev q
end
section
variable {X:Cx} {K:PySem.W.Frag} {EX:EXT} {a e tg:Expr} {es:List Expr} {pos:Pos} {ma:Rho→R W} {mr:Rho→R (List W)}
theorem q_iSqB (h:PE X e (tM K EX .B ma)) (hK:X.K=K:=by rfl):PI X tg e (tIt K EX false .U (bS ma)):=q_iSq (lp:=false) h hK
theorem q_iSqU (h:PE X e (tM K EX .U ma)) (hK:X.K=K:=by rfl):PI X tg e (tIt K EX true .U (bS ma)):=q_iSq (lp:=true) h hK
theorem q_zipB {elts:List Expr} {p tp:Pos} {k:Nat} (hg:Gl X "zip") (hm:X.mg "zip" = none) (ha:PA X (a::es) (tA K EX .B mr)) (hK:X.K=K:=by rfl) (hs:starEach (a::es) X.env=(false,eval a X.env)::starEach es X.env:=by rfl) (hpl:(backTo pos (starEach es X.env)).any (·.1)=false:=by rfl) :
  PI X (.Tuple elts k tp) (.Call (.Name "zip" p) (a::es) [] pos) (tIt K EX false .U (bI zipR mr)):=q_zip (lp:=false) hg hm ha hK hs hpl
theorem q_zipU {elts:List Expr} {p tp:Pos} {k:Nat} (hg:Gl X "zip") (hm:X.mg "zip" = none) (ha:PA X (a::es) (tA K EX .U mr)) (hK:X.K=K:=by rfl) (hs:starEach (a::es) X.env=(false,eval a X.env)::starEach es X.env:=by rfl) (hpl:(backTo pos (starEach es X.env)).any (·.1)=false:=by rfl) :
  PI X (.Tuple elts k tp) (.Call (.Name "zip" p) (a::es) [] pos) (tIt K EX true .U (bI zipR mr)):=q_zip (lp:=true) hg hm ha hK hs hpl
end
end TP
namespace TP
open PySem L2
section
variable {K:PySem.W.Frag} {EX:EXT} {H0 G H G1 H1:Hp} {ρ:Rho} {σ:St} {d:Mode} {D:Ends}
noncomputable def isOwn:Sl→Bool
 | .own _=>true
 | .dic _=>true
 | .dik _=>true
 | _=>false
noncomputable def noOwn (ρ:Rho):Bool:=ρ.all fun s=>!isOwn s
noncomputable def sCU (i:Nat) (f:List W→R W) (ma:Rho→R (List W)):Rho→R Fl:=fun ρ=>if noOwn ρ then (ma ρ>>=fun ws=>f ws>>=fun w=>.ok (.nx (ρ.set i (.par w)))) else .stuck
end
section
variable {X:Cx} {K:PySem.W.Frag} {d:Mode} {e:Expr} {es:List Expr} {pos:Pos} {mr:Rho→R (List W)}
end
end TP
set_option Elab.async false
set_option linter.all false
set_option maxRecDepth 100000
namespace TP
open PySem L2
noncomputable def ItRv (K:PySem.W.Frag) (a:Addr) (n:Nat):It:=
 ⟨fun i H=>i<n∧∃ xs x,SqL K H a xs∧xs.length=n∧xs[n-1-i]?=some x,fun i H x H'=>H'=H∧∀ xs,SqL K H a xs→xs[n-1-i]?=some x,fun i H=>i=n∧∃ xs,SqL K H a xs∧xs.length=n⟩
theorem turn_rev {P:Program} {w:World} {K:PySem.W.Frag} {tg:Expr} (a it:Addr) (n:Nat):Turn P w K tg (ItRv K a n) [it] it (fun i h=>i≤n∧h.IsRevIter it a ((n:Int)-1-(i:Int))) where
 mem:=by simp
 obj:=fun i h st b hb=>by
  have e:b=it:=by simpa using hb
  subst e
  obtain ⟨_,o,e,c,d⟩:=st
  exact ⟨o,e,fun v z=>by rw [d] at z; cases z⟩
 keep:=fun i h h' st k=>⟨st.1,st.2.at fun o e=>k it (by simp) o e⟩
 item:=by
  intro X hP hw hK hc i pins s σ H E I hf st hg
  subst hP hw hK
  obtain ⟨hi,xs,x,hq,hn,hx⟩:=hg
  obtain ⟨its,rv,p,hz⟩:=I.list hq
  obtain ⟨u,hu,ru⟩:=rv.get hx
  obtain ⟨f0,f1,f2,f3,f4,f5⟩:=hf it (by simp)
  have e1:(n:Int)-1-(i:Int)=((n-1-i:Nat):Int):=by omega
  have st2:=st.2
  rw [e1] at st2
  refine wpAny_pyNext_rev_item st2 p.isList (x:=u) (by simpa using hu) fun h' st' sb=>?_
  have I1:Inv X pins σ H { s with heap:=h' }:=I.turned (t':=s.toks) (fun b o hb e=>(sb.2 b hb).trans e) f0 f1 f3 f4 f5
  have e2:((n-1-i:Nat):Int)-1=(n:Int)-1-((i+1:Nat):Int):=by omega
  rw [e2] at st'
  obtain ⟨o,e,c,d⟩:=id st'
  exact ⟨u,rfl,go_of (s:={ s with heap:=h' }) e c d (by decide) ⟨x,H,I1,ru,⟨rfl,fun ys hy=>by rw [I.list_inj hy hq]; exact hx⟩,⟨hi,st'⟩,fun b hb=>(hf b hb).1⟩⟩
 done:=by
  intro X hP hw hK hc i pins s σ H E I hf st hg
  subst hP hw hK
  obtain ⟨rfl,xs,hq,hn⟩:=hg
  obtain ⟨f0,f1,f2,f3,f4,f5⟩:=hf it (by simp)
  have e1:(i:Int)-1-(i:Int) = -1:=by omega
  have st2:=st.2
  rw [e1] at st2
  exact wpAny_pyNext_rev_end (I.ok.hd hc) st2 fun h' eb=>⟨rfl,I.turned (t':=s.toks) (fun b o hb e=>eb b o hb e) f0 f1 f3 f4 f5⟩
 self:=fun _ _ _ _ _ st h=>wpAny_pyIter_revIter st.2 h
noncomputable def iRev (K:PySem.W.Frag) (ta:TA):TI:=fun σ H R=>ta σ H fun vs H1=>∃ a,vs = [.ref a]∧∃ xs,SqL K H1 a xs∧R (ItRv K a xs.length) H1
theorem bt_reversed:bootBuiltins "reversed" = some (.type "reversed"):=by decide +kernel
section
variable {X:Cx} {tg:Expr}
theorem pi_rev {a:Expr} {ta:TA} {p pos:Pos} (hg:Gl X "reversed") (hm:X.mg "reversed" = none) (ha:PA X [a] ta) (hs:starEach [a] X.env = [(false,eval a X.env)]:=by rfl):PI X tg (.Call (.Name "reversed" p) [a] [] pos) (iRev X.K ta):=by
 intro pins s σ H R I h
 refine wpAny_Call_Name_kw (ld_blt I hg hm bt_reversed ?_ (by decide) (by decide))
 refine PyProof.Rows.callWith_type1 (thn (ha pos pins s σ H _ I h) fun us s1 zz79=>?_) hs (by rfl)
 obtain ⟨vs,H1,I1,r1,q1⟩:=zz79
 obtain ⟨b,e,xs,hq,q⟩:=q1
 subst e
 obtain ⟨u,rfl,ru⟩:=vals_one r1
 cases ru
 obtain ⟨its,rv,pl,hz⟩:=I1.list hq
 have hl:=rv.length
 refine call_reversed_list pl.isList ?_
 have hit:(s1.heap.push (revObj b ((its.toArray.size:Int)-1))).IsRevIter s1.heap.objs.size b ((xs.length:Int)-1-((0:Nat):Int)):=by
  refine ⟨_,Heap.get?_push_size _ rfl,rfl,?_⟩
  have:((xs.length:Int)-1-((0:Nat):Int))=((its.toArray.size:Int)-1):=by simp; omega
  rw [this]; rfl
 refine wpAny_pyIter_revIter hit ?_
 refine ⟨s1.heap.objs.size,[s1.heap.objs.size],_,ItRv X.K b xs.length,H1,rfl,I1.kept (t':=s1.toks) fun b o e=>Heap.get?_push_of_some _ e,turn_rev b _ _,⟨Nat.zero_le _,hit⟩,fun c hc=>?_,q⟩
 have e:c=s1.heap.objs.size:=by simpa using hc
 subst e
 exact I1.fpOk (Nat.le_refl _) (I1.hok.fresh (Nat.le_refl _))
end
noncomputable def revW:List W→R (List W)
 | [.lst ws]=>.ok ws.reverse
 | _=>.stuck
section
variable {K:PySem.W.Frag} {EX:EXT} {H0 G H:Hp} {ρ:Rho} {σ:St}
theorem itok_rev {e:Mode} {Z:Hp} {a:Addr} {vs:List V} {ws:List W} (he:e=.V∨e=.U) (s:SqL K Z a vs) (r:Reps K (fz e H0 G) vs ws):ItOk K e H0 Z G (ItRv K a vs.length) ws.reverse:=by
 have hl:=r.length
 have hq:∀ H,Same Z H→SqL K H a vs:=fun H z=>Same.seq z s
 refine ⟨fun i H hi z=>?_,fun H z=>⟨by rw [List.length_reverse,hl],vs,hq H z,rfl⟩,fun i H x H' w hw z ⟨e1,y⟩ G2 ρ σ I sg=>?_⟩
 ·rw [List.length_reverse] at hi
  exact ⟨by omega,vs,vs[vs.length-1-i]'(by omega),hq H z,rfl,by simp⟩
 ·subst e1
  have hi:i<ws.length:=by have:=(List.getElem?_eq_some_iff.mp hw).1; simpa using this
  have hx:=y vs (hq _ z)
  rw [List.getElem?_reverse hi] at hw
  obtain ⟨v,hv,rv⟩:=Reps.get r hw
  rw [hl,hv] at hx
  cases hx
  exact ⟨G2,Ext.refl I.gh,Md.of_fz he (rv.same (fz_same sg))⟩
theorem Md.srcL {lp:Bool} {Hs:Hp} {x:V} {ws:List W} (I:PIv K H0 G ρ σ H) (m:Md K H0 Hs G H x (.lst ws) (srcM lp .U)):∃ a vs,x=.ref a∧SqL K (if lp then join H0 G else H) a vs∧Reps K (fz .U H0 G) vs ws:=by
 have ez:fz .U H0 G=join H0 G:=by unfold fz; rw [if_neg (show ¬ (Mode.U=Mode.V) by intro z; cases z)]
 rw [ez]
 cases lp with
 | true=>
  rw [if_pos rfl]
  cases m with
  | lst s r=>exact ⟨_,_,rfl,SqL.of s,r⟩
 | false=>
  rw [if_neg Bool.false_ne_true]
  rcases m with m | ⟨a,vs,us,rfl,e2,h1,r⟩
  ·cases m with
   | lst s r=>exact ⟨_,_,rfl,SqL.of (I.join_H _ _ s),r⟩
  ·cases e2; exact ⟨a,vs,rfl,SqL.of h1,r.same I.G_join⟩
theorem c_rvs {lp:Bool} {ma:Rho→R (List W)} {Rr:It→Hp→Prop} (h:tIt K EX lp .U (fun ρ=>ma ρ>>=revW) σ H Rr):iRev K (tA K EX (srcM lp .U) ma) σ H Rr:=by
 refine tIt_bind h (fun H0 G ρ G1 H1 xs ws us I e1 m1 q o=>?_) (fun ws e z=>?_)
 ·have I1:=I.ext e1
  unfold revW at q
  split at q
  ·rename_i ws'
   cases q
   cases m1 with
   | cons a1 t=>
    cases t
    obtain ⟨p,vs,rfl,hL,r⟩:=Md.srcL I1 a1
    exact ⟨p,rfl,vs,Same.seq (lp_H I1) hL,o _ G1 H1 e1 (itok_rev (.inr rfl) hL r)⟩
  ·cases q
 ·unfold revW at z
  split at z <;> cases z
end
section
variable {X:Cx} {K:PySem.W.Frag} {EX:EXT} {a tg:Expr} {pos:Pos} {mr:Rho→R (List W)}
theorem q_rvU {p:Pos} (hg:Gl X "reversed") (hm:X.mg "reversed" = none) (ha:PA X [a] (tA K EX .U mr)) (hK:X.K=K:=by rfl) (hs:starEach [a] X.env = [(false,eval a X.env)]:=by rfl):PI X tg (.Call (.Name "reversed" p) [a] [] pos) (tIt K EX true .U (bI revW mr)):=by
 subst hK; exact (pi_rev hg hm ha hs).mono fun _ _ _ q=>c_rvs (lp:=true) q
end
end TP
namespace TP
open PySem L2
noncomputable def maxL (ns:List Int):Int:=ns.getD (argBest (fun i j=>decide (ns.getD j 0<ns.getD i 0)) (ns.length-1)) 0
theorem le_maxL {ns : List Int} : ∀ k, k < ns.length → ns.getD k 0 ≤ maxL ns := by
  have key : ∀ m k, k ≤ m → ns.getD k 0 ≤ ns.getD (argBest (fun i j => decide (ns.getD j 0 < ns.getD i 0)) m) 0 := by
    intro m
    induction m with
    | zero => intro k hk; have : k = 0 := by omega
              subst this; exact Int.le_refl _
    | succ m ih =>
      intro k hk
      unfold argBest
      split
      · rename_i h
        have h := of_decide_eq_true h
        by_cases e : k = m + 1
        · subst e; exact Int.le_refl _
        · have := ih k (by omega); omega
      · rename_i h
        by_cases e : k = m + 1
        · subst e; have : ¬ (ns.getD (argBest (fun i j => decide (ns.getD j 0 < ns.getD i 0)) m) 0 < ns.getD (m + 1) 0) := fun z => h (decide_eq_true z)
          omega
        · exact ih k (by omega)
  intro k hk
  exact key _ k (by omega)
section
variable {X:Cx} {pins:List (Addr×Obj)} {σ:St} {H:Hp} {s:Shared}
theorem int_at {ns:List Int} {its:List Value} (rv:Vals (ns.map V.int) its) {i:Nat} {v:Value} (h:its.toArray[i]?=some v):∃ t,v=.int (ns.getD i 0) t:=by
 obtain ⟨n,hn,t,e⟩:=val_at (f:=V.int) (g:=fun n u=>∃ t,u=.int n t) (fun b u r=>r) rv h
 exact ⟨t,by rw [e,List.getD_eq_getElem?_getD,hn]; rfl⟩
theorem cmp_gt {A:Around} {ns:List Int} {its:List Value} (rv:Vals (ns.map V.int) its):CmpOf X.prog X.w A .Gt (fun i v=>its.toArray[i]?=some v) (fun i j=>decide (ns.getD j 0<ns.getD i 0)):=fun i j vi vj s' Q' E hi hj hq=>by
 obtain ⟨t,rfl⟩:=int_at rv hi
 obtain ⟨u,rfl⟩:=int_at rv hj
 exact PyProof.Rows.gt_int hq
theorem lt2 {p:Addr} {o:Obj} {u:Obj} (e:s.heap.get? p=some u):∀ b ∈ [s.heap.objs.size,p],b<(s.heap.push o).objs.size:=fun b hb=>by
 have hlt:=Heap.lt_size e
 simp at hb
 rcases hb with rfl | rfl
 ·simp [Heap.push]
 ·exact Nat.lt_of_lt_of_le hlt (by simp [Heap.push])
theorem call_maxQ (hc:X.calm=true):CallR X (.builtin "max") (fun xs H Q=>∃ (p:Addr) (ns:List Int),xs = [.ref p]∧(H p=some (.lst (ns.map V.int))∨H p=some (.tup (ns.map V.int)))∧0<ns.length∧Q (.int (maxL ns)) H):=by
 intro pins s σ H xs us Q I r h
 obtain ⟨p,ns,rfl,hp,hn,q⟩:=h
 obtain ⟨u,rfl,rx⟩:=vals_one r
 cases rx
 have hd:X.A.in1.handled=none:=I.ok.hd hc
 rcases hp with hp | hp
 ·obtain ⟨its,rv,hl,hlen,hne,Wk⟩:=walk_list I hc hp
  rw [List.length_map] at hlen
  obtain ⟨o,e,_⟩:=id hl
  refine call_max_walk (wpAny_pyIter_list hl ⟨_,_,_,_,_,_,_,rfl,Wk,⟨⟨_,Heap.get?_push_size _ rfl,rfl,rfl⟩,hl.push _⟩,lt2 e,by omega,cmp_gt rv,fun v h' tk hv hk=>?_⟩)
  obtain ⟨t,rfl⟩:=int_at rv hv
  rw [← hlen]
  exact ⟨.int (maxL ns),H,I.kept (t':=tk) (keep_push hk),⟨t,rfl⟩,q⟩
 ·obtain ⟨its,rv,pl,hz⟩:=I.tuple (SqT.of hp)
  have hlen:ns.length=its.toArray.size:=by rw [List.size_toArray,← rv.length,List.length_map]
  have ht:s.heap.IsTuple p its.toArray:=pl
  obtain ⟨o,e,_⟩:=id ht
  have hne:p≠s.heap.objs.size:=Nat.ne_of_lt (Heap.lt_size e)
  refine call_max_walk (wpAny_pyIter_tuple ht ⟨_,_,_,_,_,_,_,rfl,Walks.tuple hd _ p hne its.toArray,⟨⟨_,Heap.get?_push_size _ rfl,rfl,rfl⟩,ht.push _⟩,lt2 e,by omega,cmp_gt rv,fun v h' tk hv hk=>?_⟩)
  obtain ⟨t,rfl⟩:=int_at rv hv
  rw [← hlen]
  exact ⟨.int (maxL ns),H,I.kept (t':=tk) (keep_push hk),⟨t,rfl⟩,q⟩
end
noncomputable def seqI:W→Option (List Int)
 | .lst ws=>intsW ws
 | .tup ws=>intsW ws
 | _=>none
noncomputable def fBest (g:List Int→Int):List W→R W
 | [w]=>toR (seqI w)>>=fun ns=>if 0<ns.length then .ok (.int (g ns)) else .stuck
 | _=>.stuck
theorem b_best {K:PySem.W.Frag} {d:Mode} {g:List Int→Int}:Cal K .B d (fun xs H Q=>∃ (p:Addr) (ns:List Int),xs = [.ref p]∧(H p=some (.lst (ns.map V.int))∨H p=some (.tup (ns.map V.int)))∧0<ns.length∧Q (.int (g ns)) H) (fBest g):=by
 intro EX H0 Hs G H ρ σ Ha vs ws Q I s m o
 unfold fBest at o
 split at o
 ·rename_i w
  cases m with
  | cons a t=>
   cases t
   cases q:seqI w with
   | none=>rw [q] at o; exact o.elim
   | some ns=>
    rw [q] at o
    replace o:Out EX G H (mdW K d H0 Hs) (if 0<ns.length then R.ok (W.int (g ns)) else .stuck) Q:=o
    by_cases hn:0<ns.length
    ·rw [if_pos hn] at o
     cases w <;> first | cases q | skip
     ·obtain ⟨p,ys,rfl,hs,r⟩:=a.tupB I
      rw [Reps.ints r q] at hs
      exact ⟨p,ns,rfl,.inr hs,hn,o _ G H (Ext.refl I.gh) (Md.sca rfl (fun _=>.int) d)⟩
     ·obtain ⟨p,ys,rfl,hs,r⟩:=a.lstB I
      rw [Reps.ints r q] at hs
      exact ⟨p,ns,rfl,.inl hs,hn,o _ G H (Ext.refl I.gh) (Md.sca rfl (fun _=>.int) d)⟩
    ·rw [if_neg hn] at o; exact o.elim
 ·exact o.elim
end TP
set_option Elab.async false
set_option linter.all false
set_option maxRecDepth 100000
namespace HT
open PySem PySem.Spec PyProof.Rows
theorem look_tuple_rmul:typeLookup (.type "tuple") (dunderR "mul")=pure (some (.builtin "tuple.__rmul__")):=by rw [typeLookup_type,builtinLookup_eq_fast]; kernel_rfl
theorem noFill_tuple_mul:fillsNumberSlot (.type "tuple") "mul" = pure false:=
 PySem.fillsNumberSlot_seq (id := "tuple.__mul__") (r:=some (.builtin "tuple.__rmul__")) F.slot_tuple_mul.lookup (by decide +kernel) look_tuple_rmul (by decide +kernel)
theorem repeat_tuple:seqRepeat? (.type "tuple")=pure (some (.builtin "tuple.__mul__")):=by
 unfold seqRepeat?
 rw [PySem.seqSlot_of (T := "tuple") (name := "__mul__") (id := "tuple.__mul__") F.slot_tuple_mul.lookup (by decide +kernel),PySem.seqSlot_of (T := "tuple") (name := "__rmul__") (id := "tuple.__rmul__") look_tuple_rmul (by decide +kernel)]
 rfl
theorem rmul_declines (a:Int) (t:Tok) (l:Addr) (items:Array Value) (n:Nat) (dd:Option Addr) (sl:Array (Option Value)) :
  Meets (Builtin.«int.__rmul__» ⟨[.int a t,.ref l],[]⟩) (fun _ R s=>s.heap.get? l=some { cls:=.type "tuple",dict:=dd,data:=.seq items n,slots:=sl }∧R (.ok (.ret Value.notImplemented)) s):=
 .of_wp fun prog w A R s h=>by obtain ⟨hp,g,d,tk,os⟩:=s; obtain ⟨hl,h⟩:=h; wp_walk; exact ⟨_,rfl,h⟩
theorem tuple_mul1 (l:Addr) (items:Array Value) (n:Nat) (dd:Option Addr) (sl:Array (Option Value)) (u:Tok) :
  Meets (Builtin.«tuple.__mul__» ⟨[.ref l,.int 1 u],[]⟩) (fun _ R s=>s.heap.get? l=some { cls:=.type "tuple",dict:=dd,data:=.seq items n,slots:=sl }∧R (.ok (.ret (.ref l))) s):=
 .of_wp fun prog w A R s h=>by
  obtain ⟨hp,g,d,tk,os⟩:=s; obtain ⟨hl,h⟩:=h
  have f1:=AutoSeq1.idx_int
  wp_walk using wpAny_loadPart' hl; exact ⟨_,rfl,h⟩
theorem tuple_mul2 (l:Addr) (items:Array Value) (n:Nat) (dd:Option Addr) (sl:Array (Option Value)) (k:Int) (u:Tok) (hc:¬ (decide (k < -(2^63))||decide (k≥2^63))=true)
  (hi:¬ (items.isEmpty||k == 1)=true) (h0:¬ (decide (k≤0)||items.isEmpty)=true) (hm:¬ (items.size*k>(2^63-1)/8)) (hz:¬ Builtin.Tuple.tupleTooMany (items.size*k)=true) (hs0:((List.replicate k.toNat items).foldl (·++·) #[]).size≤sizeLine) :
  Meets (Builtin.«tuple.__mul__» ⟨[.ref l,.int k u],[]⟩) (fun _ R s=>s.heap.get? l=some { cls:=.type "tuple",dict:=dd,data:=.seq items n,slots:=sl }∧R (.ok (.ret (.ref s.heap.objs.size))) { s with heap:=s.heap.push { cls:=.type "tuple",data:=.seq ((List.replicate k.toNat items).foldl (·++·) #[]) } }):=
 .of_wp fun prog w A R s h=>by
  obtain ⟨hp,g,d,tk,os⟩:=s; obtain ⟨hl,h⟩:=h
  have f1:=AutoSeq1.idx_int
  wp_walk using wpAny_loadPart' hl
  rw [if_neg hc]
  wp_walk using wpAny_loadPart' hl
  rw [if_neg hm]
  wp_walk using wpAny_loadPart' hl
  exact ⟨_,rfl,h⟩
end HT
namespace TP
open PySem L2 PySem.Spec PyProof.Rows
theorem len_reps {α:Type} (xs:List α):∀ k:Nat,(List.replicate k xs).flatten.length=k*xs.length
 | 0=>by simp
 | k+1=>by rw [List.replicate_succ,List.flatten_cons,List.length_append,len_reps xs k,Nat.succ_mul,Nat.add_comm]
theorem foldl_reps (its:List Value):∀ (m:Nat) (acc:List Value),List.foldl (fun x1 x2=>x1++x2) acc.toArray (List.replicate m its.toArray)=(acc++(List.replicate m its).flatten).toArray
 | 0,acc=>by simp
 | m+1,acc=>by rw [List.replicate_succ,List.foldl_cons,List.append_toArray,foldl_reps its m (acc++its),List.replicate_succ,List.flatten_cons,List.append_assoc]
noncomputable def rRepT (K:PySem.W.Frag):R2:=fun x y H Q=>∃ a k xs,x=.ref a∧y=.int k∧SqT K H a xs∧xs ≠ []∧1≤k∧k<2^63∧xs.length*k.toNat≤sizeLine ∧
 (k=1→Q (.ref a) H)∧(k≠1→∀ l,H l=none→Q (.ref l) (upd H l (.tup (List.replicate k.toNat xs).flatten)))
variable {X:Cx} {K:PySem.W.Frag}
theorem op_repT (hK:X.K=K:=by rfl):OpR X (binaryOp .Mult) (rRepT K):=by
 subst hK
 intro pins s σ H x y v u Q I rx ry h
 obtain ⟨l,k,xs,rfl,rfl,hH,hne,h1,h2,hz,q1,q2⟩:=h
 cases rx
 obtain ⟨t,rfl⟩:=ry
 obtain ⟨its,r,p,_⟩:=I.tuple hH
 obtain ⟨⟨cls,dd,data,sl⟩,ho,hc,n,hd⟩:=id p
 simp only at hc hd
 subst hc hd
 have hin:its ≠ []:=fun z=>hne (r.nil_iff.mp z)
 refine wpAny_binaryOp_repeat_ref (T := "tuple") (U := "int") (by decide) ⟨_,ho,rfl⟩ (fun s'=>typeIs_int s' k t) HT.noFill_tuple_mul F.fills_int_mul F.slot_int_rmul HT.repeat_tuple F.slot_int_index.lookup
  (call_meets F.slot_int_rmul (typeIs_int s k t) F.entry_int_rmul (F.args_int_rmul_2 _ _) (HT.rmul_declines k t l its.toArray n dd sl)
   ⟨ho,rfl,⟨_,ho,rfl⟩,?_⟩)
 by_cases e:k=1
 ·subst e
  exact call_meets F.slot_tuple_mul ⟨_,ho,rfl⟩ F.entry_tuple_mul (F.args_tuple_mul_2 _ _) (HT.tuple_mul1 l its.toArray n dd sl t) ⟨ho,.ref l,H,I,rfl,q1 rfl⟩
 ·have hnew:List.foldl (fun x1 x2=>x1++x2) #[] (List.replicate k.toNat its.toArray)=(List.replicate k.toNat its).flatten.toArray:=by
   have:=foldl_reps its k.toNat []
   rw [List.nil_append] at this
   exact this
  have hlen:its.length*k.toNat≤sizeLine:=by rw [← r.length]; exact hz
  have hsz:(its.toArray.size:Int)*k≤(sizeLine:Nat):=by
   have e2:((its.length*k.toNat:Nat):Int)=(its.toArray.size:Int)*k:=by
    rw [Int.natCast_mul,Int.toNat_of_nonneg (by omega),List.size_toArray]
   rw [← e2]; exact_mod_cast hlen
  have hcap:((sizeLine:Nat):Int)≤(2^63-1)/8:=by decide
  refine call_meets F.slot_tuple_mul ⟨_,ho,rfl⟩ F.entry_tuple_mul (F.args_tuple_mul_2 _ _) (HT.tuple_mul2 l its.toArray n dd sl k t ?_ ?_ ?_ ?_ ?_ ?_) ⟨ho,?_⟩
  ·simp only [Bool.or_eq_true,decide_eq_true_eq]; omega
  ·simp [hin,e]
  ·simp only [Bool.or_eq_true,decide_eq_true_eq]
   rintro (z | z)
   ·omega
   ·simp [hin] at z
  ·omega
  ·simp only [Builtin.Tuple.tupleTooMany,decide_eq_true_eq]; omega
  ·rw [hnew,List.size_toArray,len_reps,Nat.mul_comm]; exact hlen
  ·rw [hnew]
   refine ⟨.ref s.heap.objs.size,_,I.laid (t':=s.toks) (o:=.tup (List.replicate k.toNat xs).flatten) (fun b ob q=>Heap.get?_push_of_some _ q) (Nat.le_refl _) ?_,rfl,q2 e _ (I.hok.fresh (Nat.le_refl _))⟩
   exact ⟨by rw [len_reps,Nat.mul_comm]; exact hz,_,r.rep k.toNat,IsTup.new _ _⟩
noncomputable def fRepT:W→W→R W
 | .tup us,.int k=>if us ≠ []∧us.length*k.toNat≤1000∧1≤k∧k≤1000 then .ok (.tup (List.replicate k.toNat us).flatten) else .stuck
 | _,_=>.stuck
theorem o2_repT:Op2 K .C .F (rRepT K) fRepT:=by
 intro EX H0 Hs G H ρ σ Ha Hb x y u v Q I s mx my o
 cases u <;> cases v <;> first | exact o.elim | skip
 rename_i us k
 replace o:Out EX G H (mdW K .F H0 Hs) (if us ≠ []∧us.length*k.toNat≤1000∧1≤k∧k≤1000 then .ok (.tup (List.replicate k.toNat us).flatten) else .stuck) Q:=o
 by_cases hn:us ≠ []∧us.length*k.toNat≤1000∧1≤k∧k≤1000
 ·rw [if_pos hn] at o
  obtain ⟨hne,hz,h1,h2⟩:=hn
  have hy:y=.int k:=Md.intB (Md.CB (H:=Hb) I my)
  subst hy
  rcases mx with a | ⟨_,_,_,_,e2,_⟩
  ·cases a with
   | tup h r=>
    refine ⟨_,k,_,rfl,rfl,SqT.of (I.gh _ _ h),?_,h1,by omega,by rw [r.length]; exact le_line hz,?_,?_⟩
    ·intro z
     have:=r.length
     rw [z] at this
     exact hne (List.eq_nil_of_length_eq_zero this.symm)
    ·intro e
     subst e
     refine o _ G H (Ext.refl I.gh) (.tup h ?_)
     simpa using r
    ·intro _ l hl
     exact Out.newTF I (r.rep _) hl o
  ·cases e2
 ·rw [if_neg hn] at o; exact o.elim
end TP
set_option Elab.async false
set_option linter.all false
set_option maxRecDepth 100000
namespace TP
open PySem PySem.W PyProof.Rows
section
variable (r:Nat→Int)
noncomputable def ky (p:Array Nat) (k:Nat):Int:=r (p.getD k 0)
noncomputable def up (p:Array Nat) (n:Nat):Prop:=∀ k,1≤k→k<n→ky r p (k-1)≤ky r p k
end
end TP
set_option Elab.async false
set_option linter.all false
set_option maxRecDepth 100000
namespace TP
open PySem L2
section
variable {prog:Program} {w:World} {A:Around} {E:Value→Shared→Prop} {s:Shared}
end
section
variable {X:Cx}
end
section
variable {K:PySem.W.Frag} {EX:EXT} {H0 G H:Hp} {ρ:Rho} {σ:St}
end
section
variable {X:Cx} {K:PySem.W.Frag} {EX:EXT} {a:Expr} {pos:Pos} {mr:Rho→R (List W)}
end
section
variable {X:Cx}
end
end TP
set_option Elab.async false
set_option linter.all false
set_option maxRecDepth 100000
namespace TP
open PySem L2
noncomputable def lexLt:List Int→List Int→Bool
 | [],[]=>false
 | [],_::_=>true
 | _::_,[]=>false
 | a::as,b::bs=>if a=b then lexLt as bs else decide (a<b)
noncomputable def rankL (ss:List (List Int)) (i:Nat):Int:=((ss.countP fun x=>lexLt x (ss.getD i [])):Nat)
noncomputable def allLt (n:Nat) (p:Array Nat):Prop:=∀ x∈p,x<n
section
open PySem.W PyProof.Rows
variable {n:Nat} (h0:0<n)
include h0
end
section
open PySem.W PyProof.Rows
variable {prog:Program} {w:World} {A:Around} {E:Value→Shared→Prop} {s:Shared}
end
section
open PySem.W PyProof.Rows
variable {prog:Program} {w:World} {A:Around} {E:Value→Shared→Prop} {s:Shared}
end
section
variable {X:Cx} {K:PySem.W.Frag}
end
section
variable {K:PySem.W.Frag}
end
end TP
set_option Elab.async false
set_option linter.all false
set_option maxRecDepth 100000
namespace TP
open PySem L2
set_option maxHeartbeats 2000000
section
variable {X:Cx} {K:PySem.W.Frag}
end
section
variable {K:PySem.W.Frag}
end
end TP
set_option Elab.async false
set_option linter.all false
set_option maxRecDepth 100000
namespace L2
open PySem PySem.Spec PyProof.Rows
section
variable {X:Cx} {pins:List (Addr×Obj)} {σ:St} {H:Hp} {s:Shared} {A:Around} {E:Value→Shared→Prop} {Q:Value→Shared→Prop} {b:Bool}
end
end L2
namespace TP
open PySem L2
section
variable {K:PySem.W.Frag} {d:Mode}
end
end TP
set_option Elab.async false
set_option linter.all false
set_option maxRecDepth 100000
namespace HT
open PySem PyProof.Rows
section
variable {prog:Program} {w:World} {A:Around} {E:Value→Shared→Prop} {s:Shared}
end
end HT
namespace TP
open PySem L2
section
variable {X:Cx}
end
section
variable {K:PySem.W.Frag} {EX:EXT} {H0 G H:Hp} {ρ:Rho} {σ:St} {Q:VK}
end
section
variable {X:Cx} {K:PySem.W.Frag} {EX:EXT} {e:Expr} {pos:Pos} {ma:Rho→R W}
end
end TP
set_option Elab.async false
set_option linter.all false
set_option maxRecDepth 100000
namespace TP
open PySem L2
section
variable {K:PySem.W.Frag} {EX:EXT} {H0 G H G1 H1 F:Hp} {ρ:Rho} {σ:St} {d:Mode} {D:Ends}
end
section
variable {X:Cx} {K:PySem.W.Frag} {EX:EXT} {d:Mode} {e k v:Expr} {pos:Pos} {mk me:Rho→R W}
end
end TP
namespace TP
open PySem L2
set_option maxHeartbeats 2000000
section
variable {X:Cx} {K:PySem.W.Frag}
end
section
variable {K:PySem.W.Frag}
end
end TP
namespace TP
open PySem L2
section
variable {X:Cx} {K:PySem.W.Frag} {EX:EXT} {d:Mode} {p:Pos} {es:List Expr} {mr:Rho→R (List W)}
end
end TP
set_option Elab.async false
set_option linter.all false
set_option maxRecDepth 100000
namespace TB
open PySem PySem.W
end TB
namespace Att
open PySem PySem.W PySem.Calls PyProof.Rows
end Att
namespace L2
open PySem PySem.Spec PyProof.Rows
end L2
namespace TP
open PySem L2
noncomputable def CMulB (i j:Int):Prop:=CMul i j∨Builtin.Int.intBits i+Builtin.Int.intBits j≤134217728
noncomputable instance (i j:Int):Decidable (CMulB i j):=by unfold CMulB; infer_instance
section
variable {X:Cx}
end
end TP
set_option Elab.async false
set_option linter.all false
set_option maxRecDepth 100000
namespace TL
open PySem
theorem no_len:typeLookup (.type "list_reverseiterator") "__len__" = pure none:=by rw [typeLookup_type,builtinLookup_eq_fast]; kernel_rfl
theorem has_hint:typeLookup (.type "list_reverseiterator") "__length_hint__" = pure (some (.builtin "list_reverseiterator.__length_hint__")):=by rw [typeLookup_type,builtinLookup_eq_fast]; kernel_rfl
theorem sub_self:isSubtype (.type "list_reverseiterator") (.type "list_reverseiterator")=pure true:=by rw [isSubtype_type]; kernel_rfl
section
variable {prog:Program} {w:World} {A:Around} {E:Value→Shared→Prop} {s:Shared}
theorem hint_rev {I l:Addr} {i:Int} {Q:Bool→Shared→Prop} (hit:s.heap.IsRevIter I l i) (h:Q false s):wpAny (model prog w) A (Builtin.List.listLengthHint (.ref I)) Q E s:=by
 have hT:=hit.typeIs
 unfold Builtin.List.listLengthHint
 refine wpAny_bind (wpAny_specialOf hT no_len ?_)
 show wpAny _ _ (specialOf (Value.ref I) (Str.ofString "__length_hint__")>>=_) _ _ _; refine wpAny_bind (wpAny_specialOf hT has_hint ?_)
 have hsp:splitId "list_reverseiterator.__length_hint__" = some ("list_reverseiterator", "__length_hint__"):=by decide +kernel
 dsimp only
 rw [hsp]
 dsimp only
 refine wpAny_bind (wpAny_isInstance (T := "list_reverseiterator") (b:=true) hT sub_self ?_)
 rw [if_neg (show ¬ ((!true)=true) by decide)]
 refine wpAny_ite_split (fun _=>?_) (fun hab=>absurd (by decide +kernel) hab)
 rw [if_neg (show ¬ ((Value.builtin "list_reverseiterator.__length_hint__" == Value.builtin "range_iterator.__length_hint__")=true) by decide)]
 exact wpAny_pure h
theorem ext_rev {R:Result→Shared→Prop} {I l S:Addr} {items:Array Value} {c₀:Nat} (res:Value) (hh:A.handled=none) (hne:l≠I) (hit:s.heap.IsRevIter I l ((items.size:Int)-1)) (hl:s.heap.IsList l items) (hSI:S≠I) (hSl:S≠l) (hn:items.size≤sizeLine)
  (hS:s.heap.get? S=some { cls:=.type "list",data:=.seq #[] c₀ })
  (hR:∀ h' tk acc' c',(∀ b o,b≠S→b≠I→s.heap.get? b=some o→h'.get? b=some o)→h'.get? S=some { cls:=.type "list",dict:=none,data:=.seq acc' c',slots:=#[] }→ItemsOf (fun i v=>items[items.size-1-i]?=some v) acc' items.size→R (.ok (.ret res)) { s with heap:=h',toks:=tk }) :
  wpAny (model prog w) A.in1 (Builtin.List.listExtendWith (.ref S) (.ref I) res)
   (fun fin s'=>match fin with | .done f=>R (.ok f) s' | .again c'=>c'.quiet=true∧codeAny (model prog w) A c' R s') (fun e s'=>R (.error e) s') s:=by
 have W:=(Walks.listRev (prog:=prog) (w:=w) (A:=A.in1) hh I l hne items).toS
 have hSf:S ∉ [I,l]:=by simp [hSI,hSl]
 unfold Builtin.List.listExtendWith; refine wpAny_bind (wpAny_typeOf hit.typeIs ?_)
 have h1:Builtin.List.listSameRef (.ref S) (.ref I)=false:=by simp [Builtin.List.listSameRef,hSI]
 have h2:(Value.type "list_reverseiterator" == Value.type "list")=false∧(Value.type "list_reverseiterator" == Value.type "tuple")=false:=by decide
 rw [h1,h2.1,h2.2]; simp only [Bool.or_false,Bool.false_eq_true,if_false]
 refine wpAny_bind (wpAny_pyIter_revIter hit ?_)
 refine wpAny_bind (wpAny_holding (hint_rev hit ?_))
 refine wpAny_ite_split (fun hab=>absurd hab (by decide +kernel)) (fun _=>?_)
 refine wpAny_pure ⟨plainId_quiet F.plain_extend_loop _,?_⟩
 refine codeAny_extend_loopS W hn S hSf res items.size 0 s #[] c₀ rfl (Nat.zero_le _) ⟨Nat.zero_le _,by simpa using hit,hl⟩ hS (ItemsOf.nil _) fun s' acc' c' hm hS' hacc=>?_
 rw [Moved.eq_with hm]; exact hR s'.heap s'.toks acc' c' (fun b o hb hbI e=>hm.heap b o (by simp [hb,hbI]) e) hS' hacc
theorem call_list_rev {I l:Addr} {items:Array Value} {Q:Value→Shared→Prop} (hh:A.handled=none) (hne:l≠I) (hit:s.heap.IsRevIter I l ((items.size:Int)-1)) (hl:s.heap.IsList l items) (hn:items.size≤sizeLine)
  (hQ:∀ h' tk acc' c',(∀ b o,b≠I→s.heap.get? b=some o→h'.get? b=some o)→h'.get? s.heap.objs.size=some { cls:=.type "list",dict:=none,data:=.seq acc' c',slots:=#[] }→ItemsOf (fun i v=>items[items.size-1-i]?=some v) acc' items.size→Q (.ref s.heap.objs.size) { s with heap:=h',toks:=tk }) :
  wpAny (model prog w) A (call (.type "list") [.ref I]) Q E s:=by
 obtain ⟨oi,hi,hi2⟩:=id hit
 obtain ⟨ol,hol,hol2⟩:=id hl
 have hSI:s.heap.objs.size≠I:=fun e=>absurd (Heap.lt_size hi) (by rw [← e]; exact Nat.lt_irrefl _)
 have hSl:s.heap.objs.size≠l:=fun e=>absurd (Heap.lt_size hol) (by rw [← e]; exact Nat.lt_irrefl _)
 refine callType_codes (Q₁:=fun obj s₁=>obj=.ref s.heap.objs.size∧s₁={ s with heap:=s.heap.push { cls:=.type "list",data:=.seq #[] } }) F.called_list (F.typeCall_list_1 _) F.entry_list_init (code_list_new _ ⟨rfl,rfl⟩) fun obj s₁ h₁=>?_
 obtain ⟨rfl,rfl⟩:=h₁
 have hS:(s.heap.push { cls:=.type "list",data:=.seq #[] }).get? s.heap.objs.size=some { cls:=.type "list",data:=.seq #[] }:=Heap.get?_push_size _ rfl
 refine ⟨⟨_,hS,rfl⟩,F.args_list_init_2 _ _,?_⟩
 show wpAny _ _ (do let old ← Builtin.List.listItems (.ref s.heap.objs.size); Builtin.List.listUpdate (.ref s.heap.objs.size) (fun _=>#[]); letGo old.toList.reverse; Builtin.List.listExtendWith (.ref s.heap.objs.size) (.ref I) .none) _ _ _
 refine wpAny_bind ?_; unfold Builtin.List.listItems; refine wpAny_bind (wpAny_seqItems hS rfl (wpAny_pure ?_))
 show wpAny _ _ (updateSeq s.heap.objs.size (fun _=>#[])>>=fun _=>letGo (#[]:Array Value).toList.reverse>>=fun _=>Builtin.List.listExtendWith (.ref s.heap.objs.size) (.ref I) .none) _ _ _
 refine wpAny_bind (wpAny_updateSeq hS rfl ?_)
 have hS₂:=Heap.get?_update_self (Obj.mapSeq (fun _=>(#[]:Array Value))) hS rfl
 have oth:∀ b o,s.heap.get? b=some o→((s.heap.push { cls:=.type "list",data:=.seq #[] }).update s.heap.objs.size (Obj.mapSeq (fun _=>(#[]:Array Value)))).get? b=some o:=fun b o e=>by
  have hb:b≠s.heap.objs.size:=fun z=>absurd (Heap.lt_size e) (by rw [z]; exact Nat.lt_irrefl _)
  exact (Heap.get?_update_other _ _ (Ne.symm hb)).trans (Heap.get?_push_of_some _ e)
 refine wpAny_bind (wpAny_letGo ?_)
 refine ext_rev (s:={ s with heap:=(s.heap.push { cls:=.type "list",data:=.seq #[] }).update s.heap.objs.size (Obj.mapSeq (fun _=>(#[]:Array Value))) }) .none hh hne ⟨oi,oth _ _ hi,hi2⟩ ⟨ol,oth _ _ hol,hol2⟩ hSI hSl hn hS₂ fun h' tk acc' c' hk hS' hacc=>?_
 refine ⟨rfl,hQ h' tk acc' c' (fun b o hb e=>hk b o (fun z=>absurd (Heap.lt_size e) (by rw [z]; exact Nat.lt_irrefl _)) hb (oth b o e)) hS' hacc⟩
end
end TL
namespace TP
open PySem L2
theorem rev_items {its:List Value} {acc:Array Value} (h:ItemsOf (fun i v=>its.toArray[its.toArray.size-1-i]?=some v) acc its.toArray.size):acc.toList=its.reverse:=by
 obtain ⟨h1,h2⟩:=h
 have hl:its.toArray.size=its.length:=List.size_toArray
 rw [hl] at h1
 apply List.ext_getElem
 ·rw [Array.length_toList,List.length_reverse,h1]
 ·intro i q1 q2
  have hi:i<acc.size:=by simpa using q1
  have:=h2 i acc[i] (Array.getElem?_eq_getElem hi)
  rw [hl] at this
  rw [List.getElem_reverse,Array.getElem_toList]
  have e:its.toArray[its.length-1-i]?=some (its[its.length-1-i]'(by omega)):=by simp
  rw [e] at this
  exact (Option.some.inj this).symm
section
variable {X:Cx}
noncomputable def tRv (K:PySem.W.Frag) (f:List V→HO) (ta:TA):TE:=fun σ H Q=>ta σ H fun vs H1=>∃ a xs,vs = [.ref a]∧SqL K H1 a xs∧∀ p,H1 p=none→Q (.ref p) (upd H1 p (f xs.reverse))
theorem pe_lrev {a:Expr} {ta:TA} {p pos p2 pos2:Pos} (hc:X.calm=true) (hgl:Gl X "list") (hml:X.mg "list" = none) (hg:Gl X "reversed") (hm:X.mg "reversed" = none) (ha:PA X [a] ta) (hs:starEach [a] X.env = [(false,eval a X.env)]:=by rfl)
  (hs2:starEach [.Call (.Name "reversed" p2) [a] [] pos2] X.env = [(false,eval (.Call (.Name "reversed" p2) [a] [] pos2) X.env)]:=by rfl):PE X (.Call (.Name "list" p) [.Call (.Name "reversed" p2) [a] [] pos2] [] pos) (tRv X.K .lst ta):=by
 intro pins s σ H Q I h
 refine wpAny_Call_Name_kw (ld_blt I hgl hml bt_list ?_ (by decide) (by decide))
 refine PyProof.Rows.callWith_type1 ?_ hs2 (by rfl)
 rw [hs2]
 show wpAny _ _ (spliced [(false,eval (.Call (.Name "reversed" p2) [a] [] pos2) X.env)]) _ _ s
 refine Calls.spliced_cons ?_
 refine wpAny_Call_Name_kw (ld_blt I hg hm bt_reversed ?_ (by decide) (by decide))
 refine PyProof.Rows.callWith_type1 (thn (ha pos2 pins s σ H _ I h) fun us s1 zz81=>?_) hs (by rfl)
 obtain ⟨vs,H1,I1,r1,q1⟩:=zz81
 obtain ⟨b,xs,e,hq,q⟩:=q1
 subst e
 obtain ⟨u,rfl,ru⟩:=vals_one r1
 cases ru
 obtain ⟨its,rv,pl,hz⟩:=I1.list hq
 have hl:=rv.length
 have hsz:its.toArray.size≤sizeLine:=by rw [List.size_toArray,← hl]; exact hz
 obtain ⟨ol,hol,hol2⟩:=id pl.isList
 have hbI:b≠s1.heap.objs.size:=fun z=>absurd (Heap.lt_size hol) (by rw [z]; exact Nat.lt_irrefl _)
 refine call_reversed_list pl.isList (Calls.spliced_nil ?_)
 refine TL.call_list_rev (s:={ s1 with heap:=s1.heap.push (revObj b ((its.toArray.size:Int)-1)) }) (I1.ok.hd hc) hbI ⟨_,Heap.get?_push_size _ rfl,rfl,rfl⟩ ⟨ol,Heap.get?_push_of_some _ hol,hol2⟩ hsz fun h' tk acc' c' hk hS hacc=>?_
 have e1:=rev_items hacc
 have hkeep:∀ b o,s1.heap.get? b=some o→h'.get? b=some o:=fun b o e=>hk b o (fun z=>absurd (Heap.lt_size e) (by rw [z]; exact Nat.lt_irrefl _)) (Heap.get?_push_of_some _ e)
 have hge:s1.heap.objs.size≤(s1.heap.push (revObj b ((its.toArray.size:Int)-1))).objs.size:=by rw [show (s1.heap.push (revObj b ((its.toArray.size:Int)-1))).objs.size=s1.heap.objs.size+1 from by simp [Heap.push]]; omega
 refine ⟨.ref (s1.heap.push (revObj b ((its.toArray.size:Int)-1))).objs.size,_,I1.laid (t':=tk) hkeep hge (show ObjOk X.prog X.w _ h' _ (.lst xs.reverse) from ⟨by rw [List.length_reverse]; exact hz,its.reverse,c',Vals.reverse rv,?_⟩),rfl,q _ (I1.hok.fresh hge)⟩
 rw [← e1]; simpa using hS
end
noncomputable def fLrev:List W→R W
 | [w]=>match w with
  | .lst ws=>chks false ws.reverse
  | _=>.stuck
 | _=>.stuck
section
variable {K:PySem.W.Frag} {EX:EXT} {σ:St} {H:Hp} {Q:VK}
theorem c_lrev {ma:Rho→R (List W)} (h:tM K EX .F (bA fLrev ma) σ H Q):tRv K .lst (tA K EX .B ma) σ H Q:=by
 obtain ⟨H0,G,ρ,I,o⟩:=h
 replace o:Out EX G H (mdW K .F H0 H) (ma ρ>>=fLrev) Q:=o
 refine ⟨H0,G,ρ,I,Out.bind o fun xs G1 H1 ws e1 m1 o1=>?_⟩
 have I1:=I.ext e1
 cases m1 with
 | nil=>exact o1.elim
 | cons a t=>
  cases t with
  | cons _ _=>exact o1.elim
  | nil=>
   rename_i w v
   cases w <;> first | exact o1.elim | skip
   rename_i us
   obtain ⟨p,vs,rfl,hs,r⟩:=a.lstB I1
   exact ⟨p,vs,rfl,SqL.of hs,Out.chks I1 e1.hh (c:=false) (by rw [if_neg Bool.false_ne_true]; exact r.reverse) o1⟩
end
section
variable {X:Cx} {K:PySem.W.Frag} {EX:EXT} {a:Expr} {pos:Pos} {mr:Rho→R (List W)}
theorem q_lrev {p p2 pos2:Pos} (hc:X.calm=true) (hgl:Gl X "list") (hml:X.mg "list" = none) (hg:Gl X "reversed") (hm:X.mg "reversed" = none) (ha:PA X [a] (tA K EX .B mr)) (hK:X.K=K:=by rfl) (hs:starEach [a] X.env = [(false,eval a X.env)]:=by rfl)
  (hs2:starEach [.Call (.Name "reversed" p2) [a] [] pos2] X.env = [(false,eval (.Call (.Name "reversed" p2) [a] [] pos2) X.env)]:=by rfl):PE X (.Call (.Name "list" p) [.Call (.Name "reversed" p2) [a] [] pos2] [] pos) (tM K EX .F (bA fLrev mr)):=by
 subst hK; exact (pe_lrev hc hgl hml hg hm ha hs hs2).mono fun _ _ _ q=>c_lrev q
end
theorem fLrev_I (ns:List Int):fLrev [.lst (ns.map W.int)]=.ok (.lst (ns.reverse.map W.int)):=by
 have hn:∀ l:List Int,noLs (l.map W.int)=true:=fun l=>by induction l with | nil=>rfl | cons a l ih=>simpa [noLs,noL] using ih
 show TP.chks false (ns.map W.int).reverse=_
 rw [← List.map_reverse]
 unfold TP.chks
 rw [hn,Bool.or_true,if_pos rfl]
end TP
set_option Elab.async false
set_option linter.all false
set_option maxRecDepth 100000
namespace TP
open PySem L2
noncomputable def idxW (u:W) (ws:List W):Option Nat:=(pds ws).findIdx? fun y=>PyData.eqv y (pd u)
noncomputable def rIndex (K:PySem.W.Frag):V→List V→Hp→VK→Prop:=fun x vs H Q=>∃ u ws y j,vs = [y]∧Rep K H y u∧Rep K H x (.lst ws)∧shp 8 u=true∧shp 8 (.lst ws)=true∧idxW u ws=some j∧j<1000∧Q (.int (j:Int)) H
section
variable {X:Cx}
theorem mt_index (hu:X.A.units+64<cLine):MtR X "list.index" (rIndex X.K):=by
 intro pins s σ H x vs v us Q I rx rv h
 obtain ⟨u,ws,y,j,rfl,ry,rc,su,sc,hj,hj1,q⟩:=h
 obtain ⟨uy,rfl,rr⟩:=rv.one
 obtain ⟨as,qa⟩:=Rep.reads I 8 ry su rr
 obtain ⟨bs,qb⟩:=Rep.reads I 8 rc sc rx
 have la:=shp_ok u 8 su
 have lc:=shps_ok ws 7 sc
 have hm:X.A.units+1+min (PyData.depthAll (pds ws)) (pd u).depth<cLine:=by have:=Nat.min_le_left (PyData.depthAll (pds ws)) (pd u).depth; omega
 have qb:Reads s.heap v (.list (pds ws)) bs:=qb
 cases qb with
 | list h1 h2 h3 h4=>
  rename_i a o items n as'
  obtain ⟨oc,od,odt,osl⟩:=o
  have h2:oc=.type "list" := h2
  have h3:odt=.seq items n:=h3
  subst h2 h3
  have hmap:=SeqAt.readsAll_map (pds ws) _ _ lc.1 h4
  have heq:=SeqAt.items_eqAt (A:=X.A) h4 qa lc.1 la.1 hm
  unfold idxW at hj
  rw [← hmap,List.findIdx?_map,List.findIdx?_eq_some_iff_getElem] at hj
  obtain ⟨hlt,ht,hno⟩:=hj
  have hlt':j<items.size:=by simpa using hlt
  refine call_meets PySem.F.slot_list_index ⟨_,h1,rfl⟩ PySem.F.entry_list_index (PySem.F.args_list_index_2 _ _) (SeqAt.list_indexAt a items n od osl uy (fun z=>PyData.eqv (SeqAt.readOf s.heap z) (pd u)) j hlt' (by omega) (by simpa using ht) (fun m hm1 hm2=>by simpa using hno m hm2)) ⟨h1,heq,?_⟩
  exact ⟨.int (j:Int),H,I.tok _,⟨_,rfl⟩,q⟩
end
noncomputable def idxR (ws:List W) (u:W):R W:=if (shp 8 u&&shp 8 (.lst ws))=true then (match idxW u ws with
 | some j=>if j<1000 then .ok (.int (j:Int)) else .stuck
 | none=>.stuck) else .stuck
noncomputable def Rix (x:R W) (y:R W):R W:=x>>=fun x=>(match x with
 | .lst ws=>y>>=fun y=>idxR ws y
 | _=>.stuck)
noncomputable def mIdx (mo me:Rho→R W):Rho→R W:=fun ρ=>Rix (mo ρ) (me ρ)
theorem mIdx_ap (mo me:Rho→R W) (ρ:Rho):mIdx mo me ρ=Rix (mo ρ) (me ρ):=rfl
theorem Rix_ok (ws:List W) (u:W):Rix (.ok (.lst ws)) (.ok u)=idxR ws u:=rfl
section
variable {K:PySem.W.Frag} {EX:EXT} {d:Mode} {σ:St} {H:Hp} {Q:VK}
theorem c_index {mo me:Rho→R W} (h:tM K EX d (mIdx mo me) σ H Q):tBM K "list" (rIndex K) (tM K EX .B mo) (tA K EX .B (aC me aN)) σ H Q:=by
 obtain ⟨H0,G,ρ,I,o⟩:=h
 unfold mIdx Rix at o
 refine ⟨H0,G,ρ,I,Out.bind o fun x G1 H1 w e1 m1 o1=>?_⟩
 have I1:=I.ext e1
 cases w <;> first | exact o1.elim | skip
 rename_i ws
 obtain ⟨p,vs,rfl,hs,_⟩:=m1.lstB I1
 refine ⟨.inl ⟨rfl,vs,SqL.of hs⟩,H0,G1,ρ,I1,?_⟩
 have key:Out EX G1 H1 (mdW K .B H0 H1) (me ρ) fun y H2=>rIndex K (.ref p) [y] H2 Q:=Out.bind (md:=mdW K .B H0 H1) o1 fun y G2 H2 u e2 m2 o2=>by
  have I2:=I1.ext e2
  unfold idxR at o2
  by_cases c:(shp 8 u&&shp 8 (.lst ws))=true
  ·rw [if_pos c] at o2
   have c':shp 8 u=true∧shp 8 (.lst ws)=true:=by simpa using c
   cases hj:idxW u ws with
   | none=>rw [hj] at o2; exact o2.elim
   | some j=>
    rw [hj] at o2
    by_cases hl:j<1000
    ·dsimp only at o2
     rw [if_pos hl] at o2
     exact ⟨u,ws,y,j,rfl,m2.whole I2,(m1.move e2).whole I2,c'.1,c'.2,hj,hl,o2 _ G2 H2 (Ext.refl I2.gh) (Md.sca rfl (fun _=>.int) d)⟩
    ·dsimp only at o2
     rw [if_neg hl] at o2; exact o2.elim
  ·rw [if_neg c] at o2; exact o2.elim
 show Out EX G1 H1 (mdA K .B H0 H1) (me ρ>>=fun w=>aN ρ>>=fun ws=>.ok (w::ws)) _
 revert key
 cases me ρ with
 | stuck=>exact id
 | ex e=>exact id
 | ok u=>
  intro key v G2 H2 e2 m2
  cases m2 with
  | cons a t=>cases t; exact key _ G2 H2 e2 a
end
section
variable {X:Cx} {K:PySem.W.Frag} {EX:EXT} {d:Mode} {o e:Expr} {apos cpos:Pos} {mo me:Rho→R W}
theorem q_index (hu:X.A.units+64<cLine) (ho:PE X o (tM K EX .B mo)) (he:PE X e (tM K EX .B me)) (hK:X.K=K:=by rfl)
  (hbase:attributeBase o "index" X.env (eval o X.env)=eval o X.env:=by rfl)
  (hfew:((backTo cpos (starEach [e] X.env)).all (fun x=>!x.1)&&(backToKw cpos (keywordEach [] X.env)).all (fun x=>x.1.isSome)
   && decide (([e]:List Expr).length+([]:List Keyword).length+(if ([]:List Keyword).isEmpty then 0 else 1)<30))=true:=by rfl)
  (hline:(apos.endLine == cpos.line)=true:=by rfl) (hs:starEach [e] X.env=(false,eval e X.env)::starEach [] X.env:=by rfl) (hplain:(backTo cpos (starEach [] X.env)).any (·.1)=false:=by rfl) :
  PE X (.Call (.Attribute o "index" apos) [e] [] cpos) (tM K EX d (mIdx mo me)):=by
 subst hK; exact (pe_bm PySem.F.plainAttrs_list PySem.F.slot_list_index PySem.F.type_list_index (mt_index hu) ho (q_acons he q_anil hs) hbase hfew hline hs hplain).mono fun _ _ _ q=>c_index q
end
end TP
set_option Elab.async false
set_option linter.all false
set_option maxRecDepth 100000
namespace TP
open PySem L2
noncomputable def OutW (K:PySem.W.Frag) (EX:EXT) (d:Mode) (H0:Hp) (r:R Fl) (D:Ends):Prop:=match r with
 | .ok (.nx ρ)=>∀ G' σ' H',PIv K H0 G' ρ σ' H'→D.nx σ' H'
 | .ok (.bk ρ)=>∀ G' σ' H',PIv K H0 G' ρ σ' H'→D.bk σ' H'
 | .ok (.ct ρ)=>∀ G' σ' H',PIv K H0 G' ρ σ' H'→D.ct σ' H'
 | .ok (.rt w)=>∀ v G' H',Same G' H'→Same H0 H'→(∀ a o,H0 a=some o→isL o=true→G' a=none)→Md K H0 H0 G' H' v w d→D.rt v H'
 | .ex e=>∀ H',Same H0 H'→EX e H'
 | .stuck=>False
noncomputable def tStW (K:PySem.W.Frag) (EX:EXT) (d:Mode) (m:Rho→R Fl):TS:=fun D σ H=>∃ H0 G ρ,PIv K H0 G ρ σ H∧OutW K EX d H0 (m ρ) D
section
variable {K:PySem.W.Frag} {EX:EXT} {H0 G H G1 H1 G2 H2:Hp} {ρ:Rho} {σ:St} {d:Mode} {D:Ends}
theorem upd_at {H:Hp} {a:Addr} {o:HO}:upd H a o a=some o:=by unfold upd; rw [if_pos rfl]
noncomputable def clS:Sl→Sl
 | .un=>.un
 | .val w=>if noL w=true then .val w else .un
 | .par w=>if noL w=true then .val w else .un
 | .own ws=>if noLs ws=true then .own ws else .un
 | .dic ks=>.dic ks
 | .dik ks=>.dik ks
 | .iop p ws=>if noLs ws=true then .iop p ws else .un
 | .hz _=>.un
noncomputable def subS (i j:Nat) (us ws':List W) (ρ:Rho):Rho:=(ρ.map clS).set i (.val (.tup (us.set j (.lst ws'))))
end
section
variable {X:Cx} {K:PySem.W.Frag} {EX:EXT} {d:Mode} {e:Expr} {pos:Pos} {ma:Rho→R W} {m n:Rho→R Fl} {ta:Rho→R Bool} {st:Stmt} {sts:List Stmt}
end
end TP
namespace TP
open PySem L2
set_option maxHeartbeats 2000000
section
variable {X:Cx} {K:PySem.W.Frag}
end
section
variable {K:PySem.W.Frag}
end
end TP
set_option Elab.async false
set_option linter.all false
set_option maxRecDepth 100000
namespace TP
open PySem L2
noncomputable def Hx (p:Addr) (H0 H1:Hp):Prop:=(∀ a,a≠p→H1 a=H0 a)∧∃ vs,H1 p=some (.lst vs)
noncomputable def OutIo (K:PySem.W.Frag) (EX:EXT) (p:Addr) (H0:Hp) (r:R Fl) (D:Ends):Prop:=match r with
 | .ok (.nx ρ)=>∀ H0' G' σ' H',Hx p H0 H0'→PIv K H0' G' ρ σ' H'→D.nx σ' H'
 | .ok (.bk ρ)=>∀ H0' G' σ' H',Hx p H0 H0'→PIv K H0' G' ρ σ' H'→D.rt .non H'
 | .ex e=>∀ H',EX e H'
 | _=>False
noncomputable def tStI (K:PySem.W.Frag) (EX:EXT) (p:Addr) (m:Rho→R Fl):TS:=fun D σ H=>∃ H0 G ρ,PIv K H0 G ρ σ H∧(∃ vs,H0 p=some (.lst vs))∧OutIo K EX p H0 (m ρ) D
noncomputable def nbR:R Fl→R Fl
 | .ok (.nx ρ)=>.ok (.nx ρ)
 | .ex e=>.ex e
 | _=>.stuck
noncomputable def nb (m:Rho→R Fl):Rho→R Fl:=fun ρ=>nbR (m ρ)
section
variable {K:PySem.W.Frag} {EX:EXT} {H0 H0' G H G1 H1 G2 H2:Hp} {ρ:Rho} {σ:St} {d:Mode} {D:Ends} {p:Addr}
theorem Hx.refl (h:∃ vs,H0 p=some (.lst vs)):Hx p H0 H0:=⟨fun _ _=>rfl,h⟩
theorem Hx.trans {A B C:Hp} (h:Hx p A B) (g:Hx p B C):Hx p A C:=⟨fun a q=>(g.1 a q).trans (h.1 a q),g.2⟩
theorem OutIo.move {r:R Fl} (s:Hx p H0 H0') (o:OutIo K EX p H0 r D):OutIo K EX p H0' r D:=by
 cases r with
 | stuck=>exact o
 | ex e=>exact o
 | ok f=>
  cases f with
  | nx ρ'=>exact fun A G' σ' H' h I'=>o A G' σ' H' (s.trans h) I'
  | bk ρ'=>exact fun A G' σ' H' h I'=>o A G' σ' H' (s.trans h) I'
  | ct ρ'=>exact o
  | rt w=>exact o
theorem OutIo.bind {α β:Type} {md:α→β→Hp→Hp→Prop} {m:R α} {k:α→R Fl} {Q1:β→Hp→Prop} (o:OutIo K EX p H0 (m>>=k) D)
  (h:∀ x G1 H1 w,Ext G H G1 H1→md w x G1 H1→OutIo K EX p H0 (k w) D→Q1 x H1):Out EX G H md m Q1:=by
 cases m with
 | ok w=>exact fun v G' H' e q=>h v G' H' w e q o
 | ex e=>exact fun H' _=>o H'
 | stuck=>exact o
theorem tStI.toS {m:Rho→R Fl} (h:tStI K EX p (nb m) D σ H):tSt K EX d m D σ H:=by
 obtain ⟨H0,G,ρ,I,hp,o⟩:=h
 refine ⟨H0,G,ρ,I,?_⟩
 unfold nb at o
 revert o
 cases m ρ with
 | stuck=>exact id
 | ex e=>exact fun o H' _=>o H'
 | ok f=>
  cases f with
  | nx ρ'=>exact fun o G' σ' H' _ I'=>o H0 G' σ' H' (Hx.refl hp) I'
  | bk ρ'=>exact fun o=>o.elim
  | ct ρ'=>exact fun o=>o.elim
  | rt w=>exact fun o=>o.elim
theorem c_seqI {m n:Rho→R Fl} (h:tStI K EX p (mSeq m n) D σ H):tSeq (tStI K EX p m) (tStI K EX p n) D σ H:=by
 obtain ⟨H0,G,ρ,I,hp,o⟩:=h
 refine ⟨H0,G,ρ,I,hp,?_⟩
 unfold mSeq at o
 revert o
 cases m ρ with
 | stuck=>exact id
 | ex e=>exact id
 | ok f=>
  cases f with
  | nx ρ'=>exact fun o A G' σ' H' s I'=>⟨A,G',ρ',I',s.2,OutIo.move s o⟩
  | _=>exact id
theorem c_ifI {c:Rho→R Bool} {m n:Rho→R Fl} (h:tStI K EX p (mIf c m n) D σ H):tIfS (tT K EX c) (tStI K EX p m) (tStI K EX p n) D σ H:=by
 obtain ⟨H0,G,ρ,I,hp,o⟩:=h
 refine ⟨H0,G,ρ,I,OutIo.bind o fun x G1 H1 w e1 m1 o1=>?_⟩
 cases m1
 cases x with
 | true=>exact ⟨H0,G1,ρ,I.ext e1,hp,o1⟩
 | false=>exact ⟨H0,G1,ρ,I.ext e1,hp,o1⟩
noncomputable def sBkI:Rho→R Fl:=fun ρ=>.ok (.bk ρ)
theorem c_retI (h:tStI K EX p sBkI D σ H):tRetN D σ H:=by
 obtain ⟨H0,G,ρ,I,hp,o⟩:=h
 exact o H0 G σ H (Hx.refl hp) I
noncomputable def clI:Sl→Sl
 | .un=>.un
 | .val w=>.val w
 | .par w=>if noL w=true then .val w else .un
 | .own ws=>.own ws
 | .dic ks=>.dic ks
 | .dik ks=>.dik ks
 | .iop _ _=>.un
 | .hz _=>.un
theorem clI_own {s:Sl} {ws:List W} (h:clI s=.own ws):s=.own ws:=by
 cases s with
 | un=>cases h
 | val w=>cases h
 | par w=>
  by_cases c:noL w=true
  ·rw [clI,if_pos c] at h; cases h
  ·rw [clI,if_neg c] at h; cases h
 | own us=>exact h
 | dic ks=>cases h
 | dik ks=>cases h
 | iop q us=>cases h
 | hz _=>cases h
noncomputable def appI (i:Nat) (p:Addr) (ws:List W) (ρ:Rho):Rho:=(ρ.map clI).set i (.iop p ws)
theorem PIv.appI {i:Nat} {ws:List W} {vs vs':List V} (I:PIv K H0 G ρ σ H) (hi:i<ρ.length) (es:σ[i]?=some (some (.ref p))) (hp:H0 p=some (.lst vs)) (rv:Reps K G vs' ws):PIv K (upd H0 p (.lst vs')) G (appI i p ws ρ) σ (upd H p (.lst vs')):=by
 have gp:G p=none:=I.gl p _ hp rfl
 refine ⟨fun b o hb hl=>?_,fun b o hb hl=>?_,fun b o hb=>?_,fun b o hb=>?_,?_,fun k x o h1 h2=>?_,fun x y u1 u2 c hab h1 h2 h3 h4=>?_⟩
 ·by_cases q:b=p
  ·subst q; rw [upd_at] at hb; cases hb; cases hl
  ·rw [upd_ne q] at hb; exact I.g0 b o hb hl
 ·by_cases q:b=p
  ·subst q; exact gp
  ·rw [upd_ne q] at hb; exact I.gl b o hb hl
 ·have q:b≠p:=by rintro rfl; rw [gp] at hb; cases hb
  rw [upd_ne q]; exact I.gh b o hb
 ·by_cases q:b=p
  ·subst q; rw [upd_at] at hb ⊢; exact hb
  ·rw [upd_ne q] at hb ⊢; exact I.hh b o hb
 ·unfold TP.appI; rw [List.length_set,List.length_map]; exact I.len
 ·unfold TP.appI at h1
  by_cases q:i=k
  ·subst q
   rw [List.getElem?_set_self (by rw [List.length_map]; exact hi)] at h1
   cases h1
   rw [es] at h2; cases h2
   exact ⟨rfl,vs',upd_at,rv⟩
  ·rw [List.getElem?_set_ne q,List.getElem?_map] at h1
   obtain ⟨s,hs,rfl⟩:=Option.map_eq_some_iff.mp h1
   have old:=I.sl k s o hs h2
   cases s with
   | un=>trivial
   | val w=>exact old
   | par w=>
    rw [clI]
    by_cases c:noL w=true
    ·rw [if_pos c]
     obtain ⟨v,ev,r⟩:=old
     exact ⟨v,ev,Rep.clean I r c⟩
    ·rw [if_neg c]; trivial
   | own ws=>
    obtain ⟨b,us',eb,hb,hgb,h0b,rb⟩:=old
    have hbl:b≠p:=by rintro rfl; rw [hp] at h0b; cases h0b
    exact ⟨b,us',eb,by rw [upd_ne hbl]; exact hb,hgb,by rw [upd_ne hbl]; exact h0b,rb⟩
   | dic ks=>
    obtain ⟨b,us',eb,hb,hgb,h0b,rb⟩:=old
    have hbl:b≠p:=by rintro rfl; rw [hp] at h0b; cases h0b
    exact ⟨b,us',eb,by rw [upd_ne hbl]; exact hb,hgb,by rw [upd_ne hbl]; exact h0b,rb⟩
   | dik ks=>
    obtain ⟨b,us',eb,hb,hgb,h0b,rb⟩:=old
    have hbl:b≠p:=by rintro rfl; rw [hp] at h0b; cases h0b
    exact ⟨b,us',eb,by rw [upd_ne hbl]; exact hb,hgb,by rw [upd_ne hbl]; exact h0b,rb⟩
   | iop q us=>trivial
   | hz _=>trivial
 ·have key:∀ {k:Nat} {u:List W},(TP.appI i p ws ρ)[k]?=some (.own u)→ρ[k]?=some (.own u):=fun {k u} hk=>by
   unfold TP.appI at hk
   by_cases q:i=k
   ·subst q
    rw [List.getElem?_set_self (by rw [List.length_map]; exact hi)] at hk
    cases hk
   ·rw [List.getElem?_set_ne q,List.getElem?_map] at hk
    obtain ⟨s,hs,h⟩:=Option.map_eq_some_iff.mp hk
    rw [hs,clI_own h]
  exact I.ne x y u1 u2 c hab (key h1) (key h2) h3 h4
noncomputable def mAppI (p:Addr) (i:Nat) (m:Rho→R W):Rho→R Fl:=fun ρ=>match ρ[i]? with
 | some (.iop q ws)=>m ρ>>=fun w=>if q=p∧ws.length<1000 then .ok (.nx (appI i p (ws ++ [w]) ρ)) else .stuck
 | _=>.stuck
theorem c_appI {i:Nat} {m:Rho→R W} (h:tStI K EX p (mAppI p i m) D σ H):tDrop (tApp (tVar i) (tM K EX .V m)) D σ H:=by
 obtain ⟨H0,G,ρ,I,hp,o⟩:=h
 unfold mAppI at o
 split at o
 ·rename_i q ws e
  have hi:=(List.getElem?_eq_some_iff.mp e).1
  have hs:i<σ.length:=by rw [← I.len]; exact hi
  have es:σ[i]?=some σ[i]:=by simp
  obtain ⟨ev,vs,h0,r⟩:=I.sl i _ _ e es
  have hq:=I.hh q _ h0
  refine ⟨.ref q,by rw [es,ev],q,rfl,⟨vs,hq⟩,H0,G,ρ,I,OutIo.bind o fun x G1 H1 w e1 m1 o1=>?_⟩
  by_cases hl:q=p∧ws.length<1000
  ·rw [if_pos hl] at o1
   obtain ⟨rfl,hl⟩:=hl
   have h1:=e1.hh q _ hq
   dsimp only
   rw [h1]
   dsimp only
   have hlen:vs.length=ws.length:=r.length
   exact ⟨Nat.lt_of_lt_of_le (by omega:vs.length<1000) (by decide),o1 _ G1 σ _ ⟨fun a ha=>upd_ne ha,_,upd_at⟩ ((I.ext e1).appI hi (by rw [es,ev]) h0 ((r.same e1.gg).snoc m1))⟩
  ·rw [if_neg hl] at o1; exact o1.elim
 ·exact o.elim
noncomputable def ioR (p:Addr) (ρ:Rho):R (List W):=match (ρ[1]?:Option Sl) with
 | some (.iop q cs)=>if q=p then .ok cs else .stuck
 | _=>.stuck
noncomputable def runIO (n N:Nat) (m:Addr→Rho→R Fl) (p:Addr) (w1:W) (cs wr:List W):R (List W):=if wr.length+2=n∧noLs cs=true then (match m p (.par w1::.iop p cs::(wr.map Sl.par++List.replicate (N-n) Sl.un)) with
 | .ok (.nx ρ)=>ioR p ρ
 | .ok (.bk ρ)=>ioR p ρ
 | _=>.stuck) else .stuck
open Classical in
noncomputable def runIOA (n N:Nat) (m:Addr→Rho→R Fl) (w1:W) (cs wr:List W):R (List W):=if h:∃ cs',∀ p,runIO n N m p w1 cs wr=.ok cs' then .ok (Classical.choose h) else .stuck
theorem runIOA_spec {n N:Nat} {m:Addr→Rho→R Fl} {w1:W} {cs wr cs':List W} (h:runIOA n N m w1 cs wr=.ok cs') (p:Addr):runIO n N m p w1 cs wr=.ok cs':=by
 unfold runIOA at h
 split at h
 ·rename_i q
  cases h
  exact Classical.choose_spec q p
 ·cases h
theorem runIOA_ok {n N:Nat} {m:Addr→Rho→R Fl} {w1:W} {cs wr cs':List W} (h:∀ p,runIO n N m p w1 cs wr=.ok cs'):runIOA n N m w1 cs wr=.ok cs':=by
 have hx:∃ cs',∀ p,runIO n N m p w1 cs wr=.ok cs':=⟨cs',h⟩
 unfold runIOA
 rw [dif_pos hx]
 have:=Classical.choose_spec hx (0:Nat)
 rw [h] at this
 cases this
 rfl
theorem runIOA_ex {n N:Nat} {m:Addr→Rho→R Fl} {w1:W} {cs wr:List W}:runIOA n N m w1 cs wr=.stuck∨∃ cs',runIOA n N m w1 cs wr=.ok cs':=by
 unfold runIOA
 split
 ·exact .inr ⟨_,rfl⟩
 ·exact .inl rfl
theorem runIO_len {n N:Nat} {m:Addr→Rho→R Fl} {p:Addr} {w1:W} {cs wr cs':List W} (h:runIO n N m p w1 cs wr=.ok cs'):wr.length+2=n∧noLs cs=true:=by
 unfold runIO at h
 by_cases e:wr.length+2=n∧noLs cs=true
 ·exact e
 ·rw [if_neg e] at h; cases h
noncomputable def spIO (K:PySem.W.Frag) (n:Nat) (f:W→List W→List W→R (List W)):Sp:=fun vs H Q _=>vs.length=n∧∃ v1 p vr w1 cs wr us cs',vs=v1::.ref p::vr∧H p=some (.lst us)∧Rep K H v1 w1∧Reps K H vr wr∧Reps K H us cs∧f w1 cs wr=.ok cs' ∧
 ∀ H' us' G',(∀ a o,a≠p→H a=some o→H' a=some o)→H' p=some (.lst us')→Same G' H'→(∀ a o,H a=some o→isL o=true→G' a=none)→Reps K G' us' cs'→Q .non H'
theorem PIv.toIop {i:Nat} {cs:List W} {us:List V} (I:PIv K H0 G ρ σ H) (hi:i<ρ.length) (es:σ[i]?=some (some (.ref p))) (hp:H0 p=some (.lst us)) (r:Reps K G us cs):PIv K H0 G (ρ.set i (.iop p cs)) σ H:=by
 refine ⟨I.g0,I.gl,I.gh,I.hh,by rw [List.length_set]; exact I.len,fun k x o h1 h2=>?_,fun x y u1 u2 c hab h1 h2 h3 h4=>?_⟩
 ·by_cases q:i=k
  ·subst q
   rw [List.getElem?_set_self hi] at h1
   cases h1
   rw [es] at h2; cases h2
   exact ⟨rfl,us,hp,r⟩
  ·rw [List.getElem?_set_ne q] at h1
   exact I.sl k x o h1 h2
 ·have key:∀ {k:Nat} {u:List W},(ρ.set i (.iop p cs))[k]?=some (.own u)→ρ[k]?=some (.own u):=fun {k u} hk=>by
   by_cases q:i=k
   ·subst q
    rw [List.getElem?_set_self hi] at hk
    cases hk
   ·rw [List.getElem?_set_ne q] at hk; exact hk
  exact I.ne x y u1 u2 c hab (key h1) (key h2) h3 h4
theorem c_bodyI {n:Nat} {Nl:List Str} {m:Addr→Rho→R Fl} {vs:List V} {Q:VK} {E:XK} (h:spIO K n (runIOA n Nl.length m) vs H Q E):∃ p,tStI K (fun _ _=>False) p (m p) { nx:=fun _ H'=>Q .non H',rt:=Q } (L2.start Nl vs) H:=by
 obtain ⟨hl,v1,p,vr,w1,cs,wr,us,cs',rfl,hp,r1,rr,ru,hf,hq⟩:=h
 have hrun:=runIOA_spec hf p
 obtain ⟨hn,hnl⟩:=runIO_len hrun
 have ra:Reps K H (v1::.ref p::vr) (w1::.lst cs::wr):=.cons r1 (.cons (.lst hp ru) rr)
 have I0:=PIv.begin (k:=Nl.length-n) (k':=Nl.length-n) ra rfl
 have ru':Reps K (noLH H) us cs:=Reps.clean I0 (by rw [join_noLH]; exact ru) hnl
 have I1:=I0.toIop (i:=1) (p:=p) (cs:=cs) (us:=us) (by simp) rfl hp ru'
 refine ⟨p,H,noLH H,Sl.par w1::.iop p cs::(wr.map Sl.par++List.replicate (Nl.length-n) Sl.un),?_,⟨us,hp⟩,?_⟩
 ·have e:L2.start Nl (v1::.ref p::vr)=((v1::.ref p::vr).map some++List.replicate (Nl.length-n) none):=by unfold L2.start; rw [hl]
  rw [e]
  exact I1
 ·unfold runIO at hrun
  rw [if_pos ⟨hn,hnl⟩] at hrun
  have fin:∀ ρ,ioR p ρ=.ok cs'→∀ H0' G' σ' H',Hx p H H0'→PIv K H0' G' ρ σ' H'→Q .non H':=fun ρ hr H0' G' σ' H' hx I'=>by
   unfold ioR at hr
   split at hr
   ·rename_i q cs2 e2
    by_cases e3:q=p
    ·rw [if_pos e3] at hr
     cases hr
     subst e3
     have hi:1<σ'.length:=by rw [← I'.len]; exact (List.getElem?_eq_some_iff.mp e2).1
     obtain ⟨_,us',h0',r'⟩:=I'.sl 1 _ _ e2 (show σ'[1]?=some σ'[1] by simp)
     refine hq H' us' G' (fun a o ha hb=>I'.hh a o (by rw [hx.1 a ha]; exact hb)) (I'.hh _ _ h0') I'.gh (fun a o hb hl=>?_) r'
     by_cases e4:a=q
     ·subst e4; exact I'.gl a _ h0' rfl
     ·exact I'.gl a o (by rw [hx.1 a e4]; exact hb) hl
    ·rw [if_neg e3] at hr; cases hr
   ·cases hr
  revert hrun
  cases m p (.par w1::.iop p cs::(wr.map Sl.par++List.replicate (Nl.length-n) Sl.un)) with
  | stuck=>exact fun h=>nomatch h
  | ex e=>exact fun h=>nomatch h
  | ok f=>
   cases f with
   | nx ρ'=>exact fun h H0' G' σ' H' hx I'=>fin ρ' h H0' G' σ' H' hx I'
   | bk ρ'=>exact fun h H0' G' σ' H' hx I'=>fin ρ' h H0' G' σ' H' hx I'
   | ct ρ'=>exact fun h=>nomatch h
   | rt w=>exact fun h=>nomatch h
noncomputable def mIO (i:Nat) (f:W→List W→List W→R (List W)) (m1:Rho→R W) (mr:Rho→R (List W)):Rho→R Fl:=fun ρ=>match ρ[i]? with
 | some (.own cs)=>m1 ρ>>=fun w1=>mr ρ>>=fun wr=>f w1 cs wr>>=fun cs'=>.ok (.nx (ρ.set i (.own cs')))
 | _=>.stuck
theorem c_callI {i n:Nat} {f:W→List W→List W→R (List W)} {E:XK} {m1:Rho→R W} {mr:Rho→R (List W)} (hf:∀ w1 cs wr,f w1 cs wr=.stuck∨∃ cs',f w1 cs wr=.ok cs'∧wr.length+2=n) (h:tSt K EX d (mIO i f m1 mr) D σ H) :
  tDrop (tCall (spIO K n f) [] E (tCons (tM K EX .B m1) (tCons (tVar i) (tA K EX .B mr)))) D σ H:=by
 obtain ⟨H0,G,ρ,I,o⟩:=h
 unfold mIO at o
 split at o
 ·rename_i cs e
  obtain ⟨a,vs,es,ha,hg,h0,r⟩:=I.own_at e
  refine ⟨H0,G,ρ,I,OutS.bind I o fun x G1 H1 w1 e1 m1 o1=>⟨.ref a,es,H0,G1,ρ,I.ext e1,OutS.bind (I.ext e1) o1 fun xs G2 H2 wr e2 m2 o2=>?_⟩⟩
  have I2:=(I.ext e1).ext e2
  rcases hf w1 cs wr with hs | ⟨cs',hs,hn⟩
  ·rw [hs] at o2; exact o2.elim
  rw [hs,R.ok_bind] at o2
  have rx:=MdA.whole I2 m2
  have ha2:H2 a=some (.lst vs):=e2.hh _ _ (e1.hh _ _ ha)
  have g2a:G2 a=none:=e2.keep _ _ (e1.hh _ _ ha) rfl (e1.keep _ _ ha rfl hg)
  have r2:Reps K G2 vs cs:=(r.same e1.gg).same e2.gg
  show spIO K n f ((x::.ref a::xs) ++ []) H2 (fun _ H1=>D.nx σ H1) E
  rw [List.append_nil]
  refine ⟨?_,x,a,xs,w1,cs,wr,vs,cs',rfl,ha2,(m1.move e2).whole I2,rx,r2.same I2.gh,hs,fun H' us' G' k1 k2 gH cl rr=>?_⟩
  ·rw [List.length_cons,List.length_cons,rx.length]; exact hn
  have ga':G' a=none:=cl a _ ha2 rfl
  have hk:∀ b o,G2 b=some o→H' b=some o:=fun b o q=>k1 b o (by rintro rfl; rw [g2a] at q; cases q) (I2.gh b o q)
  have sB:Same G2 (both G2 G'):=fun b o q=>by unfold both; rw [q]
  have sB':Same G' (both G2 G'):=fun b o q=>by
   unfold both
   cases q1:G2 b with
   | none=>exact q
   | some u=>
    have a1:=hk b u q1
    rw [gH b o q] at a1
    exact a1.symm
  have sHB:Same (both G2 G') H':=fun b o q=>by
   unfold both at q
   cases q1:G2 b with
   | none=>rw [q1] at q; exact gH b o q
   | some u=>rw [q1] at q; cases q; exact hk b _ q1
  have bn:∀ b o,H2 b=some o→isL o=true→G2 b=none→both G2 G' b=none:=fun b o q l g=>by unfold both; rw [g]; exact cl b o q l
  have hi:=(List.getElem?_eq_some_iff.mp e).1
  refine o2 (both G2 G') σ H' sB ⟨fun b o q l=>sB b o (I2.g0 b o q l),fun b o q l=>bn b o (I2.hh b o q) l (I2.gl b o q l),sHB,fun b o q=>k1 b o (by rintro rfl; rw [h0] at q; cases q) (I2.hh b o q),by rw [List.length_set]; exact I2.len,fun k y o h1 h2=>?_,fun x1 y1 u1 u2 c hab h1 h2 h3 h4=>?_⟩
  ·by_cases q:i=k
   ·subst q
    rw [List.getElem?_set_self hi] at h1
    cases h1
    rw [es] at h2; cases h2
    exact ⟨a,us',rfl,k2,bn a _ ha2 rfl g2a,h0,rr.same sB'⟩
   ·rw [List.getElem?_set_ne q] at h1
    have old:=I2.sl k y o h1 h2
    cases y with
    | un=>trivial
    | val w=>obtain ⟨v,ev,r⟩:=old; exact ⟨v,ev,r.same sB⟩
    | par w=>obtain ⟨v,ev,r⟩:=old; exact ⟨v,ev,r.same (join_same sB)⟩
    | own ws=>
     obtain ⟨b,us2,eb,hb,hgb,h0b,rb⟩:=old
     subst eb
     have hba:b≠a:=by
      rintro rfl
      exact I.ne i k cs ws b q e h1 es h2
     exact ⟨b,us2,rfl,k1 b _ hba hb,bn b _ hb rfl hgb,h0b,rb.same sB⟩
    | dic ks=>
     obtain ⟨b,us2,eb,hb,hgb,h0b,rb⟩:=old
     have hba:b≠a:=by
      rintro rfl
      rw [ha2] at hb; cases hb
     exact ⟨b,us2,eb,k1 b _ hba hb,bn b _ hb rfl hgb,h0b,rb⟩
    | dik ks=>
     obtain ⟨b,us2,eb,hb,hgb,h0b,rb⟩:=old
     have hba:b≠a:=by
      rintro rfl
      rw [ha2] at hb; cases hb
     exact ⟨b,us2,eb,k1 b _ hba hb,bn b _ hb rfl hgb,h0b,rb⟩
    | iop q us=>obtain ⟨ev,vs1,h1',r1⟩:=old; exact ⟨ev,vs1,h1',r1.same sB⟩
    | hz w=>obtain ⟨v,ev,r⟩:=old; exact ⟨v,ev,r.same (join_same (noLG_same sB))⟩
  ·have key:∀ {k:Nat} {u:List W},(ρ.set i (.own cs'))[k]?=some (.own u)→∃ u',ρ[k]?=some (.own u'):=fun {k u} hk=>by
    by_cases q:i=k
    ·subst q; exact ⟨cs,e⟩
    ·rw [List.getElem?_set_ne q] at hk; exact ⟨u,hk⟩
   obtain ⟨v1,k1'⟩:=key h1
   obtain ⟨v2,k2'⟩:=key h2
   exact I.ne x1 y1 v1 v2 c hab k1' k2' h3 h4
 ·exact o.elim
end
section
variable {X:Cx} {K:PySem.W.Frag} {EX:EXT} {d:Mode} {e:Expr} {es:List Expr} {pos:Pos} {ma:Rho→R W} {m n:Rho→R Fl} {ta:Rho→R Bool} {st:Stmt} {sts:List Stmt} {p:Addr} {mr:Rho→R (List W)}
theorem q_i (h:PS X st (tSt K EX d m)):PS X st (tStI K EX p (nb m)):=h.mono fun _ _ _ q=>q.toS
theorem q_is (h:PSs X sts (tSt K EX d m)):PSs X sts (tStI K EX p (nb m)):=h.mono fun _ _ _ q=>q.toS
theorem q_consI (h1:PS X st (tStI K EX p m)) (h2:PSs X sts (tStI K EX p n)):PSs X (st::sts) (tStI K EX p (mSeq m n)):=(pss_cons h1 h2).mono fun _ _ _ q=>c_seqI q
theorem q_lastI (h1:PS X st (tStI K EX p m)):PSs X [st] (tStI K EX p m):=pss_one h1
theorem q_ifI {c:Expr} {x y:List Stmt} (hc:PT X c (tT K EX ta)) (ha:PSs X x (tStI K EX p m)) (hb:PSs X y (tStI K EX p n)):PS X (.If c x y pos) (tStI K EX p (mIf ta m n)):=(ps_if hc ha hb).mono fun _ _ _ q=>c_ifI q
theorem q_retI:PS X (.Return none pos) (tStI K EX p sBkI):=ps_retN.mono fun _ _ _ q=>c_retI q
theorem q_appI {i:Nat} {x:Str} {p1 apos cpos:Pos} (hN:X.N[i]?=some x) (hv:Vis X.env.scope x) (ha:PE X e (tM K EX .V ma)) (hd:(x == ("__debug__" : Str))=false:=by decide) (hcd:(x == ("__classdict__" : Str))=false:=by decide)
  (hbase:attributeBase (.Name x p1) "append" X.env (eval (.Name x p1) X.env)=eval (.Name x p1) X.env:=by rfl)
  (hfew:((backTo cpos (starEach [e] X.env)).all (fun x=>!x.1)&&(backToKw cpos (keywordEach [] X.env)).all (fun x=>x.1.isSome)
   && decide (([e]:List Expr).length+([]:List Keyword).length+(if ([]:List Keyword).isEmpty then 0 else 1)<30))=true:=by rfl)
  (hline:(apos.endLine == cpos.line)=true:=by rfl) (hs:starEach [e] X.env=(false,eval e X.env)::starEach [] X.env:=by rfl) (hsw:swapsWith (.Call (.Attribute (.Name x p1) "append" apos) [e] [] cpos) none pos.line X.env=pure false:=by rfl) :
  PS X (.Expr (.Call (.Attribute (.Name x p1) "append" apos) [e] [] cpos) pos) (tStI K EX p (mAppI p i ma)):=(ps_expr (pe_append (pe_var hN hv hd hcd) ha hbase hfew hline hs) hsw).mono fun _ _ _ q=>c_appI q
theorem q_callI {i k:Nat} {y:Str} {p1 p2 cpos:Pos} {f:Addr} {fd:FuncData} {ps:List Str} {x:Str} {n N:Nat} {m:Addr→Rho→R Fl} (hN:X.N[i]?=some y) (hv:Vis X.env.scope y)
  (F:FnOk X.prog X.w X.K X.mg X.base CX0 k f fd ps (spIO K n (runIOA n N m))) (hr:Room k X.A) (hg:Gl X x) (hm:X.mg x=some (.ref f)) (hk:PySem.W.keepIn X.K (.ref f)=true) (hb:Binds X.K fd ps [])
  (h1:PE X e (tM K (fun _ _=>False) .B ma)) (h2:PA X es (tA K (fun _ _=>False) .B mr)) (hd:(y == ("__debug__" : Str))=false:=by decide) (hcd:(y == ("__classdict__" : Str))=false:=by decide)
  (hdb:(x == ("__debug__" : Str))=false:=by decide) (he:starEach (e::.Name y p2::es) X.env=(false,eval e X.env)::starEach (.Name y p2::es) X.env:=by rfl) (he2:starEach (.Name y p2::es) X.env=(false,eval (.Name y p2) X.env)::starEach es X.env:=by rfl) (hpl:(backTo cpos (starEach (.Name y p2::es) X.env)).any (·.1)=false:=by rfl)
  (hsw:swapsWith (.Call (.Name x p1) (e::.Name y p2::es) [] cpos) none pos.line X.env=pure false:=by rfl) :
  PS X (.Expr (.Call (.Name x p1) (e::.Name y p2::es) [] cpos) pos) (tSt K (fun _ _=>False) d (mIO i (runIOA n N m) ma mr)):=
 (ps_expr (pe_call F hr hg hm hk hb .nil pass0 (pa_cons h1 (pa_cons (pe_var hN hv hd hcd) h2 he2) he) hdb he hpl) hsw).mono fun _ _ _ q=>c_callI (fun w1 cs wr=>by
  rcases runIOA_ex (n:=n) (N:=N) (m:=m) (w1:=w1) (cs:=cs) (wr:=wr) with h | ⟨cs',h⟩
  ·exact .inl h
  ·exact .inr ⟨cs',h,(runIO_len (runIOA_spec h (0:Nat))).1⟩) q
end
end TP
namespace TP
open PySem L2
section
variable {K:PySem.W.Frag} {EX:EXT} {H0 G H:Hp} {ρ:Rho} {σ:St}
end
section
variable {X:Cx} {K:PySem.W.Frag} {e:Expr} {es:List Expr} {pos:Pos} {mr:Rho→R (List W)}
end
end TP
namespace TP
open PySem L2
section
variable {X:Cx}
end
section
variable {K:PySem.W.Frag} {EX:EXT} {H0 G H:Hp} {ρ:Rho} {σ:St} {d:Mode} {D:Ends}
end
section
variable {X:Cx} {K:PySem.W.Frag} {EX:EXT} {d:Mode} {e:Expr} {pos:Pos} {ma:Rho→R W}
end
end TP
set_option Elab.async false
set_option linter.all false
set_option maxRecDepth 100000
namespace TP
open PySem L2
section
open PySem.W PyProof.Rows
variable {prog:Program} {w:World} {A:Around} {E:Value→Shared→Prop} {s:Shared}
theorem items_int:∀ {xs:List Int} {its:List Value},Vals (xs.map V.int) its→ItemsAre (intKind prog w) xs its
 | [],_,.nil=>.nil
 | _::_,_,.cons r t=>by
  obtain ⟨tk,rfl⟩:=r
  exact .cons (by simp [intKind,Value.isInt]) (items_int t)
end
end TP
namespace TP
open PySem L2
section
variable {X:Cx} {pins:List (Addr×Obj)} {σ:L2.St} {H:Hp} {s:Shared}
end
section
open PySem.W PyProof.Rows
variable {Y:Cx} {K:PySem.W.Frag} {pn:List (Addr×Obj)} {σ:L2.St}
end
end TP
namespace TP
open PySem L2
section
open PySem.W PyProof.Rows
variable {Y:Cx} {K:PySem.W.Frag} {pins:List (Addr×Obj)} {σ:L2.St}
end
section
open PySem.W PyProof.Rows
variable {X:Cx} {K:PySem.W.Frag}
end
section
variable {K:PySem.W.Frag}
end
section
variable {X:Cx} {K:PySem.W.Frag} {EX:EXT} {e:Expr} {pos:Pos} {mr:Rho→R (List W)}
end
end TP
namespace TP
open PySem L2
noncomputable def rRvL (K:PySem.W.Frag):V→Hp→VK→Prop:=fun x H Q=>∃ a xs,x=.ref a∧SqL K H a xs∧∀ p,H p=none→Q (.ref p) (upd H p (.lst xs.reverse))
noncomputable def tSl3 (r:V→Hp→VK→Prop) (te:TE) (tk:TO):TE:=fun σ H Q=>te σ H fun x H1=>tk σ H1 fun k H2=>k=some (-1)∧r x H2 Q
section
open PySem.W PyProof.Rows
variable {X:Cx} {e:Expr} {te:TE} {st:Expr} {tk:TO} {pos p2:Pos}
theorem pe_slice3 (he:PE X e te) (hk:PO X (some st) tk):PE X (.Subscript e (.Slice none none (some st) p2) pos) (tSl3 (rRvL X.K) te tk):=by
 intro pins s σ H Q I h
 refine Subscript_ (thn (he pins s σ H _ I h) fun v s1 zz82=>?_)
 obtain ⟨x,H1,I1,r1,q1⟩:=zz82
 refine wpAny_Slice ?_
 rw [evalPart_none]
 refine wpAny_pure (wpAny_pure ?_)
 refine thn (hk pins s1 σ H1 _ I1 q1) fun vk s3 zz83=>?_
 obtain ⟨k,H3,I3,pk,hk1,a,xs,hx0,hx,q⟩:=zz83
 subst hx0 hk1
 cases r1
 have I4:Inv X pins σ H3 { s3 with heap:=s3.heap.push { cls:=.type "slice",data:=.fields #[.none,.none,vk] } }:=I3.kept (t':=s3.toks) fun b ob q=>Heap.get?_push_of_some _ q
 obtain ⟨its,r,ht,hz⟩:=I4.list hx
 have hlen:=r.length
 show wpAny (model X.prog X.w) X.A (subscriptTail e (.Slice none none (some st) p2) (.ref a) (.ref s3.heap.objs.size)) (EP X pins σ Q) X.xe { s3 with heap:=s3.heap.push { cls:=.type "slice",data:=.fields #[.none,.none,vk] } }
 refine tail_any (ops:=[.ref a,.ref s3.heap.objs.size]) ht.isList.typeIs slot_list_getitem.lookup ?_ (by with_unfolding_all rfl)
 refine wpAny_getItem_list_slice ht.isList (Heap.IsSliceOf.new ..) .none .none pk (by decide) ?_ (by rw [List.size_toArray] <;> omega)
 rw [krv_pick]
 refine ⟨.ref _,_,I4.laid (t':=s3.toks) (o:=.lst xs.reverse) (fun b ob q=>Heap.get?_push_of_some _ q) (Nat.le_refl _) ?_,rfl,q _ (I4.hok.fresh (Nat.le_refl _))⟩
 exact ⟨by rw [List.length_reverse]; exact hz,its.reverse,0,r.reverse,Heap.get?_push_size _ rfl⟩
end
noncomputable def vRv (c:Bool) (m:Rho→R W) (mk:Rho→R (Option Int)):Rho→R W:=fun ρ=>m ρ>>=fun x=>mk ρ>>=fun k=>if k=some (-1) then toR (lstOf x)>>=fun ws=>chks c ws.reverse else .stuck
section
variable {K:PySem.W.Frag} {EX:EXT} {σ:St} {H:Hp} {Q:VK}
theorem c_rv {c:Bool} {m:Rho→R W} {mk:Rho→R (Option Int)} (h:tM K EX .F (vRv c m mk) σ H Q):tSl3 (rRvL K) (tM K EX (cb c) m) (tOp_ K EX mk) σ H Q:=by
 obtain ⟨H0,G,ρ,I,o⟩:=h
 refine ⟨H0,G,ρ,I,Out.bind o fun x G1 H1 w e1 m1 o1=>⟨H0,G1,ρ,I.ext e1,Out.bind o1 fun l' G2 H2 l e2 m2 o2=>?_⟩⟩
 subst m2
 have I3:=(I.ext e1).ext e2
 by_cases hk:l'=some (-1)
 ·rw [if_pos hk] at o2
  cases q:lstOf w with
  | none=>rw [q] at o2; exact o2.elim
  | some ws=>
   rw [q] at o2
   obtain ⟨a,vs,ex,hs,r⟩:=Md.lstOf I3 (m1.move e2) q
   refine ⟨hk,a,vs,ex,hs,Out.chks I3 (e1.hh.trans e2.hh) (c:=c) ?_ o2⟩
   cases c with
   | true=>rw [if_pos rfl] at r ⊢; exact r.reverse
   | false=>rw [if_neg Bool.false_ne_true] at r ⊢; exact r.reverse
 ·rw [if_neg hk] at o2; exact o2.elim
end
section
variable {X:Cx} {K:PySem.W.Frag} {EX:EXT} {e:Expr} {pos:Pos} {ma:Rho→R W}
theorem q_rv3 (k:Bool) {st:Expr} {p2:Pos} {mk:Rho→R (Option Int)} (he:PE X e (tM K EX (cb k) ma)) (hk:PO X (some st) (tOp_ K EX mk)) (hK:X.K=K:=by rfl):PE X (.Subscript e (.Slice none none (some st) p2) pos) (tM K EX .F (vRv k ma mk)):=by
 subst hK; exact (pe_slice3 he hk).mono fun _ _ _ q=>c_rv q
end
end TP
namespace TP
open PySem L2
section
variable {K:PySem.W.Frag} {EX:EXT} {H0 G H:Hp} {ρ:Rho} {σ:St} {d:Mode} {D:Ends}
end
section
variable {X:Cx} {K:PySem.W.Frag} {EX:EXT} {d:Mode} {e:Expr} {pos:Pos} {ma:Rho→R W}
end
end TP
namespace TP
open PySem L2
section
variable {K:PySem.W.Frag} {EX:EXT} {H0 G H G1 H1 F:Hp} {ρ:Rho} {σ:St} {d:Mode} {D:Ends}
end
section
variable {X:Cx} {K:PySem.W.Frag} {EX:EXT} {d:Mode} {e k v:Expr} {pos:Pos} {mk me:Rho→R W}
end
end TP
set_option Elab.async false
set_option linter.all false
set_option maxRecDepth 100000
namespace TP
open PySem PyProof.Rows
noncomputable def kk (rk:Keyed→Int) (xs:Array Keyed) (i:Nat):Int:=match xs[i]? with
 | some p=>rk p
 | none=>0
section
variable {prog:Program} {w:World} {A:Around} {E:Value→Shared→Prop} {s:Shared} {a₀:Array Keyed} {κ:SortKind} {rk:Keyed→Int}
end
noncomputable def upL (rk:Keyed→Int) (l:List Keyed):Prop:=l.Pairwise fun x y=>rk x≤rk y
structure Mg (rk:Keyed→Int) (t:List Keyed) (out ra rb:List Keyed):Prop where
 perm:(out++(ra++rb)).Perm t
 up:upL rk out
 le:∀ x∈out,∀ y∈ra++rb,rk x≤rk y
noncomputable def Gd (rk:Keyed→Int) (t res:List Keyed):Prop:=res.Perm t∧upL rk res
section
variable {rk:Keyed→Int} {t out p ra rb:List Keyed}
end
section
variable {prog:Program} {w:World} {A:Around} {E:Value→Shared→Prop} {s:Shared} {a₀:Array Keyed} {κ:SortKind} {rk:Keyed→Int}
end
section
variable {prog:Program} {w:World} {A:Around} {E:Value→Shared→Prop} {s:Shared} {a₀:Array Keyed} {κ:SortKind} {rk:Keyed→Int}
noncomputable abbrev rn (rk:Keyed→Int) (x:Keyed):Int:=-rk x
noncomputable abbrev rv (a:Array Keyed):List Keyed:=a.toList.reverse
theorem rv_drop {a:Array Keyed} {k:Nat}:(rv a).drop (a.size-k)=(a.toList.take k).reverse:=by
 rw [List.reverse_take]; simp
theorem Gd.rv {a b:Array Keyed} {res:List Keyed} (h:Gd (rn rk) (rv a++rv b) res.reverse):Gd rk (a.toList++b.toList) res:=by
 refine ⟨?_,?_⟩
 ·refine (List.reverse_perm res).symm.trans (h.1.trans ?_)
  exact List.Perm.append (List.reverse_perm _) (List.reverse_perm _)
 ·have:=h.2
  unfold upL at this ⊢
  rw [List.pairwise_reverse] at this
  exact this.imp fun q=>by
   have q:-_ ≤ -_:=q
   omega
theorem hfin {a b out:Array Keyed} {na nb:Nat} (h:Gd (rn rk) (rv a++rv b) (out.toList++(rv b).drop (b.size-nb)++(rv a).drop (a.size-na))):Gd rk (a.toList++b.toList) (a.extract 0 na++b.extract 0 nb++out.reverse).toList:=by
 refine Gd.rv ?_
 rw [rv_drop,rv_drop] at h
 have e:(a.extract 0 na++b.extract 0 nb++out.reverse).toList.reverse=out.toList++(b.toList.take nb).reverse++(a.toList.take na).reverse:=by
  simp [List.extract_eq_take_drop]
 rw [e]; exact h
end
section
variable {prog:Program} {w:World} {A:Around} {E:Value→Shared→Prop} {s:Shared} {a₀:Array Keyed} {κ:SortKind} {rk:Keyed→Int}
end
section
variable {prog:Program} {w:World} {A:Around} {E:Value→Shared→Prop} {s:Shared} {a₀:Array Keyed} {κ:SortKind} {rk:Keyed→Int} {arr:Array Keyed} {pd:Array (Nat×Nat×Nat)} {g lo:Nat}
structure Rl (lo:Nat) (arr arr':Array Keyed):Prop where
 perm:arr'.toList.Perm arr.toList
 same:∀ k,k<lo→arr'[k]?=arr[k]?
end
section
variable {prog:Program} {w:World} {A:Around} {E:Value→Shared→Prop} {s:Shared} {a₀:Array Keyed} {κ:SortKind} {rk:Keyed→Int} {arr:Array Keyed} {pd:Array (Nat×Nat×Nat)} {g lo:Nat}
end
end TP
set_option Elab.async false
set_option linter.all false
set_option maxRecDepth 100000
namespace TP
open PySem L2
section
open PySem.W PyProof.Rows
variable {prog:Program} {w:World} {A:Around} {E:Value→Shared→Prop} {s:Shared}
open Classical in
noncomputable def rkV (vs:List Value) (ss:List (List Int)) (p:Keyed):Int:=if h:∃ i,i<vs.length∧vs.getD i Value.none=p.1 then rankL ss h.choose else 0
end
section
variable {X:Cx} {K:PySem.W.Frag}
end
section
variable {K:PySem.W.Frag}
end
end TP
namespace TP
open PySem L2
section
variable {K:PySem.W.Frag} {EX:EXT} {H0 G H G1 H1 F:Hp} {ρ:Rho} {σ:St} {d:Mode} {D:Ends}
end
section
variable {X:Cx} {K:PySem.W.Frag} {d:Mode} {e:Expr} {es:List Expr} {pos:Pos} {mr:Rho→R (List W)}
end
end TP
namespace TP
open PySem L2
section
variable {K:PySem.W.Frag} {EX:EXT} {X:Cx} {tg e:Expr} {ma:Rho→R W}
end
end TP
namespace TP
open PySem L2
noncomputable def NoLst (H:Hp):Prop:=∀ a vs,H a≠some (.lst vs)
noncomputable def OutN (K:PySem.W.Frag) (d:Mode) (Hb:Hp) (r:R Fl) (D:Ends):Prop:=match r with
 | .ok (.nx ρ)=>∀ H0 G' σ' H',Same Hb H0→PIv K H0 G' ρ σ' H'→D.nx σ' H'
 | .ok (.rt w)=>∀ v G' H',Same G' H'→Same Hb H'→(∀ a o,Hb a=some o→isL o=true→G' a=none)→Md K Hb Hb G' H' v w d→D.rt v H'
 | _=>False
noncomputable def tStN (K:PySem.W.Frag) (EX:EXT) (d:Mode) (m:Rho→R Fl):TS:=fun D σ H=>∃ Hb H0 G ρ,NoLst Hb∧Same Hb H0∧PIv K H0 G ρ σ H∧OutN K d Hb (m ρ) D
section
variable {K:PySem.W.Frag} {EX:EXT} {Hb H0 G H G1 H1 G2 H2:Hp} {ρ:Rho} {σ:St} {d:Mode} {D:Ends}
theorem PIv.put {i:Nat} {s:Sl} {o:Option V} (I:PIv K H0 G ρ σ H) (r:SlR K H0 G H s o) (no:∀ ws,s≠.own ws):PIv K H0 G (ρ.set i s) (σ.set i o) H where
 g0:=I.g0
 gl:=I.gl
 gh:=I.gh
 hh:=I.hh
 len:=by rw [List.length_set,List.length_set]; exact I.len
 sl k x u h1 h2:=by
  by_cases e:i=k
  ·subst e
   have hi:i<ρ.length:=by
    have:=(List.getElem?_eq_some_iff.mp h1).1
    rwa [List.length_set] at this
   rw [List.getElem?_set_self hi] at h1
   rw [List.getElem?_set_self (by rw [← I.len]; exact hi)] at h2
   cases h1; cases h2; exact r
  ·rw [List.getElem?_set_ne e] at h1 h2
   exact I.sl k x u h1 h2
 ne p q ws us a hpq h1 h2 h3 h4:=by
  have key:∀ {k:Nat} {u:List W},(ρ.set i s)[k]?=some (.own u)→i≠k∧ρ[k]?=some (.own u):=fun {k u} hk=>by
   by_cases e:i=k
   ·subst e
    have hi:i<ρ.length:=by
     have:=(List.getElem?_eq_some_iff.mp hk).1
     rwa [List.length_set] at this
    rw [List.getElem?_set_self hi] at hk
    cases hk; exact absurd rfl (no u)
   ·exact ⟨e,by rwa [List.getElem?_set_ne e] at hk⟩
  obtain ⟨n1,k1⟩:=key h1
  obtain ⟨n2,k2⟩:=key h2
  rw [List.getElem?_set_ne n1] at h3
  rw [List.getElem?_set_ne n2] at h4
  exact I.ne p q ws us a hpq k1 k2 h3 h4
end
section
variable {X:Cx} {K:PySem.W.Frag} {EX:EXT} {d:Mode} {e:Expr} {es:List Expr} {pos:Pos} {ma:Rho→R W} {mr:Rho→R (List W)} {m n:Rho→R Fl} {ta:Rho→R Bool} {st:Stmt} {sts:List Stmt}
end
end TP
set_option Elab.async false
set_option linter.all false
set_option maxRecDepth 100000
namespace TP
open PySem L2
open PyProof.Rows (envOfC)
noncomputable def XE1 (K:PySem.W.Frag) (E:XK):EXT:=fun e H=>∀ (C:Addr) (od:Option Addr),PySem.W.nsIn K mainGlobals e.cls=some (some (.ref C))→XD H od e.at_→E (.ref C) od H
noncomputable def spR (K:PySem.W.Frag) (n:Nat) (d:Mode) (f:List W→R W):Sp:=fun vs H Q E=>vs.length=n∧∃ ws,Reps K H vs ws∧match f ws with
 | .ok w=>∀ v G' H',Same H H'→Same G' H'→(∀ a o,H a=some o→isL o=true→G' a=none)→Md K H H G' H' v w d→Q v H'
 | .ex e=>∀ H',Same H H'→XE1 K E e H'
 | .stuck=>False
noncomputable def calm (f:List W→R W):List W→R W:=fun ws=>match f ws with
 | .ok w=>.ok w
 | _=>.stuck
section
variable {K:PySem.W.Frag} {EX:EXT} {H0 G H G1 H1 G2 H2:Hp} {ρ:Rho} {σ:St} {d:Mode} {D:Ends}
noncomputable def flUn (j:Nat):Fl→R Fl
 | .nx ρ=>.ok (.nx (ρ.set j .un))
 | .bk ρ=>.ok (.bk (ρ.set j .un))
 | .ct ρ=>.ok (.ct (ρ.set j .un))
 | .rt w=>.ok (.rt w)
noncomputable def mExc (c:Str) (j:Nat) (mb:Rho→R Fl) (e:XW) (ρ:Rho):R Fl:=if e.cls=c then mb (ρ.set j (.val (.exc e.cls e.at_)))>>=flUn j else .stuck
end
section
variable {X:Cx} {K:PySem.W.Frag} {EX:EXT} {d:Mode} {e:Expr} {es:List Expr} {pos:Pos} {ma:Rho→R W} {mr:Rho→R (List W)} {mb:Rho→R Fl}
end
section
variable {P:Program} {w:World} {K:PySem.W.Frag} {mg:Str→Option Value} {base:Heap} {N:List Str} {qual:Str} {scope:Scope} {f0:Addr} {cd:Value} {A:Around} {outer:List Env} {s0:Shared} {H0:Hp} {E:XK} {d:Mode} {e:Expr} {es:List Expr} {pos:Pos} {mr:Rho→R (List W)}
end
end TP
set_option Elab.async false
set_option linter.all false
set_option maxRecDepth 100000
namespace TP
open PySem L2
noncomputable def big8:Int:=2^200
noncomputable def CDivL (_ j:Int):Prop:=0<j∧j<big8
noncomputable instance (i j:Int):Decidable (CDivL i j):=by unfold CDivL; infer_instance
theorem op_fdivL {X:Cx}:OpR X (binaryOp .FloorDiv) (rI CDivL fun i j=>.int (i/j)):=opI fun i j _ _ _ _ _ hc q=>by
 have h1:(0:Int)<j:=hc.1
 have h2:j<big8:=hc.2
 refine PyProof.Rows.floordiv_int (by omega) (by rw [Int.fdiv_eq_ediv_of_nonneg i (by omega)]; exact q) (.inl (PyProof.noPylong_of_log2 ?_))
 have h3:j.natAbs<2^9000:=by
  have:j.natAbs<2^200:=by
   have h4:(j.natAbs:Int)<2^200:=by
    rw [Int.natAbs_of_nonneg (by omega)]; exact h2
   exact_mod_cast h4
  exact Nat.lt_of_lt_of_le this (Nat.pow_le_pow_right (by decide) (by decide))
 by_cases h0:j.natAbs=0
 ·omega
 ·exact (Nat.log2_lt h0).mpr h3
theorem divL_ii {i j:Int} (h0:0<j) (h:j≤1000000000000000000000):fI CDivL gDiv (.int i) (.int j)=.ok (.int (i/j)):=by
 show (if CDivL i j then _ else _)=_
 rw [if_pos ⟨h0,Int.lt_of_le_of_lt h (by unfold big8; decide)⟩]
end TP
set_option Elab.async false
set_option linter.all false
set_option maxRecDepth 100000
namespace TP
open PySem L2
section
variable {X:Cx}
end
section
variable {K:PySem.W.Frag} {EX:EXT} {H0 G H:Hp} {ρ:Rho} {σ:St} {d:Mode} {D:Ends} {Q:VK}
end
section
variable {X:Cx} {K:PySem.W.Frag} {EX:EXT} {d:Mode} {a e:Expr} {pos:Pos} {ma:Rho→R W} {mr:Rho→R (List W)}
end
end TP
set_option Elab.async false
set_option linter.all false
set_option maxRecDepth 100000
namespace TP
open PySem L2
section
variable {X:Cx}
end
section
variable {K:PySem.W.Frag} {EX:EXT} {H0 G H:Hp} {ρ:Rho} {σ:St} {d:Mode} {D:Ends}
end
section
variable {X:Cx} {K:PySem.W.Frag} {EX:EXT} {d:Mode} {e1 e:Expr} {pos:Pos} {mk ma:Rho→R W}
end
end TP
set_option Elab.async false
set_option linter.all false
set_option maxRecDepth 100000
namespace HT
open PySem PySem.Spec PyProof.Rows PySem.W
section
variable {prog:Program} {w:World} {A:Around} {E:Value→Shared→Prop} {s:Shared}
end
end HT
namespace TP
open PySem L2
section
open PySem.W PyProof.Rows
variable {X:Cx} {e:Expr} {te:TE} {st:Expr} {tk:TO} {pos p2:Pos}
end
section
variable {K:PySem.W.Frag} {EX:EXT} {σ:St} {H:Hp} {Q:VK}
end
section
variable {X:Cx} {K:PySem.W.Frag} {EX:EXT} {e:Expr} {pos:Pos} {ma:Rho→R W}
end
end TP
set_option Elab.async false
set_option linter.all false
set_option maxRecDepth 100000
namespace TP
open PySem L2
noncomputable def okZ:List W→Bool
 | []=>true
 | .tup (.lst zs::_)::_=>decide (zs.length<1000)
 | _=>false
noncomputable def mB2 (i:Nat) (mt:Rho→R Bool) (ρ:Rho):W→R Fl
 | .lst bl=>mt (ρ.set i (.own bl))>>=fun b=>if b=true then .ok (.rt (.bl false)) else if okZ bl=true∧bl.length<1000 then .ok (.nx (ρ.set i .un)) else .stuck
 | _=>.stuck
noncomputable def mB1 (i:Nat) (f:List W→R W) (ma:Rho→R (List W)) (mt:Rho→R Bool):Rho→R Fl:=fun ρ=>ma ρ>>=fun ws=>f ws>>=mB2 i mt ρ
noncomputable def mB (i:Nat) (f:List W→R W) (ma:Rho→R (List W)) (mt:Rho→R Bool):Rho→R Fl:=fun ρ=>if i<ρ.length then mB1 i f ma mt ρ else .stuck
noncomputable def tZap1 (K:PySem.W.Frag) (i:Nat):TS:=tDrop (tApp (tOp (rIxT K) (tOp (rIxL K) (tVar i) (tC (.int 0))) (tC (.int 0))) (tC (.int 0)))
noncomputable def tZap2 (i:Nat):TS:=tDrop (tApp (tVar i) (tTup (tCons (tLst tNil) (tCons (tC (.int 0)) tNil))))
section
variable {K:PySem.W.Frag} {H0 G H G1 H1:Hp} {ρ:Rho} {σ:St} {d:Mode} {D:Ends}
theorem zap2 {i:Nat} {a:Addr} {vs:List V} {H5:Hp} (es:σ[i]?=some (some (.ref a))) (ha:H5 a=some (.lst vs)) (hl:vs.length<1000) (h:∀ H6,(∀ b o,b≠a→H5 b=some o→H6 b=some o)→D.nx σ H6):tZap2 i D σ H5:=by
 refine ⟨.ref a,es,a,rfl,⟨vs,ha⟩,?_⟩
 show 0≤sizeLine∧∀ p,H5 p=none→_
 refine ⟨Nat.zero_le _,fun p hp=>?_⟩
 show 2≤sizeLine∧∀ p2,_→_
 refine ⟨by decide,fun p2 hp2=>?_⟩
 have hap:a≠p:=by rintro rfl; rw [hp] at ha; cases ha
 have hp5:∀ b o,H5 b=some o→upd H5 p (.lst []) b=some o:=fun b o q=>by
  rw [upd_ne (by rintro rfl; rw [hp] at q; cases q)]; exact q
 have ha2:=hp5 a _ ha
 have hp6:∀ b o,upd H5 p (.lst []) b=some o→upd (upd H5 p (.lst [])) p2 (.tup [.ref p,.int 0]) b=some o:=fun b o q=>by
  rw [upd_ne (by rintro rfl; rw [hp2] at q; cases q)]; exact q
 have ha3:=hp6 a _ ha2
 dsimp only
 rw [ha3]
 dsimp only
 refine ⟨Nat.lt_of_lt_of_le hl (by decide),h _ fun b o hb q=>?_⟩
 rw [upd_ne hb]
 exact hp6 b o (hp5 b o q)
theorem c_mB {i n:Nat} {f:List W→R W} {E:XK} {ma:Rho→R (List W)} {mt lt:Rho→R Bool} (hf:∀ ws,f ws≠.stuck→ws.length=n) (hlt:∀ ρ bl,ρ[i]?=some (.own bl)→lt ρ=.ok (decide (0<bl.length))) (hi:∀ bl,(ρ.set i (.own bl))[i]?=some (Sl.own bl)) (I:PIv K H0 G ρ σ H) (o:OutS K (fun _ _=>False) d H0 G (mB1 i f ma mt ρ) D) :
  tSeq (tAsg (tCall (spM K n .F f) [] E (tA K (fun _ _=>False) .B ma)) (gName i)) (tSeq (tIfS (tT K (fun _ _=>False) mt) (tRet (tC (.bl false))) tNext) (tSeq (tIfS (tT K (fun _ _=>False) lt) (tZap1 K i) tNext) (tZap2 i))) D σ H:=by
 refine ⟨H0,G,ρ,I,OutS.bind I o fun xs G1 H1 ws e1 m1 o1=>?_⟩
 have I1:=I.ext e1
 have r:=MdA.whole I1 m1
 rw [List.append_nil]
 refine ⟨?_,ws,r,?_⟩
 ·rw [r.length]
  refine hf ws fun z=>?_
  rw [z] at o1; exact o1
 revert o1
 cases f ws with
 | stuck=>exact id
 | ex e=>exact fun o1=>(o1 H1 I1.hh).elim
 | ok w=>
  intro o1 v G' H' sH gH cl md
  cases w with
  | lst bl=>
   obtain ⟨a,vs,rfl,h1,h2,h3,r3⟩:=md
   have sB:Same G1 (both G1 G'):=fun b o q=>by unfold both; rw [q]
   have sB':Same G' (both G1 G'):=fun b o q=>by
    unfold both
    cases q1:G1 b with
    | none=>exact q
    | some u=>
     have a1:=sH b u (I1.gh b u q1)
     rw [gH b o q] at a1
     exact a1.symm
   have sHB:Same (both G1 G') H':=fun b o q=>by
    unfold both at q
    cases q1:G1 b with
    | none=>rw [q1] at q; exact gH b o q
    | some u=>rw [q1] at q; cases q; exact sH b _ (I1.gh b _ q1)
   have ex:Ext G1 H1 (both G1 G') H':=⟨sB,sH,sHB,fun b o q l g=>by unfold both; rw [g]; exact cl b o q l⟩
   have I2:PIv K H0 (both G1 G') (ρ.set i (.own bl)) (σ.set i (some (.ref a))) H':=(I1.ext ex).setO h1 (by unfold both; rw [I1.gh.free h3]; exact h2) (I1.hh.free h3) (r3.same sB') fun j us q z=>by
    obtain ⟨b,us',eb,hb,_⟩:=I1.sl j _ _ q z
    cases eb
    rw [h3] at hb; cases hb
   have es:(σ.set i (some (V.ref a)))[i]?=some (some (.ref a)):=by
    have hii:i<ρ.length:=by
     have:=(List.getElem?_eq_some_iff.mp (hi [])).1
     rwa [List.length_set] at this
    exact List.getElem?_set_self (by rw [← I.len]; exact hii)
   show tSeq (tIfS (tT K (fun _ _=>False) mt) (tRet (tC (.bl false))) tNext) (tSeq (tIfS (tT K (fun _ _=>False) lt) (tZap1 K i) tNext) (tZap2 i)) D (σ.set i (some (.ref a))) H'
   refine ⟨H0,both G1 G',_,I2,?_⟩
   replace o1:OutS K (fun _ _=>False) d H0 G1 (mt (ρ.set i (.own bl))>>=fun b=>if b=true then .ok (.rt (.bl false)) else if okZ bl=true∧bl.length<1000 then .ok (.nx (ρ.set i .un)) else .stuck) D:=o1
   revert o1
   cases mt (ρ.set i (.own bl)) with
   | stuck=>exact id
   | ex e=>exact fun o1=>(o1 H' (I1.hh.trans sH)).elim
   | ok b=>
    intro o1 x G3 H3 e3 m3
    cases m3
    have I3:=I2.ext e3
    cases b with
    | true=>exact o1 _ G3 H3 (sB.trans e3.gg) I3.gh I3.hh I3.gl (Md.sca rfl (fun _=>.bl) d)
    | false=>
     replace o1:OutS K (fun _ _=>False) d H0 G1 (if okZ bl=true∧bl.length<1000 then .ok (.nx (ρ.set i .un)) else .stuck) D:=o1
     by_cases hz:okZ bl=true∧bl.length<1000
     ·rw [if_pos hz] at o1
      show tSeq (tIfS (tT K (fun _ _=>False) lt) (tZap1 K i) tNext) (tZap2 i) D (σ.set i (some (.ref a))) H3
      refine ⟨H0,G3,_,I3,?_⟩
      rw [hlt _ bl (hi bl)]
      intro x G4 H4 e4 m4
      cases m4
      have s14:Same H1 H4:=(sH.trans e3.hh).trans e4.hh
      have ha4:H4 a=some (.lst vs):=e4.hh _ _ (e3.hh _ _ h1)
      have hvl:vs.length=bl.length:=r3.length
      have fin:∀ H6,Same H1 H6→D.nx (σ.set i (some (.ref a))) H6:=fun H6 s6=>o1 G1 _ H6 (Same.refl _) ((I1.ext ⟨Same.refl _,s6,I1.gh.trans s6,fun _ _ _ _ q=>q⟩).put (s:=.un) trivial fun _ q=>by cases q)
      cases bl with
      | nil=>
       show tZap2 i D (σ.set i (some (.ref a))) H4
       exact zap2 es ha4 (by rw [hvl]; exact hz.2) fun H6 k6=>fin H6 fun b o q=>k6 b o (by rintro rfl; rw [h3] at q; cases q) (s14 b o q)
      | cons w0 tl=>
       show tZap1 K i { D with nx:=tZap2 i D } (σ.set i (some (.ref a))) H4
       cases r3 with
       | @cons v0 _ vt _ r0 rt=>
       have hz1:=hz.1
       cases w0 with
       | tup us0=>
        cases us0 with
        | nil=>cases hz1
        | cons z0 us=>
         cases z0 with
         | lst zs=>
          have hz1:zs.length<1000:=of_decide_eq_true hz1
          cases r0 with
          | @tup t0 xs0 _ gt rx=>
          cases rx with
          | @cons x0 _ xt _ rx0 _=>
          cases rx0 with
          | @lst l zvs _ gl rz=>
          have hl1:H1 l=none:=by
           cases q:H1 l with
           | none=>rfl
           | some u=>
            have:=sH l u q
            rw [gH l _ gl] at this
            cases this
            have:=cl l _ q rfl
            rw [gl] at this; cases this
          have gl4:H4 l=some (.lst zvs):=e4.hh _ _ (e3.hh _ _ (gH _ _ gl))
          have gt4:H4 t0=some (.tup (.ref l::xt)):=e4.hh _ _ (e3.hh _ _ (gH _ _ gt))
          have hal:a≠l:=by rintro rfl; rw [h2] at gl; cases gl
          have at0:∀ (x:V) (ys:List V),L2.atI (x::ys) 0=some x:=fun x ys=>by
           have:=L2.atI_nat (show (x::ys)[0]?=some x from rfl)
           exact this
          refine ⟨.ref a,es,a,_,0,.ref t0,rfl,rfl,.inl (.inl ha4),at0 _ _,t0,_,0,.ref l,rfl,rfl,.inl (.inl gt4),at0 _ _,l,rfl,⟨zvs,gl4⟩,?_⟩
          dsimp only [tC]
          rw [gl4]
          dsimp only
          refine ⟨Nat.lt_of_lt_of_le (by rw [rz.length]; exact hz1) (by decide),?_⟩
          refine zap2 (H5:=upd H4 l (.lst (zvs ++ [.int 0]))) es (by rw [upd_ne hal]; exact ha4) (by rw [hvl]; exact hz.2) fun H6 k6=>fin H6 fun b o q=>k6 b o (by rintro rfl; rw [h3] at q; cases q) ?_
          rw [upd_ne (by rintro rfl; rw [hl1] at q; cases q)]
          exact s14 b o q
         | _=>cases hz1
       | _=>cases hz1
     ·rw [if_neg hz] at o1; exact o1.elim
  | _=>exact o1.elim
end
section
variable {X:Cx} {K:PySem.W.Frag} {d:Mode} {e:Expr} {es:List Expr} {pos:Pos} {mr:Rho→R (List W)} {mt:Rho→R Bool}
noncomputable abbrev mLen (i:Nat):Rho→R Bool:=bTest (b2 (fI0 gGt) (bA fLen (aC (mVar .B i) aN)) (mC (.int 0)))
theorem mLen_ok {i:Nat} (ρ:Rho) (bl:List W) (h:ρ[i]?=some (.own bl)):mLen i ρ=.ok (decide (0<bl.length)):=by
 have e1:mVar .B i ρ=.ok (.lst bl):=by unfold mVar; rw [h]
 unfold mLen bTest b2 bA aC
 show ((((mVar .B i ρ)>>=fun w=>aN ρ>>=fun ws=>R.ok (w::ws))>>=fLen)>>=fun x=>mC (.int 0) ρ>>=fun y=>fI0 gGt x y)>>=toB=_
 rw [e1]
 show R.ok (decide ((0:Int)<(bl.length:Int)))=_
 congr 1
 by_cases q:0<bl.length
 ·rw [decide_eq_true q,decide_eq_true (by omega)]
 ·rw [decide_eq_false q,decide_eq_false (by omega)]
theorem q_mB {i k n N:Nat} {y x:Str} {f:Addr} {fd:FuncData} {ps:List Str} {m:Rho→R Fl} {pos' p cpos p2 p3 p5 p6:Pos} {c c3:Expr} {j1:Nat}
  {q1 q2 q3 q4 q5 q6 apos1 cpos1 pp1:Pos} {k1 k2 k3:Nat} {r1 r2 r3 r4 apos2 cpos2 pp2:Pos} {k4:Nat} {x1:_}
  (hN:X.N.Nodup) (hi:X.N[i]?=some y) (hy:Loc X.env.scope y) (hv:Vis X.env.scope y)
  (F:FnOk X.prog X.w X.K X.mg X.base CX0 k f fd ps (spM K n .F (runB n N m))) (hr:Room k X.A) (hg:Gl X x) (hm:X.mg x=some (.ref f)) (hk:PySem.W.keepIn X.K (.ref f)=true) (hb:Binds X.K fd ps [])
  (ha:PA X (e::es) (tA K (fun _ _=>False) .B mr)) (hc:PT X c (tT K (fun _ _=>False) mt)) (hc3:PT X c3 (tT K (fun _ _=>False) (mLen i))) (hK:X.K=K:=by rfl)
  (hdb:(x == ("__debug__" : Str))=false:=by decide) (he:starEach (e::es) X.env=(false,eval e X.env)::starEach es X.env:=by rfl) (hpl:(backTo cpos (starEach es X.env)).any (·.1)=false:=by rfl)
  (hs:swapsWith (.Call (.Name x p) (e::es) [] cpos) (some (.Name y pos')) pos.line X.env=pure false:=by rfl) (hf:X.fn y=true∨X.env.scope.names.lookup y=some .local:=by first | exact .inl rfl | exact .inr rfl | assumption)
  (hyd:(y == ("__debug__" : Str))=false:=by decide) (hyc:(y == ("__classdict__" : Str))=false:=by decide)
  (hix1:PlainIx (.Constant (.int 0) k1 q2):=by exact fun _ _=>rfl) (hix2:PlainIx (.Constant (.int 0) k2 q4):=by exact fun _ _=>rfl)
  (hbase:attributeBase (.Subscript (.Subscript (.Name y q1) (.Constant (.int 0) k1 q2) q3) (.Constant (.int 0) k2 q4) q5) "append" X.env (eval (.Subscript (.Subscript (.Name y q1) (.Constant (.int 0) k1 q2) q3) (.Constant (.int 0) k2 q4) q5) X.env)=eval (.Subscript (.Subscript (.Name y q1) (.Constant (.int 0) k1 q2) q3) (.Constant (.int 0) k2 q4) q5) X.env:=by rfl)
  (hfew:((backTo cpos1 (starEach [.Constant (.int 0) k3 q6] X.env)).all (fun x=>!x.1)&&(backToKw cpos1 (keywordEach [] X.env)).all (fun x=>x.1.isSome)
   && decide (([.Constant (.int 0) k3 q6]:List Expr).length+([]:List Keyword).length+(if ([]:List Keyword).isEmpty then 0 else 1)<30))=true:=by rfl)
  (hline:(apos1.endLine == cpos1.line)=true:=by rfl) (hs1:starEach [.Constant (.int 0) k3 q6] X.env=(false,eval (.Constant (.int 0) k3 q6) X.env)::starEach [] X.env:=by rfl)
  (hsw:swapsWith (.Call (.Attribute (.Subscript (.Subscript (.Name y q1) (.Constant (.int 0) k1 q2) q3) (.Constant (.int 0) k2 q4) q5) "append" apos1) [.Constant (.int 0) k3 q6] [] cpos1) none pp1.line X.env=pure false:=by rfl)
  (hbase2:attributeBase (.Name y r1) "append" X.env (eval (.Name y r1) X.env)=eval (.Name y r1) X.env:=by rfl)
  (hfew2:((backTo cpos2 (starEach [.Tuple [.List [] r2,.Constant (.int 0) k4 r3] x1 r4] X.env)).all (fun x=>!x.1)&&(backToKw cpos2 (keywordEach [] X.env)).all (fun x=>x.1.isSome)
   && decide (([.Tuple [.List [] r2,.Constant (.int 0) k4 r3] x1 r4]:List Expr).length+([]:List Keyword).length+(if ([]:List Keyword).isEmpty then 0 else 1)<30))=true:=by rfl)
  (hline2:(apos2.endLine == cpos2.line)=true:=by rfl) (hs2:starEach [.Tuple [.List [] r2,.Constant (.int 0) k4 r3] x1 r4] X.env=(false,eval (.Tuple [.List [] r2,.Constant (.int 0) k4 r3] x1 r4) X.env)::starEach [] X.env:=by rfl)
  (hsw2:swapsWith (.Call (.Attribute (.Name y r1) "append" apos2) [.Tuple [.List [] r2,.Constant (.int 0) k4 r3] x1 r4] [] cpos2) none pp2.line X.env=pure false:=by rfl)
  (ht1:starEach [.List [] r2,.Constant (.int 0) k4 r3] X.env=(false,eval (.List [] r2) X.env)::starEach [.Constant (.int 0) k4 r3] X.env:=by rfl) (ht2:starEach [.Constant (.int 0) k4 r3] X.env=(false,eval (.Constant (.int 0) k4 r3) X.env)::starEach [] X.env:=by rfl) :
  PSs X [.Assign [.Name y pos'] (.Call (.Name x p) (e::es) [] cpos) pos,.If c [.Return (some (.Constant (.bool false) j1 p2)) p3] [] p5,
   .If c3 [.Expr (.Call (.Attribute (.Subscript (.Subscript (.Name y q1) (.Constant (.int 0) k1 q2) q3) (.Constant (.int 0) k2 q4) q5) "append" apos1) [.Constant (.int 0) k3 q6] [] cpos1) pp1] [] p6,
   .Expr (.Call (.Attribute (.Name y r1) "append" apos2) [.Tuple [.List [] r2,.Constant (.int 0) k4 r3] x1 r4] [] cpos2) pp2] (tSt K (fun _ _=>False) d (mB i (runB n N m) mr mt)):=by
 subst hK
 have h:=pss_cons (ps_set hN hi hy (pe_call F hr hg hm hk hb .nil pass0 ha hdb he hpl) hs hf) (pss_cons (ps_if (pos:=p5) hc (pss_one (ps_ret (pos:=p3) (pe_bl (b:=false) (j:=j1) (pos:=p2)))) pss_nil) (pss_cons (ps_if (pos:=p6) hc3 (pss_one (ps_expr (pe_append (pe_ix ix_tup (pe_ix ix_list (pe_var hi hv hyd hyc) pe_int hix1) pe_int hix2) pe_int hbase hfew hline hs1) hsw)) pss_nil) (pss_one (ps_expr (pe_append (pe_var hi hv hyd hyc) (pe_tup (pa_cons (pe_lst pa_nil) (pa_cons pe_int pa_nil ht2) ht1)) hbase2 hfew2 hline2 hs2) hsw2))))
 refine PSs.mono h fun D σ H q=>?_
 obtain ⟨H0,G,ρ,I,o⟩:=q
 unfold mB at o
 by_cases hl:i<ρ.length
 ·rw [if_pos hl] at o
  exact c_mB (fun ws h=>runB_len ws h) (fun ρ bl h=>mLen_ok ρ bl h) (fun bl=>List.getElem?_set_self hl) I o
 ·rw [if_neg hl] at o; exact o.elim
end
end TP
set_option Elab.async false
set_option linter.all false
set_option maxRecDepth 100000
namespace TP
open PySem L2
noncomputable abbrev tI (ns:List Int):W:=.tup (ns.map W.int)
noncomputable abbrev lI (ns:List Int):W:=.lst (ns.map W.int)
theorem noLs_ints (ns:List Int):noLs (ns.map W.int)=true:=by
 induction ns with
 | nil=>rfl
 | cons n ns ih=>rw [List.map_cons]; simp only [noLs,noL,ih,Bool.and_self]
theorem fEqS_ii (n:Bool) (i j:Int):fEqS n (.int i) (.int j)=.ok (.bl (if n then !decide (i=j) else decide (i=j))):=by
 show R.ok (W.bl (if n then !decide (V.int i=V.int j) else decide (V.int i=V.int j)))=_
 rw [show decide (V.int i=V.int j)=decide (i=j) from decide_eq_decide.mpr ⟨V.int.inj,congrArg _⟩]
theorem fEqS_bb (n:Bool) (i j:Bool):fEqS n (.bl i) (.bl j)=.ok (.bl (if n then !decide (i=j) else decide (i=j))):=by
 show R.ok (W.bl (if n then !decide (V.bl i=V.bl j) else decide (V.bl i=V.bl j)))=_
 rw [show decide (V.bl i=V.bl j)=decide (i=j) from decide_eq_decide.mpr ⟨V.bl.inj,congrArg _⟩]
theorem fEqS_ss (n:Bool) (i j:Str):fEqS n (.str i) (.str j)=.ok (.bl (if n then !decide (i=j) else decide (i=j))):=by
 show R.ok (W.bl (if n then !decide (V.str i=V.str j) else decide (V.str i=V.str j)))=_
 rw [show decide (V.str i=V.str j)=decide (i=j) from decide_eq_decide.mpr ⟨V.str.inj,congrArg _⟩]
theorem fEqS_nn (n:Bool):fEqS n .non .non=.ok (.bl (!n)):=by cases n <;> rfl
theorem fEqS_ni (n:Bool) (i:Int):fEqS n .non (.int i)=.ok (.bl n):=by cases n <;> rfl
theorem fEqS_in (n:Bool) (i:Int):fEqS n (.int i) .non=.ok (.bl n):=by cases n <;> rfl
theorem atW {ns:List Int} {i:Int} (h0:0≤i) (h1:i<ns.length):L2.atI (ns.map W.int) i=some (.int (ns.getD i.toNat 0)):=by
 unfold L2.atI
 rw [List.length_map,ixN_int h0 h1]
 show (ns.map W.int)[i.toNat]?=_
 rw [List.getElem?_map,some_getD (by omega)]; rfl
theorem atW_nat {ns:List Int} {k:Nat} (h1:k<ns.length):L2.atI (ns.map W.int) (k:Int)=some (.int (ns.getD k 0)):=by
 have:=atW (ns:=ns) (i:=(k:Int)) (by omega) (by omega)
 rw [Int.toNat_natCast] at this; exact this
theorem atW_of {ws:List W} {k:Nat} {w:W} (h:ws[k]?=some w):L2.atI ws (k:Int)=some w:=by
 have hk:=(List.getElem?_eq_some_iff.mp h).1
 unfold L2.atI
 rw [ixN_int (by omega) (by omega),Int.toNat_natCast]
 exact h
noncomputable def andThen (r:R Fl) (n:Rho→R Fl):R Fl:=r>>=fun f=>match f with
 | .nx ρ'=>n ρ'
 | .rt w=>.ok (.rt w)
 | .bk ρ'=>.ok (.bk ρ')
 | .ct ρ'=>.ok (.ct ρ')
theorem mSeq_ap (m n:Rho→R Fl) (ρ:Rho):mSeq m n ρ=andThen (m ρ) n:=rfl
theorem andThen_nx (ρ:Rho) (n:Rho→R Fl):andThen (.ok (.nx ρ)) n=n ρ:=rfl
theorem andThen_rt (w:W) (n:Rho→R Fl):andThen (.ok (.rt w)) n=.ok (.rt w):=rfl
theorem andThen_bk (ρ:Rho) (n:Rho→R Fl):andThen (.ok (.bk ρ)) n=.ok (.bk ρ):=rfl
theorem andThen_ct (ρ:Rho) (n:Rho→R Fl):andThen (.ok (.ct ρ)) n=.ok (.ct ρ):=rfl
theorem mC_ap (w:W) (ρ:Rho):mC w ρ=.ok w:=rfl
theorem b1_ap (f:W→R W) (ma:Rho→R W) (ρ:Rho):b1 f ma ρ=(ma ρ>>=f):=rfl
noncomputable def R2b (a b:R W) (f:W→W→R W):R W:=a>>=fun x=>b>>=fun y=>f x y
theorem b2_ap (f:W→W→R W) (ma mb:Rho→R W) (ρ:Rho):b2 f ma mb ρ=R2b (ma ρ) (mb ρ) f:=rfl
theorem R2b_ok (x y:W) (f:W→W→R W):R2b (.ok x) (.ok y) f=f x y:=rfl
theorem bA_ap (f:List W→R W) (ma:Rho→R (List W)) (ρ:Rho):bA f ma ρ=(ma ρ>>=f):=rfl
theorem bI_ap (f:List W→R (List W)) (ma:Rho→R (List W)) (ρ:Rho):bI f ma ρ=(ma ρ>>=f):=rfl
theorem bS_ap (ma:Rho→R W) (ρ:Rho):bS ma ρ=(ma ρ>>=seqW):=rfl
theorem aN_ap (ρ:Rho):aN ρ=.ok []:=rfl
noncomputable def Rcons (a:R W) (b:R (List W)):R (List W):=a>>=fun x=>b>>=fun xs=>.ok (x::xs)
theorem aC_ap (ma:Rho→R W) (mr:Rho→R (List W)) (ρ:Rho):aC ma mr ρ=Rcons (ma ρ) (mr ρ):=rfl
theorem Rcons_ok (x:W) (xs:List W):Rcons (.ok x) (.ok xs)=.ok (x::xs):=rfl
theorem bChk_ap (ma:Rho→R W) (ρ:Rho):bChk ma ρ=(ma ρ>>=chk):=rfl
theorem bTest_ap (ma:Rho→R W) (ρ:Rho):bTest ma ρ=(ma ρ>>=toB):=rfl
theorem tAnd_ap (a b:Rho→R Bool) (ρ:Rho):tAnd' a b ρ=rAnd (a ρ) (b ρ):=rfl
theorem tOr_ap (a b:Rho→R Bool) (ρ:Rho):tOr' a b ρ=rOr (a ρ) (b ρ):=rfl
theorem tNot_ap (a:Rho→R Bool) (ρ:Rho):tNot' a ρ=rNot (a ρ):=rfl
theorem rAnd_ok (x y:Bool):rAnd (.ok x) (.ok y)=.ok (x&&y):=by cases x <;> rfl
theorem rAnd_ff (r:R Bool):rAnd (.ok false) r=.ok false:=rfl
theorem rAnd_tt (r:R Bool):rAnd (.ok true) r=r:=rfl
theorem rOr_ok (x y:Bool):rOr (.ok x) (.ok y)=.ok (x||y):=by cases x <;> rfl
theorem rOr_tt (r:R Bool):rOr (.ok true) r=.ok true:=rfl
theorem rOr_ff (r:R Bool):rOr (.ok false) r=r:=rfl
theorem rNot_ok (x:Bool):rNot (.ok x)=.ok (!x):=rfl
theorem vAnd_ap (a b:Rho→R W) (ρ:Rho):vAnd a b ρ=rAndV (a ρ) (b ρ):=rfl
theorem vOr_ap (a b:Rho→R W) (ρ:Rho):vOr a b ρ=rOrV (a ρ) (b ρ):=rfl
theorem vNot_ap (a:Rho→R W) (ρ:Rho):vNot a ρ=rNotV (a ρ):=rfl
theorem rAndV_ok (x y:Bool):rAndV (.ok (.bl x)) (.ok (.bl y))=.ok (.bl (x&&y)):=by cases x <;> rfl
theorem rAndV_ff (r:R W):rAndV (.ok (.bl false)) r=.ok (.bl false):=rfl
theorem rAndV_tt (r:R W):rAndV (.ok (.bl true)) r=r:=rfl
theorem rOrV_ok (x y:Bool):rOrV (.ok (.bl x)) (.ok (.bl y))=.ok (.bl (x||y)):=by cases x <;> rfl
theorem rOrV_tt (r:R W):rOrV (.ok (.bl true)) r=.ok (.bl true):=rfl
theorem rOrV_ff (r:R W):rOrV (.ok (.bl false)) r=r:=rfl
theorem rNotV_ok (x:Bool):rNotV (.ok (.bl x))=.ok (.bl (!x)):=rfl
noncomputable def rIfW (c:R Bool) (a b:R W):R W:=c>>=fun t=>if t then a else b
theorem vIf_ap (c:Rho→R Bool) (a b:Rho→R W) (ρ:Rho):vIf c a b ρ=rIfW (c ρ) (a ρ) (b ρ):=rfl
theorem rIfW_tt (a b:R W):rIfW (.ok true) a b=a:=rfl
theorem rIfW_ff (a b:R W):rIfW (.ok false) a b=b:=rfl
theorem rIfW_ok (t:Bool) (x y:W):rIfW (.ok t) (.ok x) (.ok y)=.ok (if t then x else y):=by cases t <;> rfl
noncomputable def Rchain (f f':W→W→R W) (a b c:R W):R W:=a>>=fun x=>b>>=fun y=>f x y>>=fun z=>toB z>>=fun t=>if t then c>>=fun u=>f' y u else .ok (.bl false)
theorem vChain_ap (f f':W→W→R W) (ma mb mc:Rho→R W) (ρ:Rho):vChain f f' ma mb mc ρ=Rchain f f' (ma ρ) (mb ρ) (mc ρ):=rfl
theorem Rchain_ii (g g':Int→Int→Bool) (i j k:Int):Rchain (fI0 fun i j=>.bl (g i j)) (fI0 fun i j=>.bl (g' i j)) (.ok (.int i)) (.ok (.int j)) (.ok (.int k))=.ok (.bl (g i j&&g' j k)):=by
 unfold Rchain
 show (if g i j=true then _ else _)=_
 cases h:g i j <;> simp [fI0]
noncomputable def mkTup (ws:List W):R W:=lim ws.length (.tup ws)
noncomputable def mkLst (ws:List W):R W:=lim ws.length (.lst ws)
theorem vTup_ap (ma:Rho→R (List W)) (ρ:Rho):vTup ma ρ=(ma ρ>>=mkTup):=rfl
theorem vLst_ap (ma:Rho→R (List W)) (ρ:Rho):vLst ma ρ=(ma ρ>>=mkLst):=rfl
theorem pN_ap (ρ:Rho):pN ρ=.ok none:=rfl
theorem pS_ap (m:Rho→R W) (ρ:Rho):pS m ρ=(m ρ>>=partW):=rfl
theorem partW_int (i:Int):partW (.int i)=.ok (some i):=rfl
noncomputable def Rsl (c:Bool) (x:R W) (l u:R (Option Int)):R W:=x>>=fun x=>l>>=fun l=>u>>=fun u=>toR (lstOf x)>>=fun ws=>chks c (cutW ws l u)
theorem vSl_ap (c:Bool) (m:Rho→R W) (ml mh:Rho→R (Option Int)) (ρ:Rho):vSl c m ml mh ρ=Rsl c (m ρ) (ml ρ) (mh ρ):=rfl
theorem Rsl_lst (c:Bool) (ws:List W) (l u:Option Int):Rsl c (.ok (.lst ws)) (.ok l) (.ok u)=chks c (cutW ws l u):=rfl
theorem Rsl_scr (c:Bool) (ws:List W) (l u:Option Int):Rsl c (.ok (.scr ws)) (.ok l) (.ok u)=chks c (cutW ws l u):=rfl
noncomputable def Rcomp (r:R (List W)) (n:Nat) (mg:W→Rho→Option Rho) (mc:Rho→R Bool) (me:Rho→R W) (ρ:Rho):R W:=r>>=fun ws=>mComp n mg mc me ws ρ
theorem vComp_ap (n:Nat) (mi:Rho→R (List W)) (mg:W→Rho→Option Rho) (mc:Rho→R Bool) (me:Rho→R W) (ρ:Rho):vComp n mi mg mc me ρ=Rcomp (mi ρ) n mg mc me ρ:=rfl
theorem Rcomp_ok (ws:List W) (n:Nat) (mg:W→Rho→Option Rho) (mc:Rho→R Bool) (me:Rho→R W) (ρ:Rho):Rcomp (.ok ws) n mg mc me ρ=mComp n mg mc me ws ρ:=rfl
theorem sNx_ap (ρ:Rho):sNx ρ=.ok (.nx ρ):=rfl
theorem sBk_ap (ρ:Rho):sBk ρ=.ok (.bk ρ):=rfl
theorem sCt_ap (ρ:Rho):sCt ρ=.ok (.ct ρ):=rfl
noncomputable def Rdrop (r:R W) (ρ:Rho):R Fl:=r>>=fun _=>.ok (.nx ρ)
theorem sDrop_ap (m:Rho→R W) (ρ:Rho):sDrop m ρ=Rdrop (m ρ) ρ:=rfl
theorem Rdrop_ok (w:W) (ρ:Rho):Rdrop (.ok w) ρ=.ok (.nx ρ):=rfl
noncomputable def retK (w:W):R Fl:=.ok (.rt w)
theorem sRet_ap (m:Rho→R W) (ρ:Rho):sRet m ρ=(m ρ>>=retK):=rfl
theorem retK_ap (w:W):retK w=.ok (.rt w):=rfl
theorem sRetN_ap (ρ:Rho):sRetN ρ=.ok (.rt .non):=rfl
noncomputable def Rset (r:R W) (f:W→Sl) (i:Nat) (ρ:Rho):R Fl:=r>>=fun w=>.ok (.nx (ρ.set i (f w)))
theorem sV_ap (i:Nat) (m:Rho→R W) (ρ:Rho):sV i m ρ=Rset (m ρ) Sl.val i ρ:=rfl
theorem sU_ap (i:Nat) (m:Rho→R W) (ρ:Rho):sU i m ρ=Rset (m ρ) Sl.par i ρ:=rfl
theorem sF_ap (i:Nat) (m:Rho→R W) (ρ:Rho):sF i m ρ=Rset (m ρ) slotF i ρ:=rfl
theorem Rset_ok (w:W) (f:W→Sl) (i:Nat) (ρ:Rho):Rset (.ok w) f i ρ=.ok (.nx (ρ.set i (f w))):=rfl
theorem slotF_lst (ws:List W):slotF (.lst ws)=.own ws:=rfl
theorem slotF_tup (ws:List W):slotF (.tup ws)=.val (.tup ws):=rfl
theorem slotF_int (i:Int):slotF (.int i)=.val (.int i):=rfl
theorem slotF_bl (i:Bool):slotF (.bl i)=.val (.bl i):=rfl
theorem slotF_non:slotF .non=.val .non:=rfl
theorem slotF_str (i:Str):slotF (.str i)=.val (.str i):=rfl
noncomputable def toNx:Option Rho→R Fl
 | some ρ=>.ok (.nx ρ)
 | none=>.stuck
noncomputable def Rasg (r:R W) (mg:W→Rho→Option Rho) (ρ:Rho):R Fl:=r>>=fun w=>toR (mg w ρ)>>=fun ρ'=>.ok (.nx ρ')
theorem sG_ap (mg:W→Rho→Option Rho) (m:Rho→R W) (ρ:Rho):sG mg m ρ=Rasg (m ρ) mg ρ:=rfl
theorem Rasg_ok (w:W) (mg:W→Rho→Option Rho) (ρ:Rho):Rasg (.ok w) mg ρ=toNx (mg w ρ):=by
 show (toR (mg w ρ)>>=_)=_
 cases mg w ρ <;> rfl
theorem toNx_some (ρ:Rho):toNx (some ρ)=.ok (.nx ρ):=rfl
noncomputable def Rfor (r:R (List W)) (mg:W→Rho→Option Rho) (mb:Rho→R Fl) (ρ:Rho):R Fl:=r>>=fun ws=>mFor mg mb ws ρ
theorem sFor_ap (mi:Rho→R (List W)) (mg:W→Rho→Option Rho) (mb:Rho→R Fl) (ρ:Rho):sFor mi mg mb ρ=Rfor (mi ρ) mg mb ρ:=rfl
theorem Rfor_ok (ws:List W) (mg:W→Rho→Option Rho) (mb:Rho→R Fl) (ρ:Rho):Rfor (.ok ws) mg mb ρ=mFor mg mb ws ρ:=rfl
theorem sFrz_ap (i:Nat) (m:Rho→R Fl) (ρ:Rho):sFrz i m ρ=m (frz i ρ):=rfl
noncomputable def frzS:Option Sl→Nat→Rho→Rho
 | some (.own ws),i,ρ=>ρ.set i (.val (.lst ws))
 | _,_,ρ=>ρ
theorem frz_ap (i:Nat) (ρ:Rho):frz i ρ=frzS (ρ[i]?) i ρ:=by
 unfold frz frzS
 rcases h:ρ[i]? with _ | s
 ·rfl
 ·cases s <;> rfl
theorem frzS_own (ws:List W) (i:Nat) (ρ:Rho):frzS (some (.own ws)) i ρ=ρ.set i (.val (.lst ws)):=rfl
theorem frzS_val (w:W) (i:Nat) (ρ:Rho):frzS (some (.val w)) i ρ=ρ:=rfl
theorem frzS_par (w:W) (i:Nat) (ρ:Rho):frzS (some (.par w)) i ρ=ρ:=rfl
theorem frzS_un (i:Nat) (ρ:Rho):frzS (some .un) i ρ=ρ:=rfl
noncomputable def rdS (d:Mode):Option Sl→R W
 | some (.val w)=>(match d with | .F=>chk w | _=>.ok w)
 | some (.par w)=>(match d with | .F=>chk w | .V=>chk w | .C=>chk w | _=>.ok w)
 | some (.own ws)=>(match d with | .C=>.ok (.lst ws) | .B=>.ok (.lst ws) | _=>.stuck)
 | some (.iop _ ws)=>(match d with | .B=>.ok (.lst ws) | .U=>.ok (.lst ws) | _=>.stuck)
 | some (.hz w)=>(match d with | .B=>.ok w | .U=>.ok w | _=>.stuck)
 | _=>.stuck
theorem mVar_ap (d:Mode) (i:Nat) (ρ:Rho):mVar d i ρ=rdS d (ρ[i]?):=by
 unfold mVar rdS
 rfl
theorem rdS_vF (w:W):rdS .F (some (.val w))=chk w:=rfl
theorem rdS_vV (w:W):rdS .V (some (.val w))=.ok w:=rfl
theorem rdS_vU (w:W):rdS .U (some (.val w))=.ok w:=rfl
theorem rdS_vC (w:W):rdS .C (some (.val w))=.ok w:=rfl
theorem rdS_vB (w:W):rdS .B (some (.val w))=.ok w:=rfl
theorem rdS_pF (w:W):rdS .F (some (.par w))=chk w:=rfl
theorem rdS_pV (w:W):rdS .V (some (.par w))=chk w:=rfl
theorem rdS_pU (w:W):rdS .U (some (.par w))=.ok w:=rfl
theorem rdS_pC (w:W):rdS .C (some (.par w))=chk w:=rfl
theorem rdS_pB (w:W):rdS .B (some (.par w))=.ok w:=rfl
theorem rdS_oC (ws:List W):rdS .C (some (.own ws))=.ok (.lst ws):=rfl
theorem rdS_oB (ws:List W):rdS .B (some (.own ws))=.ok (.lst ws):=rfl
noncomputable def retS (d:Mode):Option Sl→R Fl
 | some (.own ws)=>.ok (.rt (.lst ws))
 | o=>rdS d o>>=retK
theorem mRetVar_ap (d:Mode) (i:Nat) (ρ:Rho):mRetVar d i ρ=retS d (ρ[i]?):=by
 unfold mRetVar retS
 rw [mVar_ap]
 rcases h:ρ[i]? with _ | s
 ·rfl
 ·cases s <;> rfl
theorem retS_own (d:Mode) (ws:List W):retS d (some (.own ws))=.ok (.rt (.lst ws)):=rfl
theorem retS_val (d:Mode) (w:W):retS d (some (.val w))=(rdS d (some (.val w))>>=retK):=rfl
theorem retS_par (d:Mode) (w:W):retS d (some (.par w))=(rdS d (some (.par w))>>=retK):=rfl
noncomputable def appS (o:Option Sl) (r:R W) (i:Nat) (ρ:Rho):R Fl:=match o with
 | some (.own ws)=>r>>=fun w=>if ws.length<1000 then .ok (.nx (ρ.set i (.own (ws ++ [w])))) else .stuck
 | _=>.stuck
theorem mApp_ap (i:Nat) (m:Rho→R W) (ρ:Rho):mApp i m ρ=appS (ρ[i]?) (m ρ) i ρ:=rfl
theorem appS_ok (ws:List W) (w:W) (i:Nat) (ρ:Rho):appS (some (.own ws)) (.ok w) i ρ=if ws.length<1000 then .ok (.nx (ρ.set i (.own (ws ++ [w])))) else .stuck:=rfl
noncomputable def setS (o:Option Sl) (a b:R W) (i:Nat) (ρ:Rho):R Fl:=match o with
 | some (.own ws)=>b>>=fun w=>a>>=fun k=>(match k with
  | .int k=>(match ixN ws.length k with
   | some j=>.ok (.nx (ρ.set i (.own (ws.set j w))))
   | none=>.stuck)
  | _=>.stuck)
 | _=>.stuck
theorem mSet_ap (i:Nat) (mk me:Rho→R W) (ρ:Rho):mSet i mk me ρ=setS (ρ[i]?) (mk ρ) (me ρ) i ρ:=rfl
noncomputable def setJ (o:Option Nat) (ws:List W) (w:W) (i:Nat) (ρ:Rho):R Fl:=match o with
 | some j=>.ok (.nx (ρ.set i (.own (ws.set j w))))
 | none=>.stuck
theorem setS_ok (ws:List W) (w:W) (k:Int) (i:Nat) (ρ:Rho):setS (some (.own ws)) (.ok (.int k)) (.ok w) i ρ=setJ (ixN ws.length k) ws w i ρ:=rfl
theorem setJ_some (j:Nat) (ws:List W) (w:W) (i:Nat) (ρ:Rho):setJ (some j) ws w i ρ=.ok (.nx (ρ.set i (.own (ws.set j w)))):=rfl
noncomputable def augS (f:Int→Int→Int) (a b:R W) (i:Nat) (ρ:Rho):R Fl:=a>>=fun x=>b>>=fun y=>match x,y with
 | .int a,.int b=>.ok (.nx (ρ.set i (.val (.int (f a b)))))
 | _,_=>.stuck
theorem mAug_ap (i:Nat) (f:Int→Int→Int) (m:Rho→R W) (ρ:Rho):mAug i f m ρ=augS f (rdS .B (ρ[i]?)) (m ρ) i ρ:=by
 rw [← mVar_ap]; rfl
theorem augS_ok (f:Int→Int→Int) (a b:Int) (i:Nat) (ρ:Rho):augS f (.ok (.int a)) (.ok (.int b)) i ρ=.ok (.nx (ρ.set i (.val (.int (f a b))))):=rfl
noncomputable def ifS (c:R Bool) (m n:Rho→R Fl) (ρ:Rho):R Fl:=c>>=fun b=>if b then m ρ else n ρ
theorem mIf_ap (c:Rho→R Bool) (m n:Rho→R Fl) (ρ:Rho):mIf c m n ρ=ifS (c ρ) m n ρ:=rfl
theorem ifS_tt (m n:Rho→R Fl) (ρ:Rho):ifS (.ok true) m n ρ=m ρ:=rfl
theorem ifS_ff (m n:Rho→R Fl) (ρ:Rho):ifS (.ok false) m n ρ=n ρ:=rfl
noncomputable def endB (r:R Fl):R W:=r>>=fun f=>match f with
 | .rt w=>.ok w
 | .nx _=>.ok .non
 | _=>.stuck
theorem runB_ap {n N:Nat} {m:Rho→R Fl} {ws:List W} (h:ws.length=n):runB n N m ws=endB (m (ws.map Sl.par++List.replicate (N-n) Sl.un)):=by unfold runB; rw [if_pos h]; rfl
theorem runB_1 {N:Nat} {m:Rho→R Fl} (a:W):runB 1 N m [a]=endB (m (Sl.par a::List.replicate (N-1) Sl.un)):=runB_ap rfl
theorem runB_2 {N:Nat} {m:Rho→R Fl} (a b:W):runB 2 N m [a,b]=endB (m (Sl.par a::Sl.par b::List.replicate (N-2) Sl.un)):=runB_ap rfl
theorem runB_3 {N:Nat} {m:Rho→R Fl} (a b c:W):runB 3 N m [a,b,c]=endB (m (Sl.par a::Sl.par b::Sl.par c::List.replicate (N-3) Sl.un)):=runB_ap rfl
theorem runB_4 {N:Nat} {m:Rho→R Fl} (a b c d:W):runB 4 N m [a,b,c,d]=endB (m (Sl.par a::Sl.par b::Sl.par c::Sl.par d::List.replicate (N-4) Sl.un)):=runB_ap rfl
theorem runB_5 {N:Nat} {m:Rho→R Fl} (a b c d e:W):runB 5 N m [a,b,c,d,e]=endB (m (Sl.par a::Sl.par b::Sl.par c::Sl.par d::Sl.par e::List.replicate (N-5) Sl.un)):=runB_ap rfl
theorem endB_rt (w:W):endB (.ok (.rt w))=.ok w:=rfl
theorem endB_nx (ρ:Rho):endB (.ok (.nx ρ))=.ok .non:=rfl
theorem fI0_ii (g:Int→Int→W) (i j:Int):fI0 g (.int i) (.int j)=.ok (g i j):=rfl
theorem fU_i (g:Int→W) (i:Int):fU g (.int i)=.ok (g i):=rfl
theorem fIx_l (ws:List W) (i:Int):fIx (.lst ws) (.int i)=toR (L2.atI ws i):=rfl
theorem fIx_t (ws:List W) (i:Int):fIx (.tup ws) (.int i)=toR (L2.atI ws i):=rfl
theorem fIx_s (ws:List W) (i:Int):fIx (.scr ws) (.int i)=toR (L2.atI ws i):=rfl
theorem toR_some {α:Type} (a:α):toR (some a)=.ok a:=rfl
theorem toB_bl (b:Bool):toB (.bl b)=.ok b:=rfl
theorem fLen_l (ws:List W):fLen [.lst ws]=.ok (.int ws.length):=rfl
theorem fLen_t (ws:List W):fLen [.tup ws]=.ok (.int ws.length):=rfl
theorem fLen_s (ws:List W):fLen [.scr ws]=.ok (.int ws.length):=rfl
theorem fList_l (c:Bool) (ws:List W):fList c [.lst ws]=chks c ws:=rfl
theorem fList_t (c:Bool) (ws:List W):fList c [.tup ws]=chks c ws:=rfl
theorem fTup_l (c:Bool) (ws:List W):fTup c [.lst ws]=chkT c ws:=rfl
theorem fTup_t (c:Bool) (ws:List W):fTup c [.tup ws]=chkT c ws:=rfl
theorem chks_t (ws:List W):chks true ws=.ok (.lst ws):=rfl
theorem chkT_t (ws:List W):chkT true ws=.ok (.tup ws):=rfl
theorem chks_no {c:Bool} {ws:List W} (h:noLs ws=true):chks c ws=.ok (.lst ws):=by unfold chks; rw [h,Bool.or_true,if_pos rfl]
theorem chkT_no {c:Bool} {ws:List W} (h:noLs ws=true):chkT c ws=.ok (.tup ws):=by unfold chkT; rw [h,Bool.or_true,if_pos rfl]
theorem chks_I (c:Bool) (ns:List Int):chks c (ns.map W.int)=.ok (.lst (ns.map W.int)):=chks_no (noLs_ints ns)
theorem chkT_I (c:Bool) (ns:List Int):chkT c (ns.map W.int)=.ok (.tup (ns.map W.int)):=chkT_no (noLs_ints ns)
theorem chk_no {w:W} (h:noL w=true):chk w=.ok w:=by unfold chk; rw [if_pos h]
theorem chk_int (i:Int):chk (.int i)=.ok (.int i):=rfl
theorem chk_bl (i:Bool):chk (.bl i)=.ok (.bl i):=rfl
theorem chk_str (i:Str):chk (.str i)=.ok (.str i):=rfl
theorem chk_non:chk .non=.ok .non:=rfl
theorem chk_tI (ns:List Int):chk (.tup (ns.map W.int))=.ok (.tup (ns.map W.int)):=chk_no (noLs_ints ns)
theorem f2_ii (g:Int→Int→Int) (i j:Int):f2 g [.int i,.int j]=.ok (.int (g i j)):=rfl
theorem seqW_l (ws:List W):seqW (.lst ws)=.ok ws:=rfl
theorem seqW_t (ws:List W):seqW (.tup ws)=.ok ws:=rfl
theorem seqW_s (ws:List W):seqW (.scr ws)=.ok ws:=rfl
theorem rng1_i (j:Int):rng1 [.int j]=rngW 0 j:=rfl
theorem rng2_i (i j:Int):rng2 [.int i,.int j]=rngW i j:=rfl
theorem gN_U (i:Nat) (w:W) (ρ:Rho):gN .U i w ρ=some (ρ.set i (.par w)):=rfl
theorem gN_V (i:Nat) (w:W) (ρ:Rho):gN .V i w ρ=some (ρ.set i (.val w)):=rfl
theorem gT_t (n:Nat) (g:List W→Rho→Option Rho) (ws:List W) (ρ:Rho):gT n g (.tup ws) ρ=if ws.length=n then g ws ρ else none:=rfl
theorem gsCons_c (f:W→Rho→Option Rho) (g:List W→Rho→Option Rho) (w:W) (ws:List W) (ρ:Rho):gsCons f g (w::ws) ρ=(f w ρ).bind (g ws):=rfl
theorem gsNil_n (ρ:Rho):gsNil [] ρ=some ρ:=rfl
theorem mkTup_ap (ws:List W):mkTup ws=if ws.length≤1000 then .ok (.tup ws) else .stuck:=rfl
theorem mkLst_ap (ws:List W):mkLst ws=if ws.length≤1000 then .ok (.lst ws) else .stuck:=rfl
theorem fIsi_ap (x:W) (T:String):fIsi [x,.ty T]=(toR ((tyW x).bind fun A=>isiB A T)>>=fun b=>.ok (.bl b)):=rfl
theorem isi_nt:isiB "NoneType" "tuple" = some false:=by decide
theorem isi_nl:isiB "NoneType" "list" = some false:=by decide
theorem isi_lt:isiB "list" "tuple" = some false:=by decide
theorem isi_tl:isiB "tuple" "list" = some false:=by decide
theorem fIsN_n (n:Bool) (u:W):fIsN n u .non=.ok (.bl (if n then !isN u else isN u)):=rfl
theorem mapR_all {f:W→R (Option W)} {α:Type} (g:α→W) (s:α→W):∀ (as:List α),(∀ a∈as,f (s a)=.ok (some (g a)))→mapR f (as.map s)=.ok (as.map g)
 | [],_=>rfl
 | a::as,h=>by
  rw [List.map_cons,mapR,h a (by simp),mapR_all g s as fun b hb=>h b (by simp [hb])]
  rfl
theorem mapR_filter {f:W→R (Option W)} {α:Type} (g:α→W) (s:α→W) (c:α→Bool):∀ (as:List α),(∀ a∈as,f (s a)=.ok (if c a then some (g a) else none))→mapR f (as.map s)=.ok ((as.filter c).map g)
 | [],_=>rfl
 | a::as,h=>by
  have ih:=mapR_filter g s c as fun b hb=>h b (by simp [hb])
  rw [List.map_cons,mapR,h a (by simp),ih]
  cases hc:c a
  ·simp [hc]
  ·simp [hc]
theorem mComp_all {N':Nat} {mg:W→Rho→Option Rho} {me:Rho→R W} {α:Type} (g:α→W) (s:α→W) (as:List α) (ρ:Rho) (hl:as.length≤1000)
  (h:∀ a∈as,∃ ρ1,mg (s a) (ρ++List.replicate (N'-ρ.length) Sl.un)=some ρ1∧me ρ1=.ok (g a)):mComp N' mg yes me (as.map s) ρ=.ok (.lst (as.map g)):=by
 unfold mComp
 rw [List.length_map,if_pos hl,mapR_all g s as]
 intro a ha
 obtain ⟨ρ1,e1,e2⟩:=h a ha
 unfold elR
 rw [e1]
 have hy:yes ρ1=.ok true:=rfl
 dsimp only
 rw [hy]
 dsimp only
 rw [e2]
theorem mComp_filter {N':Nat} {mg:W→Rho→Option Rho} {mc:Rho→R Bool} {me:Rho→R W} {α:Type} (g:α→W) (s:α→W) (c:α→Bool) (as:List α) (ρ:Rho) (hl:as.length≤1000)
  (h:∀ a∈as,∃ ρ1,mg (s a) (ρ++List.replicate (N'-ρ.length) Sl.un)=some ρ1∧mc ρ1=.ok (c a)∧(c a=true→me ρ1=.ok (g a))):mComp N' mg mc me (as.map s) ρ=.ok (.lst ((as.filter c).map g)):=by
 unfold mComp
 rw [List.length_map,if_pos hl,mapR_filter g s c as]
 intro a ha
 obtain ⟨ρ1,e1,e2,e3⟩:=h a ha
 unfold elR
 rw [e1]
 dsimp only
 rw [e2]
 cases hc:c a with
 | false=>rfl
 | true=>dsimp only; rw [e3 hc]; rfl
theorem rngW_int {z:Int} (h0:-1000000≤z) (h:z≤1000000):rngW 0 z=.ok ((List.range z.toNat).map fun k=>W.int (k:Nat)):=by
 unfold rngW
 rw [if_pos (by omega)]
 simp
theorem rng_at {n i:Nat} {w:W} (h:((List.range n).map fun k=>W.int (k:Nat))[i]?=some w):i<n∧w=.int (i:Nat):=by
 rw [List.getElem?_map] at h
 cases q:(List.range n)[i]? with
 | none=>rw [q] at h; cases h
 | some k=>
  rw [q] at h
  obtain ⟨h1,h2⟩:=List.getElem?_eq_some_iff.mp q
  simp at h1 h2
  subst h2
  cases h
  exact ⟨h1,rfl⟩
theorem map_at {ns:List Int} {i:Nat} {w:W} (h:(ns.map W.int)[i]?=some w):i<ns.length∧w=.int (ns.getD i 0):=by
 rw [List.getElem?_map] at h
 cases q:ns[i]? with
 | none=>rw [q] at h; cases h
 | some k=>
  rw [q] at h
  cases h
  exact ⟨(List.getElem?_eq_some_iff.mp q).1,by rw [getD_of q]⟩
noncomputable def cutI (xs:List Int) (lo hi:Option Int):List Int:=(xs.drop (HT.sIx xs.length 0 lo)).take (HT.sIx xs.length xs.length hi-HT.sIx xs.length 0 lo)
theorem cutW_I (ns:List Int) (lo hi:Option Int):cutW (ns.map W.int) lo hi=(cutI ns lo hi).map W.int:=by
 unfold cutW cutI
 rw [List.length_map,← List.map_drop,← List.map_take]
theorem cutI_len (ns:List Int) (lo hi:Option Int):(cutI ns lo hi).length≤ns.length:=by
 unfold cutI
 rw [List.length_take,List.length_drop]; omega
theorem cutI_mem {ns:List Int} {lo hi:Option Int} {P:Int→Prop} (h:∀ x∈ns,P x):∀ x∈cutI ns lo hi,P x:=fun x hx=>by
 unfold cutI at hx
 exact h x (List.mem_of_mem_drop (List.mem_of_mem_take hx))
theorem setW_I (ns:List Int) (j:Nat) (z:Int):(ns.map W.int).set j (.int z)=(ns.set j z).map W.int:=by rw [List.map_set]
theorem appW_I (ns:List Int) (z:Int):ns.map W.int ++ [.int z]=(ns ++ [z]).map W.int:=by rw [List.map_append]; rfl
theorem repW_I (k:Nat) (z:Int):(List.replicate k [W.int z]).flatten=(List.replicate k z).map W.int:=by
 induction k with
 | zero=>rfl
 | succ k ih=>rw [List.replicate_succ,List.flatten_cons,ih,List.replicate_succ,List.map_cons]; rfl
theorem mapI {α:Type} (as:List α) (f:α→Int):(as.map fun a=>W.int (f a))=(as.map f).map W.int:=by rw [List.map_map]; rfl
theorem vec_getD {n k:Nat} {f:Nat→Int} (h:k<n):((List.range n).map f).getD k 0=f k:=by
 rw [List.getD_eq_getElem?_getD,List.getElem?_map]
 simp [h]
theorem zipW_I2 {a b:List Int} (h:b.length=a.length):(zipW [a.map W.int,b.map W.int]).map W.tup=(List.range a.length).map fun k=>W.tup [.int (a.getD k 0),.int (b.getD k 0)]:=by
 apply List.ext_getElem?
 intro i
 simp only [zipW,List.getElem?_map,List.getElem?_zipWith]
 by_cases hi:i<a.length
 ·rw [some_getD hi,some_getD (ns:=b) (by omega)]; simp [hi]
 ·simp [hi]
theorem zipW_I3 {a b c:List Int} (h:b.length=a.length) (h':c.length=a.length):(zipW [a.map W.int,b.map W.int,c.map W.int]).map W.tup=(List.range a.length).map fun k=>W.tup [.int (a.getD k 0),.int (b.getD k 0),.int (c.getD k 0)]:=by
 apply List.ext_getElem?
 intro i
 simp only [zipW,List.getElem?_map,List.getElem?_zipWith,List.zip]
 by_cases hi:i<a.length
 ·rw [some_getD hi,some_getD (ns:=b) (by omega),some_getD (ns:=c) (by omega)]; simp [hi]
 ·simp [hi]
theorem zipR_2 (x y:W) (xs ys:List W) (hx:seqW x=.ok xs) (hy:seqW y=.ok ys):zipR [x,y]=.ok ((zipW [xs,ys]).map W.tup):=by
 unfold zipR
 simp only [List.length_cons,List.length_nil,seqWs,hx,hy,Nat.reduceAdd,true_or,if_true]
theorem zipR_3 (x y z:W) (xs ys zs:List W) (hx:seqW x=.ok xs) (hy:seqW y=.ok ys) (hz:seqW z=.ok zs):zipR [x,y,z]=.ok ((zipW [xs,ys,zs]).map W.tup):=by
 unfold zipR
 simp only [List.length_cons,List.length_nil,seqWs,hx,hy,hz,Nat.reduceAdd,or_true,if_true]
theorem mul_L {i j:Int} (h:-18446744073709551616<i∧i<18446744073709551616):fI CMul gMul (.int i) (.int j)=.ok (.int (i*j)):=by
 show (if CMul i j then _ else _)=_
 rw [if_pos (.inl (by simpa using h))]
theorem mul_R {i j:Int} (h:-18446744073709551616<j∧j<18446744073709551616):fI CMul gMul (.int i) (.int j)=.ok (.int (i*j)):=by
 show (if CMul i j then _ else _)=_
 rw [if_pos (.inr (by simpa using h))]
theorem mod_ii {i j:Int} (h:0<j):fI cMod gMod (.int i) (.int j)=.ok (.int (i%j)):=by
 show (if cMod i j then _ else _)=_
 rw [if_pos h]
theorem div_ii {i j:Int} (h:0<j∧j<1073741824):fI CDiv gDiv (.int i) (.int j)=.ok (.int (i/j)):=by
 show (if CDiv i j then _ else _)=_
 rw [if_pos (show CDiv i j from h)]
theorem pow_ii {i j:Int} (h:0≤j∧j≤1000000 ∧ -18446744073709551616<i∧i<18446744073709551616):fI CPow gPow (.int i) (.int j)=.ok (.int (i^j.toNat)):=by
 show (if CPow i j then _ else _)=_
 rw [if_pos ⟨h.1,h.2.1,by omega⟩]
theorem appS_c {ws:List W} {w:W} {i:Nat} {ρ:Rho} (h:ws.length<1000):appS (some (.own ws)) (.ok w) i ρ=.ok (.nx (ρ.set i (.own (ws ++ [w])))):=by rw [appS_ok,if_pos h]
theorem mkTup_c {ws:List W} (h:ws.length≤1000):mkTup ws=.ok (.tup ws):=by rw [mkTup_ap,if_pos h]
theorem mkLst_c {ws:List W} (h:ws.length≤1000):mkLst ws=.ok (.lst ws):=by rw [mkLst_ap,if_pos h]
theorem fCat_c {c:Bool} {us vs:List W} (h:us.length+vs.length≤1000):fCat c (.lst us) (.lst vs)=chks c (us++vs):=by
 show (if us.length+vs.length≤1000 then _ else _)=_
 rw [if_pos h]
theorem fRep_1 {c:Bool} {z:W} {k:Int} (h:0≤k∧k≤1000):fRep c (.lst [z]) (.int k)=chks c (List.replicate k.toNat [z]).flatten:=by
 show (if [z].length*k.toNat≤1000 ∧ -1000≤k∧k≤1000 then _ else _)=_
 rw [if_pos ⟨by simp only [List.length_cons,List.length_nil]; omega,by omega,h.2⟩]
theorem atW_c {ns:List Int} {i:Int} (h:0≤i∧i<ns.length):L2.atI (ns.map W.int) i=some (.int (ns.getD i.toNat 0)):=atW h.1 h.2
theorem ixN_c {n:Nat} {i:Int} (h:0≤i∧i<n):ixN n i=some i.toNat:=ixN_int h.1 h.2
theorem rngW_c {z:Int} (h:-1000000≤z∧z≤1000000):rngW 0 z=.ok ((List.range z.toNat).map fun k=>W.int (k:Nat)):=rngW_int h.1 h.2
noncomputable def Ok (r:R W) (P:W→Prop):Prop:=∃ w,r=.ok w∧P w
noncomputable def Po (r:R Fl) (Jn:Rho→Prop) (Jr:W→Prop):Prop:=match r with
 | .ok (.nx ρ)=>Jn ρ
 | .ok (.rt w)=>Jr w
 | _=>False
theorem ok_end {r:R Fl} {P:W→Prop} (h:Po r (fun _=>P .non) P):Ok (endB r) P:=by
 cases r with
 | ex _=>exact h.elim
 | stuck=>exact h.elim
 | ok f=>cases f with
  | nx ρ=>exact ⟨_,rfl,h⟩
  | rt w=>exact ⟨_,rfl,h⟩
  | bk _=>exact h.elim
  | ct _=>exact h.elim
theorem po_seq {r:R Fl} {n:Rho→R Fl} {Jn:Rho→Prop} {Jr:W→Prop} (h:Po r (fun ρ=>Po (n ρ) Jn Jr) Jr):Po (andThen r n) Jn Jr:=by
 cases r with
 | ex _=>exact h.elim
 | stuck=>exact h.elim
 | ok f=>cases f with
  | nx ρ=>exact h
  | rt w=>exact h
  | bk _=>exact h.elim
  | ct _=>exact h.elim
theorem po_nx {ρ:Rho} {Jn:Rho→Prop} {Jr:W→Prop}:Po (.ok (.nx ρ)) Jn Jr=Jn ρ:=rfl
theorem po_rt {w:W} {Jn:Rho→Prop} {Jr:W→Prop}:Po (.ok (.rt w)) Jn Jr=Jr w:=rfl
theorem po_if {b:Bool} {m n:Rho→R Fl} {ρ:Rho} {Jn:Rho→Prop} {Jr:W→Prop} (h1:b=true→Po (m ρ) Jn Jr) (h2:b=false→Po (n ρ) Jn Jr):Po (ifS (.ok b) m n ρ) Jn Jr:=by
 cases b with
 | true=>exact h1 rfl
 | false=>exact h2 rfl
theorem po_ifs {b:Bool} {m n:Rho→R Fl} {ρ:Rho} {k:Rho→R Fl} {Jn:Rho→Prop} {Jr:W→Prop} (h1:b=true→Po (andThen (m ρ) k) Jn Jr) (h2:b=false→Po (andThen (n ρ) k) Jn Jr):Po (andThen (ifS (.ok b) m n ρ) k) Jn Jr:=by
 cases b with
 | true=>exact h1 rfl
 | false=>exact h2 rfl
theorem Po.mono {r:R Fl} {Jn Jn':Rho→Prop} {Jr Jr':W→Prop} (h:Po r Jn Jr) (h1:∀ ρ,Jn ρ→Jn' ρ) (h2:∀ w,Jr w→Jr' w):Po r Jn' Jr':=by
 cases r with
 | ex _=>exact h
 | stuck=>exact h
 | ok f=>cases f with
  | nx ρ=>exact h1 ρ h
  | rt w=>exact h2 w h
  | bk _=>exact h
  | ct _=>exact h
theorem po_for_go {mg:W→Rho→Option Rho} {mb:Rho→R Fl} {Jr:W→Prop} (I:Nat→Rho→Prop):∀ (ws:List W) (k:Nat) (ρ:Rho),I k ρ →
  (∀ (i:Nat) (w:W) (ρ:Rho),ws[i]?=some w→I (k+i) ρ→∃ ρ1,mg w ρ=some ρ1∧Po (mb ρ1) (I (k+i+1)) Jr)→Po (mFor mg mb ws ρ) (I (k+ws.length)) Jr
 | [],k,ρ,h,_=>h
 | w::ws,k,ρ,h,st=>by
  obtain ⟨ρ1,e1,p⟩:=st 0 w ρ rfl h
  unfold mFor
  rw [e1]
  show Po (mb ρ1>>=_) _ _
  revert p
  cases mb ρ1 with
  | ex _=>exact fun p=>p.elim
  | stuck=>exact fun p=>p.elim
  | ok f=>cases f with
   | bk _=>exact fun p=>p.elim
   | ct _=>exact fun p=>p.elim
   | rt w=>exact fun p=>p
   | nx ρ2=>
    intro p
    have:=po_for_go (mg:=mg) (mb:=mb) I ws (k+1) ρ2 p fun i w ρ hw hp=>by
     have:=st (i+1) w ρ (by simpa using hw) (by rw [show k+(i+1)=k+1+i by omega]; exact hp)
     rw [show k+(i+1)+1=k+1+i+1 by omega] at this
     exact this
    rw [List.length_cons,show k+(ws.length+1)=k+1+ws.length by omega]
    exact this
theorem po_for {mg:W→Rho→Option Rho} {mb:Rho→R Fl} {ws:List W} {ρ:Rho} {Jn:Rho→Prop} {Jr:W→Prop} (I:Nat→Rho→Prop) (h0:I 0 ρ)
  (st:∀ (i:Nat) (w:W) (ρ:Rho),ws[i]?=some w→I i ρ→∃ ρ1,mg w ρ=some ρ1∧Po (mb ρ1) (I (i+1)) Jr) (hn:∀ ρ,I ws.length ρ→Jn ρ):Po (mFor mg mb ws ρ) Jn Jr:=by
 have:=po_for_go (mg:=mg) (mb:=mb) (Jr:=Jr) I ws 0 ρ h0 fun i w ρ hw hp=>by rw [Nat.zero_add] at hp ⊢; exact st i w ρ hw hp
 rw [Nat.zero_add] at this
 exact this.mono hn fun _ h=>h
theorem po_fors {mg:W→Rho→Option Rho} {mb n:Rho→R Fl} {ws:List W} {ρ:Rho} {Jn:Rho→Prop} {Jr:W→Prop} (I:Nat→Rho→Prop) (h0:I 0 ρ)
  (st:∀ (i:Nat) (w:W) (ρ:Rho),ws[i]?=some w→I i ρ→∃ ρ1,mg w ρ=some ρ1∧Po (mb ρ1) (I (i+1)) Jr) (hn:∀ ρ,I ws.length ρ→Po (n ρ) Jn Jr):Po (andThen (mFor mg mb ws ρ) n) Jn Jr:=po_seq (po_for I h0 st hn)
theorem po_while {c:Rho→R Bool} {b:Rho→R Fl} {Jn:Rho→Prop} {Jr:W→Prop} (I:Nat→Rho→Prop)
  (st:∀ m ρ,I m ρ→∃ t,c ρ=.ok t∧if t=true then Po (b ρ) (fun ρ'=>∃ m',m'<m∧I m' ρ') Jr else Jn ρ):∀ (m:Nat) (ρ:Rho),I m ρ→Po (mWhile c b ρ) Jn Jr:=by
 have key:∀ (m:Nat) (ρ:Rho),I m ρ→∃ r,iterW c b (m+1) ρ=some r∧Po r Jn Jr:=by
  intro m
  induction m using Nat.strongRecOn with
  | ind m ih=>
   intro ρ h
   obtain ⟨t,e,q⟩:=st m ρ h
   unfold iterW
   rw [e]
   cases t with
   | false=>rw [if_neg Bool.false_ne_true] at q; exact ⟨_,rfl,q⟩
   | true=>
    rw [if_pos rfl] at q
    dsimp only
    revert q
    cases b ρ with
    | ex _=>exact fun q=>q.elim
    | stuck=>exact fun q=>q.elim
    | ok f=>cases f with
     | bk _=>exact fun q=>q.elim
     | ct _=>exact fun q=>q.elim
     | rt w=>exact fun q=>⟨_,rfl,q⟩
     | nx ρ'=>
      intro ⟨m',hm,h'⟩
      obtain ⟨r,e',q'⟩:=ih m' hm ρ' h'
      exact ⟨r,iterW_more (m'+1) ρ' r e' m (by omega),q'⟩
 intro m ρ h
 obtain ⟨r,e,q⟩:=key m ρ h
 rw [mWhile_eq e]
 exact q
noncomputable def OkL (r:R (List W)) (P:List W→Prop):Prop:=∃ w,r=.ok w∧P w
theorem po_ret {r:R W} {Jn:Rho→Prop} {Jr:W→Prop} (h:Ok r Jr):Po (r>>=retK) Jn Jr:=by
 obtain ⟨w,rfl,q⟩:=h; exact q
theorem ok_bindL {r:R (List W)} {f:List W→R W} {P:W→Prop} (h:OkL r fun w=>Ok (f w) P):Ok (r>>=f) P:=by
 obtain ⟨w,rfl,q⟩:=h; exact q
theorem okL_1 {a:R W} {xs:List W} {P:List W→Prop} (h:Ok a fun x=>P (x::xs)):OkL (Rcons a (.ok xs)) P:=by
 obtain ⟨w,rfl,q⟩:=h; exact ⟨_,rfl,q⟩
theorem gMax_max (i j:Int):gMax i j=max i j:=by unfold gMax; omega
theorem gMin_min (i j:Int):gMin i j=min i j:=by unfold gMin; omega
noncomputable def oW:Option Int→W
 | none=>.non
 | some i=>.int i
theorem oW_n:oW none=.non:=rfl
theorem oW_s (i:Int):oW (some i)=.int i:=rfl
theorem noL_oW (o:Option Int):noL (oW o)=true:=by cases o <;> rfl
theorem chk_oW (o:Option Int):chk (oW o)=.ok (oW o):=chk_no (noL_oW o)
theorem noLs_map {α:Type} (f:α→W) (h:∀ a,noL (f a)=true) (as:List α):noLs (as.map f)=true:=by
 induction as with
 | nil=>rfl
 | cons a as ih=>rw [List.map_cons]; simp only [noLs,h,ih,Bool.and_self]
theorem noLs_oW (cs:List (Option Int)):noLs (cs.map oW)=true:=noLs_map oW noL_oW cs
theorem chks_O (c:Bool) (cs:List (Option Int)):chks c (cs.map oW)=.ok (.lst (cs.map oW)):=chks_no (noLs_oW cs)
theorem chkT_O (c:Bool) (cs:List (Option Int)):chkT c (cs.map oW)=.ok (.tup (cs.map oW)):=chkT_no (noLs_oW cs)
theorem isN_oW (o:Option Int):isN (oW o)=o.isNone:=by cases o <;> rfl
theorem slotF_oW (o:Option Int):slotF (oW o)=.val (oW o):=by cases o <;> rfl
theorem at_map {α:Type} (f:α→W) {as:List α} {d:α} {i:Int} (h:0≤i∧i<as.length):L2.atI (as.map f) i=some (f (as.getD i.toNat d)):=by
 unfold L2.atI
 rw [List.length_map,ixN_int h.1 h.2]
 show (as.map f)[i.toNat]?=_
 have hi:i.toNat<as.length:=by omega
 rw [List.getElem?_map,List.getD_eq_getElem?_getD]
 simp [hi]
theorem atO_c {cs:List (Option Int)} {i:Int} (h:0≤i∧i<cs.length):L2.atI (cs.map oW) i=some (oW (cs.getD i.toNat none)):=at_map oW h
theorem appO (cs:List (Option Int)) (o:Option Int):cs.map oW ++ [oW o]=(cs ++ [o]).map oW:=by rw [List.map_append]; rfl
theorem zipW_M2 {α β:Type} (f:α→W) (g:β→W) {a:List α} {b:List β} (h:b.length=a.length) (x:α) (y:β):(zipW [a.map f,b.map g]).map W.tup=(List.range a.length).map fun k=>W.tup [f (a.getD k x),g (b.getD k y)]:=by
 apply List.ext_getElem?
 intro i
 simp only [zipW,List.getElem?_map,List.getElem?_zipWith]
 by_cases hi:i<a.length
 ·have hb:i<b.length:=by omega
  simp [hi,hb]
 ·simp [hi]
theorem range_at {n i:Nat} {f:Nat→W} {w:W} (h:((List.range n).map f)[i]?=some w):i<n∧w=f i:=by
 rw [List.getElem?_map] at h
 cases q:(List.range n)[i]? with
 | none=>rw [q] at h; cases h
 | some k=>
  rw [q] at h
  obtain ⟨h1,h2⟩:=List.getElem?_eq_some_iff.mp q
  simp at h1 h2
  subst h2
  cases h
  exact ⟨h1,rfl⟩
theorem noL_tI (ns:List Int):noL (tI ns)=true:=noLs_ints ns
theorem noLs_S (ss:List (List Int)):noLs (ss.map tI)=true:=noLs_map tI noL_tI ss
theorem chks_S (c:Bool) (ss:List (List Int)):chks c (ss.map tI)=.ok (.lst (ss.map tI)):=chks_no (noLs_S ss)
theorem chkT_S (c:Bool) (ss:List (List Int)):chkT c (ss.map tI)=.ok (.tup (ss.map tI)):=chkT_no (noLs_S ss)
theorem atS_c {ss:List (List Int)} {i:Int} (h:0≤i∧i<ss.length):L2.atI (ss.map tI) i=some (tI (ss.getD i.toNat [])):=at_map tI h
theorem appW_S (ss:List (List Int)) (s:List Int):ss.map tI ++ [tI s]=(ss ++ [s]).map tI:=by rw [List.map_append]; rfl
noncomputable def cutL {α:Type} (xs:List α) (lo hi:Option Int):List α:=(xs.drop (HT.sIx xs.length 0 lo)).take (HT.sIx xs.length xs.length hi-HT.sIx xs.length 0 lo)
theorem cutW_map {α:Type} (f:α→W) (as:List α) (lo hi:Option Int):cutW (as.map f) lo hi=(cutL as lo hi).map f:=by
 unfold cutW cutL
 rw [List.length_map,← List.map_drop,← List.map_take]
theorem cutW_S (ss:List (List Int)) (lo hi:Option Int):cutW (ss.map tI) lo hi=(cutL ss lo hi).map tI:=cutW_map tI ss lo hi
theorem catW_S (ss ts:List (List Int)):ss.map tI++ts.map tI=(ss++ts).map tI:=by rw [List.map_append]
theorem catW_I (ss ts:List Int):ss.map W.int++ts.map W.int=(ss++ts).map W.int:=by rw [List.map_append]
theorem rngW_2 {lo hi:Int} (h:-1000000≤lo∧lo≤1000000 ∧ -1000000≤hi∧hi≤1000000):rngW lo hi=.ok ((List.range (hi-lo).toNat).map fun k=>W.int (lo+(k:Nat))):=by
 unfold rngW
 rw [if_pos h]
theorem eqv_refl:∀ w:W,PyData.eqv (pd w) (pd w)=true:=by
 intro w
 refine W.rec (motive_1:=fun w=>PyData.eqv (pd w) (pd w)=true) (motive_2:=fun ws=>PyData.eqvAll (pds ws) (pds ws)=true) ?_ ?_ ?_ ?_ ?_ ?_ ?_ ?_ ?_ ?_ ?_ ?_ w
 ·simp [pd,PyData.eqv]
 ·intro b; simp [pd,PyData.eqv]
 ·intro b; simp [pd,PyData.eqv]
 ·intro b; simp [pd,PyData.eqv]
 ·intro b; simp [pd,PyData.eqv]
 ·intro ws h; simpa [pd,PyData.eqv] using h
 ·intro ws h; simpa [pd,PyData.eqv] using h
 ·intro ws h; simpa [pd,PyData.eqv] using h
 ·intro b c; simp [pd,PyData.eqv]
 ·intro b; simp [pd,PyData.eqv]
 ·simp [pds,PyData.eqvAll]
 ·intro w ws h1 h2; simp [pds,PyData.eqvAll,h1,h2]
theorem eqW_self (w:W):eqW w w=true:=eqv_refl w
theorem shps_map {α:Type} (f:α→W) (n:Nat) (h:∀ a,shp n (f a)=true) (as:List α):shps n (as.map f)=true:=by
 induction as with
 | nil=>rfl
 | cons a as ih=>rw [List.map_cons]; simp only [shps,h,ih,Bool.and_self]
theorem shp_int (n:Nat) (i:Int):shp n (.int i)=true:=by cases n <;> rfl
theorem shp_non (n:Nat):shp n .non=true:=by cases n <;> rfl
theorem shp_bl (n:Nat) (b:Bool):shp n (.bl b)=true:=by cases n <;> rfl
theorem shp_tI (n:Nat) (ns:List Int):shp (n+1) (tI ns)=true:=shps_map W.int n (shp_int n) ns
theorem shp_lI (n:Nat) (ns:List Int):shp (n+1) (lI ns)=true:=shps_map W.int n (shp_int n) ns
theorem shp_lS (n:Nat) (ss:List (List Int)):shp (n+2) (.lst (ss.map tI))=true:=shps_map tI (n+1) (shp_tI n) ss
theorem fEq_self {neg:Bool} {w:W} (h:shp 8 w=true):fEq neg w w=.ok (.bl (!neg)):=by
 unfold fEq
 rw [h,eqW_self]
 cases neg <;> rfl
theorem eqI:∀ (a b:List Int),PyData.eqvAll (pds (a.map W.int)) (pds (b.map W.int))=decide (a=b)
 | [],[]=>by simp [pds,PyData.eqvAll]
 | [],_::_=>by simp [pds,PyData.eqvAll]
 | _::_,[]=>by simp [pds,PyData.eqvAll]
 | x::a,y::b=>by
  simp only [List.map_cons,pds,pd,PyData.eqvAll,PyData.eqv,eqI a b]
  by_cases h:x=y <;> by_cases h':a=b <;> simp [h,h']
theorem fEq_tI (neg:Bool) (a b:List Int):fEq neg (tI a) (tI b)=.ok (.bl (if neg then !decide (a=b) else decide (a=b))):=by
 unfold fEq
 rw [shp_tI,shp_tI]
 have:eqW (tI a) (tI b)=decide (a=b):=eqI a b
 rw [this]; rfl
theorem fEq_lI (neg:Bool) (a b:List Int):fEq neg (lI a) (lI b)=.ok (.bl (if neg then !decide (a=b) else decide (a=b))):=by
 unfold fEq
 rw [shp_lI,shp_lI]
 have:eqW (lI a) (lI b)=decide (a=b):=eqI a b
 rw [this]; rfl
theorem eqSS:∀ (a b:List (List Int)),PyData.eqvAll (pds (a.map tI)) (pds (b.map tI))=decide (a=b)
 | [],[]=>by simp [pds,PyData.eqvAll]
 | [],_::_=>by simp [pds,PyData.eqvAll]
 | _::_,[]=>by simp [pds,PyData.eqvAll]
 | x::a,y::b=>by
  simp only [List.map_cons,pds,pd,PyData.eqvAll,PyData.eqv,eqSS a b,eqI]
  by_cases h:x=y <;> by_cases h':a=b <;> simp [h,h']
theorem fEq_lS (neg:Bool) (a b:List (List Int)):fEq neg (.lst (a.map tI)) (.lst (b.map tI))=.ok (.bl (if neg then !decide (a=b) else decide (a=b))):=by
 unfold fEq
 rw [shp_lS,shp_lS]
 have:eqW (.lst (a.map tI)) (.lst (b.map tI))=decide (a=b):=eqSS a b
 rw [this]; rfl
theorem fEq_ii (neg:Bool) (i j:Int):fEq neg (.int i) (.int j)=.ok (.bl (if neg then !decide (i=j) else decide (i=j))):=by
 unfold fEq
 rw [shp_int,shp_int]
 have:eqW (.int i) (.int j)=decide (i=j):=by
  by_cases h:i=j <;> simp [eqW,pd,PyData.eqv,h]
 rw [this]; rfl
theorem fEq_bb (neg:Bool) (i j:Bool):fEq neg (.bl i) (.bl j)=.ok (.bl (if neg then !decide (i=j) else decide (i=j))):=by
 unfold fEq
 rw [shp_bl,shp_bl]
 have:eqW (.bl i) (.bl j)=decide (i=j):=by cases i <;> cases j <;> rfl
 rw [this]; rfl
theorem fEq_ni (neg:Bool) (j:Int):fEq neg .non (.int j)=.ok (.bl neg):=by cases neg <;> rfl
theorem fEq_in (neg:Bool) (j:Int):fEq neg (.int j) .non=.ok (.bl neg):=by cases neg <;> rfl
theorem fEq_nn (neg:Bool):fEq neg .non .non=.ok (.bl (!neg)):=by cases neg <;> rfl
theorem fBools_m (g:List Bool→Bool) (bs:List Bool):fBools g [.lst (bs.map W.bl)]=.ok (.bl (g bs)):=by
 show (toR (blsW (bs.map W.bl))>>=_)=_
 rw [bls_map]; rfl
theorem fInts_m (g:List Int→Int) (ns:List Int):fInts g [.lst (ns.map W.int)]=.ok (.int (g ns)):=by
 show (toR (intsW (ns.map W.int))>>=_)=_
 rw [ints_map]; rfl
theorem fInt_i (i:Int):fInt [.int i]=.ok (.int i):=rfl
theorem fInt_b (b:Bool):fInt [.bl b]=.ok (.int (if b then 1 else 0)):=rfl
theorem fAbs_i (i:Int):fAbs [.int i]=.ok (.int (if i<0 then -i else i)):=rfl
noncomputable def extS (o:Option Sl) (r:R W) (c:Bool) (i:Nat) (ρ:Rho):R Fl:=match o with
 | some (.own ws)=>r>>=fun w=>(match w with
  | .lst us=>if ws.length+us.length≤1000 then (if c||noLs us then .ok (.nx (ρ.set i (.own (ws++us)))) else .stuck) else .stuck
  | _=>.stuck)
 | _=>.stuck
theorem mExt_ap (i:Nat) (c:Bool) (m:Rho→R W) (ρ:Rho):mExt i c m ρ=extS (ρ[i]?) (m ρ) c i ρ:=rfl
theorem extS_c {ws us:List W} {c:Bool} {i:Nat} {ρ:Rho} (h:ws.length+us.length≤1000):extS (some (.own ws)) (.ok (.lst us)) c i ρ=if c||noLs us then .ok (.nx (ρ.set i (.own (ws++us)))) else .stuck:=by
 show (if ws.length+us.length≤1000 then _ else _)=_
 rw [if_pos h]
noncomputable def revS (o:Option Sl) (i:Nat) (ρ:Rho):R Fl:=match o with
 | some (.own ws)=>.ok (.nx (ρ.set i (.own ws.reverse)))
 | _=>.stuck
theorem mRev_ap (i:Nat) (ρ:Rho):mRev i ρ=revS (ρ[i]?) i ρ:=rfl
theorem revS_ok (ws:List W) (i:Nat) (ρ:Rho):revS (some (.own ws)) i ρ=.ok (.nx (ρ.set i (.own ws.reverse))):=rfl
theorem po_cut {r:R Fl} {n:Rho→R Fl} {Jn:Rho→Prop} {Jr:W→Prop} (J:Rho→Prop) (h1:Po r J Jr) (h2:∀ ρ,J ρ→Po (n ρ) Jn Jr):Po (andThen r n) Jn Jr:=po_seq (h1.mono h2 fun _ h=>h)
theorem gAdd_ap (i j:Int):gAdd i j=.int (i+j):=rfl
theorem gSub_ap (i j:Int):TP.gSub i j=.int (i-j):=rfl
theorem gLt_ap (i j:Int):gLt i j=.bl (decide (i<j)):=rfl
theorem gLe_ap (i j:Int):gLe i j=.bl (decide (i≤j)):=rfl
theorem gGt_ap (i j:Int):gGt i j=.bl (decide (j<i)):=rfl
theorem gGe_ap (i j:Int):gGe i j=.bl (decide (j≤i)):=rfl
theorem gNeg_ap (i:Int):gNeg i=.int (-i):=rfl
theorem gAdd__ap (i j:Int):gAdd_ i j=i+j:=rfl
theorem gSub__ap (i j:Int):gSub_ i j=i-j:=rfl
theorem fStr_i {i:Int} (h:0≤i∧i<1000):fStr [.int i]=.ok (.str (toString i)):=by
 show (if i.natAbs.log2<1920 then _ else _)=_
 rw [if_pos]
 refine Nat.lt_of_le_of_lt (Nat.log2_le_self _) ?_
 omega
theorem fIsB_w (neg:Bool) (u:W) (b:Bool):fIsB neg u (.bl b)=.ok (.bl (if neg then !isBW u b else isBW u b)):=rfl
theorem isBW_i (i:Int) (b:Bool):isBW (.int i) b=false:=rfl
theorem isBW_n (b:Bool):isBW .non b=false:=rfl
theorem isBW_s (x:Str) (b:Bool):isBW (.str x) b=false:=rfl
theorem isBW_t (x:List W) (b:Bool):isBW (.tup x) b=false:=rfl
theorem isBW_l (x:List W) (b:Bool):isBW (.lst x) b=false:=rfl
theorem isBW_b (a b:Bool):isBW (.bl a) b=(a == b):=rfl
noncomputable def Rcu (c:Bool) (r:R (List W)) (f:List W→R W) (i:Nat) (ρ:Rho):R Fl:=if c then (r>>=fun ws=>f ws>>=fun w=>.ok (.nx (ρ.set i (.par w)))) else .stuck
theorem sCU_ap (i:Nat) (f:List W→R W) (ma:Rho→R (List W)) (ρ:Rho):sCU i f ma ρ=Rcu (noOwn ρ) (ma ρ) f i ρ:=rfl
noncomputable def Rcu2 (r:R W) (i:Nat) (ρ:Rho):R Fl:=r>>=fun w=>.ok (.nx (ρ.set i (.par w)))
theorem Rcu_t (ws:List W) (f:List W→R W) (i:Nat) (ρ:Rho):Rcu true (.ok ws) f i ρ=Rcu2 (f ws) i ρ:=rfl
theorem Rcu2_ok (w:W) (i:Nat) (ρ:Rho):Rcu2 (.ok w) i ρ=.ok (.nx (ρ.set i (.par w))):=rfl
theorem noOwn_nil:noOwn []=true:=rfl
theorem noOwn_v (w:W) (ρ:Rho):noOwn (.val w::ρ)=noOwn ρ:=rfl
theorem noOwn_p (w:W) (ρ:Rho):noOwn (.par w::ρ)=noOwn ρ:=rfl
theorem noOwn_u (ρ:Rho):noOwn (.un::ρ)=noOwn ρ:=rfl
theorem fBest_t {g:List Int→Int} {ns:List Int} (h:0<ns.length):fBest g [tI ns]=.ok (.int (g ns)):=by
 show (toR (intsW (ns.map W.int))>>=_)=_
 rw [ints_map]
 show (if 0<ns.length then _ else _)=_
 rw [if_pos h]
theorem fBest_l {g:List Int→Int} {ns:List Int} (h:0<ns.length):fBest g [lI ns]=.ok (.int (g ns)):=by
 show (toR (intsW (ns.map W.int))>>=_)=_
 rw [ints_map]
 show (if 0<ns.length then _ else _)=_
 rw [if_pos h]
theorem revW_l (ws:List W):revW [.lst ws]=.ok ws.reverse:=rfl
noncomputable def rp0:=And.intro (@gMax_max) (And.intro (@gMin_min) (And.intro (@po_nx) (And.intro (@po_rt) (And.intro (@mul_L) (And.intro (@mul_R) (And.intro (@mod_ii) (And.intro (@div_ii) (And.intro (@pow_ii) (And.intro (@appS_c) (And.intro (@mkTup_c) (And.intro (@mkLst_c) (And.intro (@fCat_c) (And.intro (@fRep_1) (And.intro (@atW_c) (And.intro (@ixN_c) (And.intro (@rngW_c) (And.intro (@cutW_I) (And.intro (@setW_I) (And.intro (@appW_I) (And.intro (@repW_I) (And.intro (@mSeq_ap) (And.intro (@andThen_nx) (And.intro (@andThen_rt) (@andThen_bk))))))))))))))))))))))))
noncomputable def rp1:=And.intro (@andThen_ct) (And.intro (@mC_ap) (And.intro (@b1_ap) (And.intro (@b2_ap) (And.intro (@R2b_ok) (And.intro (@bA_ap) (And.intro (@bI_ap) (And.intro (@bS_ap) (And.intro (@aN_ap) (And.intro (@aC_ap) (And.intro (@Rcons_ok) (And.intro (@bChk_ap) (And.intro (@bTest_ap) (And.intro (@tAnd_ap) (And.intro (@tOr_ap) (And.intro (@tNot_ap) (And.intro (@rAnd_ok) (And.intro (@rAnd_ff) (And.intro (@rAnd_tt) (And.intro (@rOr_ok) (And.intro (@rOr_tt) (And.intro (@rOr_ff) (And.intro (@rNot_ok) (And.intro (@vAnd_ap) (@vOr_ap))))))))))))))))))))))))
noncomputable def rp2:=And.intro (@vNot_ap) (And.intro (@rAndV_ok) (And.intro (@rAndV_ff) (And.intro (@rAndV_tt) (And.intro (@rOrV_ok) (And.intro (@rOrV_tt) (And.intro (@rOrV_ff) (And.intro (@rNotV_ok) (And.intro (@vIf_ap) (And.intro (@rIfW_tt) (And.intro (@rIfW_ff) (And.intro (@rIfW_ok) (And.intro (@vChain_ap) (And.intro (@Rchain_ii) (And.intro (@vTup_ap) (And.intro (@vLst_ap) (And.intro (@pN_ap) (And.intro (@pS_ap) (And.intro (@partW_int) (And.intro (@vSl_ap) (And.intro (@Rsl_lst) (And.intro (@Rsl_scr) (And.intro (@vComp_ap) (And.intro (@Rcomp_ok) (@sNx_ap))))))))))))))))))))))))
noncomputable def rp3:=And.intro (@sBk_ap) (And.intro (@sCt_ap) (And.intro (@sDrop_ap) (And.intro (@Rdrop_ok) (And.intro (@sRet_ap) (And.intro (@retK_ap) (And.intro (@sRetN_ap) (And.intro (@sV_ap) (And.intro (@sU_ap) (And.intro (@sF_ap) (And.intro (@Rset_ok) (And.intro (@slotF_lst) (And.intro (@slotF_tup) (And.intro (@slotF_int) (And.intro (@slotF_bl) (And.intro (@slotF_non) (And.intro (@slotF_str) (And.intro (@sG_ap) (And.intro (@Rasg_ok) (And.intro (@toNx_some) (And.intro (@sFor_ap) (And.intro (@Rfor_ok) (And.intro (@sFrz_ap) (And.intro (@frz_ap) (@frzS_own))))))))))))))))))))))))
noncomputable def rp4:=And.intro (@frzS_val) (And.intro (@frzS_par) (And.intro (@frzS_un) (And.intro (@mVar_ap) (And.intro (@rdS_vF) (And.intro (@rdS_vV) (And.intro (@rdS_vU) (And.intro (@rdS_vC) (And.intro (@rdS_vB) (And.intro (@rdS_pF) (And.intro (@rdS_pV) (And.intro (@rdS_pU) (And.intro (@rdS_pC) (And.intro (@rdS_pB) (And.intro (@rdS_oC) (And.intro (@rdS_oB) (And.intro (@mRetVar_ap) (And.intro (@retS_own) (And.intro (@retS_val) (And.intro (@retS_par) (And.intro (@mApp_ap) (And.intro (@mSet_ap) (And.intro (@setS_ok) (And.intro (@setJ_some) (@mAug_ap))))))))))))))))))))))))
noncomputable def rp5:=And.intro (@augS_ok) (And.intro (@mIf_ap) (And.intro (@ifS_tt) (And.intro (@ifS_ff) ((((((And.intro (@endB_rt) (And.intro (@endB_nx) (And.intro (@fI0_ii) (And.intro (@fU_i) (And.intro (@fIx_l) (And.intro (@fIx_t) (And.intro (@fIx_s) (And.intro (@toR_some) (And.intro (@toB_bl) (And.intro (@fLen_l) (And.intro (@fLen_t) (And.intro (@fLen_s) (And.intro (@fList_l) (And.intro (@fList_t) (And.intro (@fTup_l) (@fTup_t))))))))))))))))))))))))
noncomputable def rp6:=And.intro (@chks_t) (And.intro (@chkT_t) (And.intro (@chks_I) (And.intro (@chkT_I) (And.intro (@chk_int) (And.intro (@chk_bl) (And.intro (@chk_str) (And.intro (@chk_non) (And.intro (@chk_tI) (And.intro (@f2_ii) (And.intro (@seqW_l) (And.intro (@seqW_t) (And.intro (@seqW_s) (And.intro (@rng1_i) (And.intro (@rng2_i) (And.intro (@gN_U) (And.intro (@gN_V) (And.intro (@gT_t) (And.intro (@gsCons_c) (And.intro (@gsNil_n) (And.intro (@fIsi_ap) (And.intro (@isi_nt) (And.intro (@isi_nl) (And.intro (@isi_lt) (@isi_tl))))))))))))))))))))))))
noncomputable def rp7:=And.intro (@fIsN_n) (And.intro (@noLs_ints) (And.intro (@fEqS_ii) (And.intro (@fEqS_bb) (And.intro (@fEqS_ss) (And.intro (@fEqS_nn) (And.intro (@fEqS_ni) (@fEqS_in)))))))
noncomputable def rp8:=And.intro (@oW_n) (And.intro (@oW_s) (And.intro (@chk_oW) (And.intro (@noLs_oW) (And.intro (@chks_O) (And.intro (@chkT_O) (And.intro (@isN_oW) (And.intro (@slotF_oW) (And.intro (@atO_c) (@appO)))))))))
noncomputable def rp9:=And.intro (@noLs_S) (And.intro (@chks_S) (And.intro (@chkT_S) (And.intro (@atS_c) (And.intro (@appW_S) (And.intro (@cutW_S) (And.intro (@catW_S) (And.intro (@catW_I) (And.intro (@rngW_2) (And.intro (@fEq_tI) (And.intro (@fEq_lI) (And.intro (@fEq_lS) (And.intro (@fEq_ii) (And.intro (@fEq_bb) (And.intro (@fEq_ni) (And.intro (@fEq_in) (And.intro (@fEq_nn) ((And.intro (@fBools_m) (And.intro (@fInts_m) (And.intro (@fInt_i) (And.intro (@fInt_b) (And.intro (@fAbs_i) (And.intro (@mExt_ap) (And.intro (@extS_c) (And.intro (@mRev_ap) (@revS_ok))))))))))))))))))))))))))
noncomputable def rp10:=And.intro (@gAdd_ap) (And.intro (@gSub_ap) (And.intro (@gLt_ap) (And.intro (@gLe_ap) (And.intro (@gGt_ap) (And.intro (@gGe_ap) (And.intro (@gNeg_ap) (And.intro (@gAdd__ap) (@gSub__ap))))))))
noncomputable def rp11:=And.intro (@fStr_i) (And.intro (@fIsB_w) (And.intro (@isBW_i) (And.intro (@isBW_n) (And.intro (@isBW_s) (And.intro (@isBW_t) (And.intro (@isBW_l) (@isBW_b)))))))
noncomputable def rp12:=And.intro (@sCU_ap) (And.intro (@Rcu_t) (And.intro (@Rcu2_ok) (And.intro (@noOwn_nil) (And.intro (@noOwn_v) (And.intro (@noOwn_p) (@noOwn_u))))))
noncomputable def rp13:=And.intro (@fBest_t) (And.intro (@fBest_l) (@revW_l))
end TP
set_option Elab.async false
set_option linter.all false
set_option maxRecDepth 100000
set_option maxHeartbeats 4000000
open PySem L2 TP
namespace K43
noncomputable def m_change:Rho→R Fl:=
 (sRet (bA (fTup true) (aC (vComp 3 (bI zipR (aC (b2 fIx (mVar .B 0) (mC (.int 0))) (aC (b2 fIx (mVar .B 0) (mC (.int 1))) aN))) (gT 2 (gsCons (gN .U 1) (gsCons (gN .U 2) gsNil))) yes (b2 (fI0 gSub) (mVar .B 2) (mVar .B 1))) aN)))
noncomputable abbrev f_change:List W→R W:=runB 1 1 m_change
noncomputable def m_source:Rho→R Fl:=
 (sRet (bA (fTup true) (aC (vComp 5 (bI zipR (aC (mVar .B 0) (aC (b2 fIx (mVar .B 1) (mC (.int 0))) (aC (b2 fIx (mVar .B 1) (mC (.int 1))) aN)))) (gT 3 (gsCons (gN .U 2) (gsCons (gN .U 3) (gsCons (gN .U 4) gsNil)))) yes (bA (f2 gMax) (aC (mVar .B 3) (aC (b2 (fI0 gAdd) (b2 (fI0 gSub) (mVar .B 2) (mVar .B 4)) (mVar .B 3)) aN)))) aN)))
noncomputable abbrev f_source:List W→R W:=runB 2 2 m_source
noncomputable def m_least_over:Rho→R Fl:=
 (sRet (bA (fTup true) (aC (vComp 4 (bI zipR (aC (mVar .B 0) (aC (mVar .B 1) aN))) (gT 2 (gsCons (gN .U 2) (gsCons (gN .U 3) gsNil))) yes (bA (f2 gMax) (aC (mVar .B 2) (aC (mVar .B 3) aN)))) aN)))
noncomputable abbrev f_least_over:List W→R W:=runB 2 2 m_least_over
noncomputable def m_under:Rho→R Fl:=
 (mSeq (sFor (bI zipR (aC (mVar .U 0) (aC (mVar .U 1) aN))) (gT 2 (gsCons (gN .U 2) (gsCons (gN .U 3) gsNil)))
   (mIf (tAnd' (bTest (b2 (fIsN true) (mVar .B 3) (mC .non))) (tOr' (bTest (b2 (fIsN false) (mVar .B 2) (mC .non))) (bTest (b2 (fI0 gGt) (mVar .B 2) (mVar .B 3))))) (sRet (mC (.bl false))) sNx))
  (sRet (mC (.bl true))))
noncomputable abbrev f_under:List W→R W:=runB 2 4 m_under
noncomputable def m_under_any:Rho→R Fl:=
 (mSeq (sFor (bS (mVar .U 1)) (gN .U 2)
   (mIf (bTest (bA f_under (aC (mVar .B 0) (aC (mVar .B 2) aN)))) (sRet (mC (.bl true))) sNx))
  (sRet (mC (.bl false))))
noncomputable abbrev f_under_any:List W→R W:=runB 2 3 m_under_any
noncomputable def m_cap_able:Rho→R Fl:=
 (sRet (bA f_under (aC (b2 fIx (mVar .B 1) (mC (.int 0))) (aC (mVar .B 0) aN))))
noncomputable abbrev f_cap_able:List W→R W:=runB 2 2 m_cap_able
noncomputable def m_cap_after:Rho→R Fl:=
 (mSeq (mIf (tNot' (bTest (bA f_cap_able (aC (mVar .B 0) (aC (mVar .B 1) aN))))) sNever sNx)
  (sRet (bA (fTup true) (aC (vComp 4 (bI zipR (aC (mVar .B 0) (aC (bA f_change (aC (mVar .B 1) aN)) aN))) (gT 2 (gsCons (gN .U 2) (gsCons (gN .U 3) gsNil))) yes (vIf (bTest (b2 (fIsN false) (mVar .B 2) (mC .non))) (mC .non) (b2 (fI0 gAdd) (mVar .B 2) (mVar .B 3)))) aN))))
noncomputable abbrev f_cap_after:List W→R W:=runB 2 2 m_cap_after
noncomputable def m_raised:Rho→R Fl:=
 (mSeq (mIf (tNot' (bTest (bA f_under (aC (mVar .B 1) (aC (mVar .B 0) aN))))) (mRetVar .F 0) sNx)
  (sRet (bA (fTup true) (aC (vComp 4 (bI zipR (aC (mVar .B 0) (aC (mVar .B 1) aN))) (gT 2 (gsCons (gN .U 2) (gsCons (gN .U 3) gsNil))) yes (vIf (bTest (b2 (fEq false) (mVar .B 2) (mVar .B 3))) (mVar .V 2) (mC .non))) aN))))
noncomputable abbrev f_raised:List W→R W:=runB 2 2 m_raised
noncomputable def m_way_back:Rho→R Fl:=
 (mSeq (sF 2 (vLst aN))
  (mSeq (sV 3 (mVar .V 1))
  (mSeq (mWhile (bTest (b2 (fIsN true) (mVar .B 3) (mC .non))) (mSeq (mApp 2 (mVar .V 3))
   (sU 3 (b2 fIx (b2 fIx (mVar .B 0) (mVar .B 3)) (mC (.int 1))))))
  (mRetVar .F 2))))
noncomputable abbrev f_way_back:List W→R W:=runB 2 4 m_way_back
noncomputable def m_grow (p:Addr):Rho→R Fl:=
 (mSeq (nb (sU 4 (b2 fIx (b2 fIx (mVar .B 0) (mC (.int 1))) (mVar .B 3))))
  (mSeq (mIf (tNot' (bTest (bA f_cap_able (aC (b2 fIx (b2 fIx (mVar .B 1) (mVar .B 2)) (mC (.int 0))) (aC (mVar .B 4) aN))))) sBkI (nb sNx))
  (mSeq (nb (sF 5 (bA f_cap_after (aC (b2 fIx (b2 fIx (mVar .B 1) (mVar .B 2)) (mC (.int 0))) (aC (mVar .B 4) aN)))))
  (mSeq (nb (sFor (bS (bA f_way_back (aC (mVar .B 1) (aC (mVar .B 2) aN)))) (gN .U 6)
   (sF 5 (bA f_raised (aC (mVar .B 5) (aC (b2 fIx (b2 fIx (mVar .B 1) (mVar .B 6)) (mC (.int 0))) aN))))))
  (mIf (tNot' (bTest (bA f_under_any (aC (mVar .B 5) (aC (vComp 8 (bS (mVar .B 1)) (gN .U 7) yes (bChk (b2 fIx (mVar .B 7) (mC (.int 0))))) aN))))) (mAppI p 1 (vTup (aC (mVar .V 5) (aC (mVar .V 2) (aC (mVar .V 3) aN))))) (nb sNx))))))
noncomputable abbrev f_grow:W→List W→List W→R (List W):=runIOA 4 7 m_grow
noncomputable def m_growth:Rho→R Fl:=
 (mSeq (sF 2 (vLst (aC (vTup (aC (bChk (b2 fIx (mVar .B 0) (mC (.int 0)))) (aC (mC .non) (aC (mC .non) aN)))) aN)))
  (mSeq (sV 3 (mC (.int 0)))
  (mSeq (mWhile (bTest (b2 (fI0 gLt) (mVar .B 3) (bA fLen (aC (mVar .B 2) aN)))) (mSeq (sFor (bI rng1 (aC (bA fLen (aC (b2 fIx (mVar .B 0) (mC (.int 1))) aN)) aN)) (gN .U 4)
    (mIO 2 f_grow (mVar .B 0) (aC (mVar .B 3) (aC (mVar .B 4) aN))))
   (mSeq (mIf (bTest (b2 (fI0 gGt) (bA fLen (aC (mVar .B 2) aN)) (mVar .B 1))) (sRet (mC .non)) sNx)
   (mAug 3 gAdd_ (mC (.int 1))))))
  (mRetVar .F 2))))
noncomputable abbrev f_growth:List W→R W:=runB 2 5 m_growth
noncomputable def m_noughts:Rho→R Fl:=
 (sRet (b2 fRepT (vTup (aC (mC (.int 0)) aN)) (bA fLen (aC (b2 fIx (mVar .B 0) (mC (.int 0))) aN))))
noncomputable abbrev f_noughts:List W→R W:=runB 1 1 m_noughts
noncomputable def m_hurdle:Rho→R Fl:=
 (mSeq (sF 2 (bA f_noughts (aC (mVar .B 0) aN)))
  (mSeq (sFor (bI revW (aC (mVar .U 1) aN)) (gN .U 3)
   (sF 2 (bA f_source (aC (mVar .B 2) (aC (b2 fIx (b2 fIx (mVar .B 0) (mC (.int 1))) (mVar .B 3)) aN)))))
  (mRetVar .F 2)))
noncomputable abbrev f_hurdle:List W→R W:=runB 2 4 m_hurdle
noncomputable def m_shifted:Rho→R Fl:=
 (sRet (bA (fTup true) (aC (vComp 5 (bI zipR (aC (mVar .B 0) (aC (mVar .B 1) aN))) (gT 2 (gsCons (gN .U 3) (gsCons (gN .U 4) gsNil))) yes (b2 (fI0 gAdd) (mVar .B 3) (b2 (fI CMul gMul) (mVar .B 2) (mVar .B 4)))) aN)))
noncomputable abbrev f_shifted:List W→R W:=runB 3 3 m_shifted
noncomputable def m_sum_of:Rho→R Fl:=
 (mSeq (sF 2 (bA f_noughts (aC (mVar .B 0) aN)))
  (mSeq (sFor (bS (mVar .U 1)) (gN .U 3)
   (sF 2 (bA f_shifted (aC (mVar .B 2) (aC (bA f_change (aC (b2 fIx (b2 fIx (mVar .B 0) (mC (.int 1))) (mVar .B 3)) aN)) (aC (mC (.int 1)) aN))))))
  (mRetVar .F 2)))
noncomputable abbrev f_sum_of:List W→R W:=runB 2 4 m_sum_of
noncomputable def m_way:Rho→R Fl:=
 (sRet (bA fLrev (aC (bA f_way_back (aC (mVar .B 0) (aC (mVar .B 1) aN))) aN)))
noncomputable abbrev f_way:List W→R W:=runB 2 2 m_way
noncomputable def m_row_between:Rho→R Fl:=
 (mSeq (sF 3 (bA f_way (aC (mVar .B 0) (aC (mVar .B 2) aN))))
  (sRet (vComp 5 (bS (vSl true (mVar .C 3) (pS (b2 (fI0 gAdd) (mIdx (mVar .B 3) (mVar .B 1)) (mC (.int 1)))) pN)) (gN .U 4) yes (bChk (b2 fIx (b2 fIx (mVar .B 0) (mVar .B 4)) (mC (.int 2)))))))
noncomputable abbrev f_row_between:List W→R W:=runB 3 4 m_row_between
noncomputable def m_unraised:Rho→R Fl:=
 (mSeq (sU 3 (b2 fIx (mVar .B 1) (mVar .B 2)))
  (sRet (bA f_cap_after (aC (b2 fIx (b2 fIx (mVar .B 1) (b2 fIx (mVar .B 3) (mC (.int 1)))) (mC (.int 0))) (aC (b2 fIx (b2 fIx (mVar .B 0) (mC (.int 1))) (b2 fIx (mVar .B 3) (mC (.int 2)))) aN)))))
noncomputable abbrev f_unraised:List W→R W:=runB 3 4 m_unraised
noncomputable def m_lifts_of:Rho→R Fl:=
 (mSeq (mIf (bTest (b2 (fEqS false) (mVar .B 2) (mC (.int 0)))) (sRet (vLst aN)) sNx)
  (mSeq (sF 3 (vLst aN))
  (mSeq (sF 4 (bA f_unraised (aC (mVar .B 0) (aC (mVar .B 1) (aC (mVar .B 2) aN)))))
  (mSeq (sFor (bS (vSl true (bA f_way_back (aC (mVar .B 1) (aC (mVar .B 2) aN))) (pS (mC (.int 1))) pN)) (gN .U 5)
   (mSeq (sF 6 (bA f_raised (aC (mVar .B 4) (aC (b2 fIx (b2 fIx (mVar .B 1) (mVar .B 5)) (mC (.int 0))) aN))))
   (mSeq (sF 7 (bA (fTup true) (aC (vComp 9 (bI rng1 (aC (bA fLen (aC (mVar .B 4) aN)) aN)) (gN .U 8) (bTest (b2 (fEq true) (b2 fIx (mVar .B 6) (mVar .B 8)) (b2 fIx (mVar .B 4) (mVar .B 8)))) (mVar .V 8)) aN)))
   (mSeq (mIf (bTest (b2 (fI0 gGt) (bA fLen (aC (mVar .B 7) aN)) (mC (.int 0)))) (mApp 3 (vTup (aC (mVar .V 5) (aC (mVar .V 7) aN)))) sNx)
   (sFrz 6 (sV 4 (mVar .V 6)))))))
  (mRetVar .F 3)))))
noncomputable abbrev f_lifts_of:List W→R W:=runB 3 8 m_lifts_of
noncomputable def m_wanted_ahead:Rho→R Fl:=
 (mSeq (sF 4 (bA f_hurdle (aC (mVar .B 0) (aC (mVar .B 1) aN))))
  (mSeq (sF 5 (bA f_sum_of (aC (mVar .B 0) (aC (mVar .B 1) aN))))
  (mSeq (sF 6 (bA f_least_over (aC (mVar .B 4) (aC (bA f_shifted (aC (mVar .B 4) (aC (mVar .B 5) (aC (b2 (fI0 gSub) (mC (.int 1)) (mVar .B 2)) aN)))) aN))))
  (sRet (bA f_least_over (aC (mVar .B 6) (aC (bA f_shifted (aC (mVar .B 3) (aC (mVar .B 5) (aC (b1 (fU gNeg) (mVar .B 2)) aN)))) aN)))))))
noncomputable abbrev f_wanted_ahead:List W→R W:=runB 4 7 m_wanted_ahead
noncomputable def m_times_for:Rho→R Fl:=
 (sRet (bA (fBest maxL) (aC (b2 (fCat true) (vLst (aC (mC (.int 0)) aN)) (vComp 5 (bS (mVar .B 2)) (gN .U 4) yes (b1 (fU gNeg) (b2 (fI CDivL gDiv) (b2 (fI0 gSub) (b2 fIx (mVar .B 0) (mVar .B 4)) (b2 fIx (mVar .B 3) (mVar .B 4))) (b2 fIx (mVar .B 1) (mVar .B 4)))))) aN)))
noncomputable abbrev f_times_for:List W→R W:=runB 4 4 m_times_for
noncomputable def m_climb:Rho→R Fl:=
 (mSeq (sF 4 (bA (fTup true) (aC (vComp 13 (bS (b2 fIx (b2 fIx (mVar .B 1) (mVar .B 2)) (mC (.int 0)))) (gN .U 12) yes (vIf (bTest (b2 (fIsN false) (mVar .B 12) (mC .non))) (mVar .V 3) (mVar .V 12))) aN)))
  (mSeq (sF 5 (vLst aN))
  (mSeq (sFor (bS (vSl true (bA f_way_back (aC (mVar .B 1) (aC (mVar .B 2) aN))) pN (pS (b1 (fU gNeg) (mC (.int 1)))))) (gN .U 6)
   (mSeq (sF 7 (bA f_unraised (aC (mVar .B 0) (aC (mVar .B 1) (aC (mVar .B 6) aN)))))
   (mSeq (sFor (bI revW (aC (bA f_lifts_of (aC (mVar .B 0) (aC (mVar .B 1) (aC (mVar .B 6) aN)))) aN)) (gT 2 (gsCons (gN .U 8) (gsCons (gN .U 9) gsNil)))
    (mSeq (sF 10 (bA f_row_between (aC (mVar .B 1) (aC (mVar .B 8) (aC (mVar .B 6) aN)))))
    (mSeq (sF 11 (bA f_times_for (aC (mVar .B 7) (aC (bA f_sum_of (aC (mVar .B 0) (aC (mVar .B 10) aN))) (aC (mVar .B 9) (aC (mVar .B 4) aN))))))
    (mIf (bTest (b2 (fI0 gGt) (mVar .B 11) (mC (.int 0)))) (mSeq (sFrz 11 (sFrz 10 (mApp 5 (vTup (aC (mVar .V 10) (aC (mVar .V 11) aN))))))
     (sF 4 (bA f_wanted_ahead (aC (mVar .B 0) (aC (mVar .B 10) (aC (mVar .B 11) (aC (mVar .B 4) aN))))))) sNx))))
   (mSeq (mApp 5 (vTup (aC (vLst (aC (bChk (b2 fIx (b2 fIx (mVar .B 1) (mVar .B 6)) (mC (.int 2)))) aN)) (aC (mC (.int 1)) aN))))
   (sF 4 (bA f_wanted_ahead (aC (mVar .B 0) (aC (vLst (aC (bChk (b2 fIx (b2 fIx (mVar .B 1) (mVar .B 6)) (mC (.int 2)))) aN)) (aC (mC (.int 1)) (aC (mVar .B 4) aN))))))))))
  (mSeq (mRev 5)
  (mRetVar .F 5)))))
noncomputable abbrev f_climb:List W→R W:=runB 4 12 m_climb
noncomputable def m__law_cell_at:Rho→R Fl:=
 (mSeq (mIf (bTest (b2 (fI0 gGt) (bA fLen (aC (mVar .B 0) aN)) (mC (.int 0)))) (sRet (bChk (b2 fIx (mVar .B 0) (b2 (fI cMod gMod) (mVar .B 1) (bA fLen (aC (mVar .B 0) aN)))))) sNx)
  (sRet (mC (.int 0))))
noncomputable abbrev f__law_cell_at:List W→R W:=runB 2 2 m__law_cell_at
noncomputable def m__law_draw:Rho→R Fl:=
 (sRet (b2 (fI cMod gMod) (b2 (fI CDiv gDiv) (b2 (fI cMod gMod) (b2 (fI CMul gMul) (b2 (fI0 gAdd) (bA f__law_cell_at (aC (mVar .B 0) (aC (mVar .B 1) aN))) (mC (.int 1))) (b2 (fI0 gAdd) (b2 (fI0 gAdd) (b2 (fI CMul gMul) (mVar .B 1) (mVar .B 1)) (b2 (fI CMul gMul) (mC (.int 7)) (mVar .B 1))) (mC (.int 48271)))) (mC (.int 99991))) (mC (.int 3))) (mVar .B 2)))
noncomputable abbrev f__law_draw:List W→R W:=runB 3 3 m__law_draw
noncomputable def m__law_numbers:Rho→R Fl:=
 (mSeq (sF 5 (vLst aN))
  (mSeq (sFor (bI rng1 (aC (mVar .B 2) aN)) (gN .U 6)
   (mSeq (sU 7 (b2 fIx (mVar .B 3) (bA f__law_draw (aC (mVar .B 0) (aC (b2 (fI0 gAdd) (mVar .B 1) (mVar .B 6)) (aC (bA fLen (aC (mVar .B 3) aN)) aN))))))
   (mSeq (mIf (tAnd' (bTest (b2 (fEqS false) (mVar .B 4) (mC (.int 0)))) (bTest (b2 (fI0 gGt) (mVar .B 7) (mC (.int 0))))) (sV 7 (b2 (fI cMod gMod) (b2 (fI CMul gMul) (b2 (fI0 gAdd) (bA f__law_cell_at (aC (mVar .B 0) (aC (b2 (fI0 gAdd) (mVar .B 1) (mVar .B 6)) aN))) (mVar .B 6)) (mC (.int 48271))) (b2 (fI0 gAdd) (b2 (fI CPow gPow) (mC (.int 10)) (mC (.int 9))) (mC (.int 1))))) (sV 7 (b2 (fI CMul gMul) (mVar .B 7) (mVar .B 4))))
   (mApp 5 (mVar .V 7)))))
  (sRet (bA (fTup true) (aC (mVar .C 5) aN)))))
noncomputable abbrev f__law_numbers:List W→R W:=runB 5 8 m__law_numbers
noncomputable def m__law_scale:Rho→R Fl:=
 (mSeq (sF 1 (bA f__law_draw (aC (mVar .B 0) (aC (mC (.int 2)) (aC (mC (.int 8)) aN)))))
  (mSeq (mIf (bTest (b2 (fEqS false) (mVar .B 1) (mC (.int 7)))) (sRet (mC (.int 0))) sNx)
  (mSeq (mIf (bTest (b2 (fI0 gGt) (mVar .B 1) (mC (.int 4)))) (sRet (b2 (fI0 gAdd) (mC (.int 1)) (b2 (fI cMod gMod) (b2 (fI CMul gMul) (bA f__law_cell_at (aC (mVar .B 0) (aC (mC (.int 2)) aN))) (mC (.int 48271))) (b2 (fI CPow gPow) (mC (.int 10)) (mC (.int 8)))))) sNx)
  (sRet (mC (.int 1))))))
noncomputable abbrev f__law_scale:List W→R W:=runB 1 2 m__law_scale
noncomputable def m__law_moor:Rho→R Fl:=
 (mSeq (sV 1 (b2 fIx (vLst (aC (mC (.int 2)) (aC (mC (.int 3)) (aC (mC (.int 1)) (aC (mC (.int 5)) (aC (mC (.int 3)) (aC (mC (.int 4)) (aC (mC (.int 2)) (aC (mC (.int 6)) aN))))))))) (bA f__law_draw (aC (mVar .B 0) (aC (mC (.int 0)) (aC (mC (.int 8)) aN))))))
  (mSeq (sF 2 (bA f__law_scale (aC (mVar .B 0) aN)))
  (mSeq (sF 3 (vLst aN))
  (mSeq (sFor (bI rng1 (aC (b2 fIx (vLst (aC (mC (.int 3)) (aC (mC (.int 2)) (aC (mC (.int 4)) (aC (mC (.int 1)) (aC (mC (.int 3)) (aC (mC (.int 5)) (aC (mC (.int 2)) (aC (mC (.int 8)) (aC (mC (.int 0)) (aC (mC (.int 6)) (aC (mC (.int 7)) aN)))))))))))) (bA f__law_draw (aC (mVar .B 0) (aC (mC (.int 1)) (aC (mC (.int 11)) aN))))) aN)) (gN .U 4)
   (mSeq (sV 5 (b2 (fI0 gAdd) (mC (.int 5)) (b2 (fI CMul gMul) (mVar .B 1) (b2 (fI0 gAdd) (b2 (fI CMul gMul) (mC (.int 2)) (mVar .B 4)) (mC (.int 1))))))
   (mSeq (sF 6 (bA f__law_numbers (aC (mVar .B 0) (aC (mVar .B 5) (aC (mVar .B 1) (aC (vLst (aC (mC (.int 0)) (aC (mC (.int 1)) (aC (mC (.int 0)) (aC (mC (.int 2)) (aC (mC (.int 1)) (aC (mC (.int 0)) aN))))))) (aC (mVar .B 2) aN)))))))
   (mSeq (sF 7 (bA f__law_numbers (aC (mVar .B 0) (aC (b2 (fI0 gAdd) (mVar .B 5) (mVar .B 1)) (aC (mVar .B 1) (aC (vLst (aC (mC (.int 1)) (aC (mC (.int 0)) (aC (mC (.int 0)) (aC (mC (.int 1)) (aC (mC (.int 2)) (aC (mC (.int 0)) aN))))))) (aC (mVar .B 2) aN)))))))
   (sFrz 7 (sFrz 6 (mApp 3 (vTup (aC (mVar .V 6) (aC (mVar .V 7) aN))))))))))
  (mSeq (sF 8 (bA (fList true) (aC (bA f__law_numbers (aC (mVar .B 0) (aC (mC (.int 5)) (aC (mVar .B 1) (aC (vLst (aC (mC (.int 1)) (aC (mC (.int 0)) (aC (mC (.int 2)) (aC (mC (.int 1)) (aC (mC (.int 3)) (aC (mC (.int 0)) aN))))))) (aC (mVar .B 2) aN)))))) aN)))
  (mSeq (mIf (bTest (b2 (fEqS false) (bA f__law_draw (aC (mVar .B 0) (aC (mC (.int 49)) (aC (mC (.int 8)) aN)))) (mC (.int 0)))) (mSet 8 (bA f__law_draw (aC (mVar .B 0) (aC (mC (.int 48)) (aC (mVar .B 1) aN)))) (b2 (fI cMod gMod) (b2 (fI CMul gMul) (bA f__law_cell_at (aC (mVar .B 0) (aC (mC (.int 48)) aN))) (mC (.int 982451653))) (b2 (fI CPow gPow) (mC (.int 10)) (mC (.int 60))))) sNx)
  (sRet (vTup (aC (bA (fTup true) (aC (mVar .C 8) aN)) (aC (bA (fTup true) (aC (mVar .C 3) aN)) aN))))))))))
noncomputable abbrev f__law_moor:List W→R W:=runB 1 9 m__law_moor
noncomputable def m__law_some:Rho→R Fl:=
 (mSeq (mIf (bTest (b2 (fEqS false) (bA f__law_draw (aC (mVar .B 0) (aC (mC (.int 59)) (aC (mC (.int 2)) aN)))) (mC (.int 0)))) (sRet (b2 (fI0 gAdd) (mC (.int 1)) (b2 (fI cMod gMod) (b2 (fI CMul gMul) (bA f__law_cell_at (aC (mVar .B 0) (aC (mVar .B 1) aN))) (mC (.int 48271))) (b2 (fI CPow gPow) (mC (.int 10)) (mC (.int 9)))))) sNx)
  (sRet (b2 (fI0 gAdd) (mC (.int 1)) (bA f__law_draw (aC (mVar .B 0) (aC (mVar .B 1) (aC (mC (.int 3)) aN)))))))
noncomputable abbrev f__law_some:List W→R W:=runB 2 2 m__law_some
noncomputable def m__law_turned:Rho→R Fl:=
 (sRet (bA (fTup true) (aC (b2 (fCat false) (vSl false (mVar .B 0) (pS (mVar .B 1)) pN) (vSl false (mVar .B 0) pN (pS (mVar .B 1)))) aN)))
noncomputable abbrev f__law_turned:List W→R W:=runB 2 2 m__law_turned
noncomputable def m__law_knot:Rho→R Fl:=
 (mSeq (sF 1 (bA f__law_draw (aC (mVar .B 0) (aC (mC (.int 56)) (aC (mC (.int 3)) aN)))))
  (mSeq (sF 2 (b2 (fRep true) (vLst (aC (mC (.int 0)) (aC (mC (.int 0)) aN))) (bA fInt (aC (b2 (fEqS false) (mVar .B 1) (mC (.int 2))) aN))))
  (mSeq (sF 3 (vLst (aC (mC (.int 0)) (aC (mC (.int 0)) (aC (bA f__law_some (aC (mVar .B 0) (aC (mC (.int 60)) aN))) aN)))))
  (mSeq (sF 4 (vLst (aC (vTup (aC (b2 (fCat true) (mVar .C 3) (mVar .C 2)) (aC (b2 (fCat true) (vLst (aC (mC (.int 0)) (aC (bA f__law_some (aC (mVar .B 0) (aC (mC (.int 61)) aN))) (aC (mC (.int 0)) aN)))) (mVar .C 2)) aN))) aN)))
  (mSeq (mApp 4 (vTup (aC (b2 (fCat true) (vLst (aC (mC (.int 0)) (aC (mC (.int 0)) (aC (mC (.int 0)) aN)))) (mVar .C 2)) (aC (b2 (fCat true) (vLst (aC (bA f__law_some (aC (mVar .B 0) (aC (mC (.int 62)) aN))) (aC (mC (.int 0)) (aC (bA f__law_some (aC (mVar .B 0) (aC (mC (.int 63)) aN))) aN)))) (mVar .C 2)) aN))))
  (mSeq (mIf (bTest (b2 (fEqS false) (mVar .B 1) (mC (.int 1)))) (mSeq (sF 5 (vComp 8 (bI rng1 (aC (mC (.int 6)) aN)) (gN .U 7) yes (bA f__law_draw (aC (mVar .B 0) (aC (b2 (fI0 gAdd) (mC (.int 64)) (mVar .B 7)) (aC (mC (.int 3)) aN))))))
   (mApp 4 (vTup (aC (vSl true (mVar .C 5) pN (pS (mC (.int 3)))) (aC (vSl true (mVar .C 5) (pS (mC (.int 3))) pN) aN))))) sNx)
  (mSeq (mIf (bTest (b2 (fEqS false) (mVar .B 1) (mC (.int 2)))) (mSeq (mApp 4 (vTup (aC (vLst (aC (mC (.int 0)) (aC (bA f__law_some (aC (mVar .B 0) (aC (mC (.int 64)) aN))) (aC (mC (.int 0)) (aC (mC (.int 0)) (aC (mC (.int 1)) aN)))))) (aC (vLst (aC (mC (.int 0)) (aC (mC (.int 0)) (aC (mC (.int 0)) (aC (mC (.int 1)) (aC (mC (.int 0)) aN)))))) aN))))
   (sF 3 (b2 (fCat true) (mVar .C 3) (vLst (aC (mC (.int 0)) (aC (mC (.int 1)) aN)))))) sNx)
  (mSeq (mIf (bTest (b2 (fEqS false) (bA f__law_draw (aC (mVar .B 0) (aC (mC (.int 57)) (aC (mC (.int 2)) aN)))) (mC (.int 0)))) (sF 4 (vRv true (mVar .C 4) (pS (b1 (fU gNeg) (mC (.int 1)))))) sNx)
  (mSeq (sF 6 (bA f__law_draw (aC (mVar .B 0) (aC (mC (.int 58)) (aC (mC (.int 3)) aN)))))
  (sRet (vTup (aC (bA f__law_turned (aC (mVar .B 3) (aC (mVar .B 6) aN))) (aC (bA (fTup true) (aC (vComp 9 (bS (mVar .B 4)) (gT 2 (gsCons (gN .U 7) (gsCons (gN .U 8) gsNil))) yes (vTup (aC (bA f__law_turned (aC (mVar .B 7) (aC (mVar .B 6) aN))) (aC (bA f__law_turned (aC (mVar .B 8) (aC (mVar .B 6) aN))) aN)))) aN)) aN)))))))))))))
noncomputable abbrev f__law_knot:List W→R W:=runB 1 7 m__law_knot
noncomputable def m__law_whole:Rho→R Fl:=
 (sRet (vAnd (bA fIsi (aC (mVar .B 0) (aC (mC (.ty "int")) aN))) (vNot (bA fIsi (aC (mVar .B 0) (aC (mC (.ty "bool")) aN))))))
noncomputable abbrev f__law_whole:List W→R W:=runB 1 1 m__law_whole
noncomputable def m__law_is_block:Rho→R Fl:=
 (mSeq (mIf (tOr' (tNot' (bTest (bA fIsi (aC (mVar .B 0) (aC (mC (.ty "tuple")) aN))))) (tOr' (bTest (b2 (fEqS true) (bA fLen (aC (mVar .B 0) aN)) (mC (.int 2)))) (tOr' (tNot' (bTest (bA f__law_whole (aC (b2 fIx (mVar .B 0) (mC (.int 1))) aN)))) (bTest (b2 (fI0 gLt) (b2 fIx (mVar .B 0) (mC (.int 1))) (mC (.int 0))))))) (sRet (mC (.bl false))) sNx)
  (mSeq (mIf (tOr' (tNot' (bTest (bA fIsi (aC (b2 fIx (mVar .B 0) (mC (.int 0))) (aC (mC (.ty "list")) aN))))) (bTest (b2 (fI0 gGt) (bA fLen (aC (b2 fIx (mVar .B 0) (mC (.int 0))) aN)) (mC (.int 30))))) (sRet (mC (.bl false))) sNx)
  (sRet (bA (fBools gAll) (aC (vComp 3 (bS (b2 fIx (mVar .B 0) (mC (.int 0)))) (gN .U 2) yes (vAnd (bA f__law_whole (aC (mVar .B 2) aN)) (vChain (fI0 gLe) (fI0 gLt) (mC (.int 0)) (mVar .B 2) (mVar .B 1)))) aN)))))
noncomputable abbrev f__law_is_block:List W→R W:=runB 2 2 m__law_is_block
noncomputable def m__law_gone:Rho→R Fl:=
 (mSeq (mIf (bTest (b2 (fEqS false) (mVar .B 3) (mC (.int 0)))) (mRetVar .F 0) sNx)
  (mSeq (sF 4 (vComp 11 (bS (mVar .B 0)) (gN .U 10) yes (mC (.int 0))))
  (mSeq (sF 5 (vComp 11 (bS (mVar .B 0)) (gN .U 10) yes (mC (.int 0))))
  (mSeq (sFor (bS (mVar .U 2)) (gN .U 6)
   (mSeq (sG (gT 2 (gsCons (gN .U 7) (gsCons (gN .U 8) gsNil))) (b2 fIx (mVar .B 1) (mVar .B 6)))
   (sFor (bI rng1 (aC (bA fLen (aC (mVar .B 0) aN)) aN)) (gN .U 9)
    (mSeq (mSet 4 (mVar .B 9) (bA (f2 gMax) (aC (b2 fIx (mVar .B 4) (mVar .B 9)) (aC (b2 (fI0 gSub) (b2 fIx (mVar .B 7) (mVar .B 9)) (b2 fIx (mVar .B 5) (mVar .B 9))) aN))))
    (mSet 5 (mVar .B 9) (b2 (fI0 gSub) (b2 (fI0 gAdd) (b2 fIx (mVar .B 5) (mVar .B 9)) (b2 fIx (mVar .B 8) (mVar .B 9))) (b2 fIx (mVar .B 7) (mVar .B 9))))))))
  (mSeq (sFor (bI rng1 (aC (bA fLen (aC (mVar .B 0) aN)) aN)) (gN .U 9)
   (mIf (bTest (b2 (fI0 gLt) (b2 fIx (mVar .B 0) (mVar .B 9)) (b2 (fI0 gAdd) (b2 fIx (mVar .B 4) (mVar .B 9)) (b2 (fI CMul gMul) (b2 (fI0 gSub) (mVar .B 3) (mC (.int 1))) (bA (f2 gMax) (aC (b2 (fI0 gSub) (mC (.int 0)) (b2 fIx (mVar .B 5) (mVar .B 9))) (aC (mC (.int 0)) aN))))))) (sRet (mC .non)) sNx))
  (sRet (vComp 11 (bI rng1 (aC (bA fLen (aC (mVar .B 0) aN)) aN)) (gN .U 10) yes (b2 (fI0 gAdd) (b2 fIx (mVar .B 0) (mVar .B 10)) (b2 (fI CMul gMul) (mVar .B 3) (b2 fIx (mVar .B 5) (mVar .B 10)))))))))))
noncomputable abbrev f__law_gone:List W→R W:=runB 4 10 m__law_gone
noncomputable def m__law_comes_to:Rho→R Fl:=
 (mSeq (mIf (tOr' (tNot' (bTest (bA fIsi (aC (mVar .B 2) (aC (mC (.ty "list")) aN))))) (bTest (b2 (fI0 gGt) (bA fLen (aC (mVar .B 2) aN)) (mC (.int 100))))) (sRet (mC (.bl false))) sNx)
  (mSeq (sF 5 (bA (fList false) (aC (mVar .B 0) aN)))
  (mSeq (sFor (bS (mVar .U 2)) (gN .U 6)
   (mSeq (mIf (tNot' (bTest (bA f__law_is_block (aC (mVar .B 6) (aC (bA fLen (aC (mVar .B 1) aN)) aN))))) (sRet (mC (.bl false))) sNx)
   (mSeq (sF 5 (bA f__law_gone (aC (mVar .B 5) (aC (mVar .B 1) (aC (b2 fIx (mVar .B 6) (mC (.int 0))) (aC (b2 fIx (mVar .B 6) (mC (.int 1))) aN))))))
   (mIf (bTest (b2 (fIsN false) (mVar .B 5) (mC .non))) (sRet (mC (.bl false))) sNx))))
  (mSeq (sFor (bI rng1 (aC (bA fLen (aC (mVar .B 3) aN)) aN)) (gN .U 7)
   (mSeq (mIf (tAnd' (bTest (b2 (fIsN false) (b2 fIx (mVar .B 3) (mVar .B 7)) (mC .non))) (bTest (b2 (fI0 gLt) (b2 fIx (mVar .B 5) (mVar .B 7)) (mVar .B 4)))) (sRet (mC (.bl false))) sNx)
   (mIf (tAnd' (bTest (b2 (fIsN true) (b2 fIx (mVar .B 3) (mVar .B 7)) (mC .non))) (bTest (b2 (fEq true) (b2 fIx (mVar .B 5) (mVar .B 7)) (b2 fIx (mVar .B 3) (mVar .B 7))))) (sRet (mC (.bl false))) sNx)))
  (sRet (mC (.bl true)))))))
noncomputable abbrev f__law_comes_to:List W→R W:=runB 5 8 m__law_comes_to
noncomputable def m__law_height:Rho→R Fl:=
 (mSeq (sF 2 (bA f__law_draw (aC (mVar .B 0) (aC (mVar .B 1) (aC (mC (.int 4)) aN)))))
  (mSeq (mIf (bTest (b2 (fEqS false) (mVar .B 2) (mC (.int 0)))) (sRet (mC (.int 0))) sNx)
  (mSeq (mIf (bTest (b2 (fEqS false) (mVar .B 2) (mC (.int 1)))) (sRet (b2 (fI cMod gMod) (b2 (fI CMul gMul) (bA f__law_cell_at (aC (mVar .B 0) (aC (mVar .B 1) aN))) (mC (.int 982451653))) (b2 (fI CPow gPow) (mC (.int 10)) (mC (.int 60))))) sNx)
  (sRet (bA f__law_draw (aC (mVar .B 0) (aC (mVar .B 1) (aC (mC (.int 10)) aN))))))))
noncomputable abbrev f__law_height:List W→R W:=runB 2 3 m__law_height
noncomputable def m_law:Rho→R Fl:=
 (mSeq (sG (gT 2 (gsCons (gN .U 1) (gsCons (gN .U 2) gsNil))) (bA f__law_moor (aC (mVar .B 0) aN)))
  (mSeq (mIf (bTest (b2 (fEqS false) (bA f__law_draw (aC (mVar .B 0) (aC (mC (.int 55)) (aC (mC (.int 3)) aN)))) (mC (.int 0)))) (sG (gT 2 (gsCons (gN .U 1) (gsCons (gN .U 2) gsNil))) (bA f__law_knot (aC (mVar .B 0) aN))) sNx)
  (mSeq (sF 3 (bA f_growth (aC (vTup (aC (mVar .U 1) (aC (mVar .U 2) aN))) (aC (mC (.int 30)) aN))))
  (mSeq (mIf (bTest (b2 (fIsN false) (mVar .B 3) (mC .non))) (sRet (mC (.bl true))) sNx)
  (mSeq (sF 4 (bA (fList true) (aC (mVar .C 3) aN)))
  (mSeq (sF 5 (b2 (fCat true) (vComp 12 (bI rng1 (aC (mC (.int 4)) aN)) (gN .U 11) yes (bA f__law_draw (aC (mVar .B 0) (aC (b2 (fI0 gAdd) (mC (.int 40)) (mVar .B 11)) (aC (bA fLen (aC (mVar .B 3) aN)) aN))))) (vLst (aC (b2 (fI0 gSub) (bA fLen (aC (mVar .B 3) aN)) (mC (.int 1))) aN))))
  (mSeq (sFor (bI rng1 (aC (bA fLen (aC (mVar .B 5) aN)) aN)) (gN .U 6)
   (mSeq (sV 7 (b2 fIx (b2 fIx (mVar .C 3) (b2 fIx (mVar .C 5) (mVar .C 6))) (mC (.int 0))))
   (mSeq (sF 8 (bA f__law_height (aC (mVar .B 0) (aC (b2 (fI0 gAdd) (mC (.int 50)) (mVar .B 6)) aN))))
   (sFor (bI rng1 (aC (mC (.int 2)) aN)) (gN .U 9)
    (mB 10 f_climb (aC (vTup (aC (mVar .U 1) (aC (mVar .U 2) aN))) (aC (mVar .B 4) (aC (b2 fIx (mVar .B 5) (mVar .B 6)) (aC (mVar .B 8) aN))))
    (tNot' (bTest (bA f__law_comes_to (aC (mVar .B 1) (aC (mVar .B 2) (aC (mVar .B 10) (aC (mVar .B 7) (aC (mVar .B 8) aN)))))))))))))
  (sRet (b2 (fEq false) (mVar .B 4) (mVar .B 3))))))))))
noncomputable abbrev f_law:List W→R W:=runB 1 11 m_law
end K43
set_option Elab.async false
set_option linter.all false
set_option maxRecDepth 100000
set_option maxHeartbeats 4000000
open PySem L2 TP
namespace K43
--RPX: fLrev_I, mIdx_ap, Rix_ok, rpio
noncomputable def rp14:=And.intro (@isi_bb) (And.intro (@isi_bi) (And.intro (@isi_ib) (And.intro (@isi_ii) (And.intro (@isi_tt) (And.intro (@isi_ll) (And.intro (@isi_ni) (And.intro (@isi_nb) (And.intro (@isi_si) (And.intro (@isi_sb) (And.intro (@isi_li) (And.intro (@isi_lb) (And.intro (@isi_ti) (@isi_tb)))))))))))))
noncomputable def rp15:=And.intro (@Bool.not_true) (And.intro (@Bool.not_false) (And.intro (@Bool.true_or) (And.intro (@Bool.or_true) (And.intro (@Bool.false_or) (And.intro (@Bool.or_false) (And.intro (@Bool.true_and) (And.intro (@Bool.and_true) (And.intro (@Bool.false_and) (And.intro (@Bool.and_false) (And.intro (@Int.sub_zero) (And.intro (@Int.zero_add) (And.intro (@Int.toNat_natCast) (And.intro (@Bool.false_eq_true) (And.intro (@Bool.true_eq_false) (And.intro (@and_true) (And.intro (@true_and) (And.intro (@or_true) (And.intro (@true_or) (@and_self)))))))))))))))))))
noncomputable def rp18:=And.intro (@List.length_cons.{0}) (And.intro (@List.length_nil.{0}) (And.intro (@List.length_map.{0,0}) (And.intro (@List.length_append.{0}) (And.intro (@List.length_set.{0}) (@List.length_range)))))
noncomputable def rp16:=And.intro rp14 (And.intro rp15 (And.intro rp13 (And.intro rp12 (And.intro rp11 (And.intro rp10 (And.intro rp9 (And.intro rp8 (And.intro rp0 (And.intro rp1 (And.intro rp2 (And.intro rp3 (And.intro rp4 (And.intro rp5 (And.intro rp6 rp7))))))))))))))
noncomputable def rp17:=And.intro (@List.map_cons.{0,0}) (And.intro (@List.map_nil.{0,0}) (And.intro (@List.replicate_succ.{0}) (And.intro (@List.replicate_zero.{0}) (And.intro (@List.cons_append.{0}) (And.intro (@List.nil_append.{0}) (And.intro (@List.append_nil.{0}) (And.intro (@List.set_cons_succ.{0}) (And.intro (@List.set_cons_zero.{0}) (And.intro (@R.ok_bind) (And.intro (@R.stuck_bind) (@R.ex_bind)))))))))))
noncomputable def rp19:=And.intro (@beq_self_eq_true.{0}) (And.intro (@Option.isNone_none.{0}) (And.intro (@Option.isNone_some.{0}) (And.intro (@List.getElem?_cons_zero.{0}) (And.intro (@List.getElem?_cons_succ.{0}) (And.intro (@Option.bind_some.{0,0}) (And.intro (@if_true.{1}) (And.intro (@if_false.{1}) (And.intro (@decide_true) (@decide_false)))))))))
theorem nb_ap (m:Rho→R Fl) (ρ:Rho):nb m ρ=nbR (m ρ):=rfl
theorem nbR_nx (ρ:Rho):nbR (.ok (.nx ρ))=.ok (.nx ρ):=rfl
theorem sBkI_ap (ρ:Rho):sBkI ρ=.ok (.bk ρ):=rfl
theorem rdS_iB (q:Addr) (ws:List W):rdS .B (some (.iop q ws))=.ok (.lst ws):=rfl
theorem rdS_iU (q:Addr) (ws:List W):rdS .U (some (.iop q ws))=.ok (.lst ws):=rfl
noncomputable def ioS (o:Option Sl) (f:W→List W→List W→R (List W)) (r1:R W) (rr:R (List W)) (i:Nat) (ρ:Rho):R Fl:=match o with
 | some (.own cs)=>r1>>=fun w1=>rr>>=fun wr=>f w1 cs wr>>=fun cs'=>.ok (.nx (ρ.set i (.own cs')))
 | _=>.stuck
theorem mIO_ap (i:Nat) (f:W→List W→List W→R (List W)) (m1:Rho→R W) (mr:Rho→R (List W)) (ρ:Rho):mIO i f m1 mr ρ=ioS (ρ[i]?) f (m1 ρ) (mr ρ) i ρ:=rfl
theorem ioS_ok (cs:List W) (f:W→List W→List W→R (List W)) (w1:W) (wr:List W) (i:Nat) (ρ:Rho):ioS (some (.own cs)) f (.ok w1) (.ok wr) i ρ=(f w1 cs wr>>=fun cs'=>.ok (.nx (ρ.set i (.own cs')))):=rfl
theorem po_nb {r:R Fl} {P:Rho→Prop} {Q:W→Prop} (h:Po r P fun _=>False):Po (nbR r) P Q:=by
 cases r with
 | ok f=>
  cases f with
  | nx ρ=>exact h
  | rt w=>exact h.elim
  | bk ρ=>exact h
  | ct ρ=>exact h
 | ex e=>exact h
 | stuck=>exact h
theorem mAppI_ok {p:Addr} {i:Nat} {m:Rho→R W} {ws:List W} {w:W} {ρ:Rho} (h1:ρ[i]?=some (.iop p ws)) (hm:m ρ=.ok w) (hl:ws.length<1000):mAppI p i m ρ=.ok (.nx (appI i p (ws ++ [w]) ρ)):=by
 unfold mAppI
 rw [h1]
 dsimp only
 rw [hm,R.ok_bind,if_pos ⟨rfl,hl⟩]
noncomputable def rpio:=And.intro (@nb_ap) (And.intro (@nbR_nx) (And.intro (@sBkI_ap) (And.intro (@rdS_iB) (And.intro (@rdS_iU) (And.intro (@mIO_ap) (@ioS_ok))))))
noncomputable def Rrv (c:Bool) (x:R W) (k:R (Option Int)):R W:=x>>=fun x=>k>>=fun k=>if k=some (-1) then toR (lstOf x)>>=fun ws=>chks c ws.reverse else .stuck
theorem vRv_ap (c:Bool) (m:Rho→R W) (mk:Rho→R (Option Int)) (ρ:Rho):vRv c m mk ρ=Rrv c (m ρ) (mk ρ):=rfl
theorem Rrv_l (c:Bool) (ws:List W):Rrv c (.ok (.lst ws)) (.ok (some (-1)))=chks c ws.reverse:=rfl
noncomputable def rpB:=And.intro (@runB_1) (And.intro (@runB_2) (And.intro (@runB_3) (And.intro (@runB_4) (@runB_5))))
local macro_rules | `(tactic| exists $[$es],*)=>`(tactic| simp (disch:=first | omega | with_reducible assumption | (simp only [rp18]; omega)) only [rp19,rp16,rp17,rp18,fLrev_I,mIdx_ap,Rix_ok,rpio,decide_eq_true_eq,tyW,isN,Nat.reduceSub,Nat.reduceAdd,Nat.reduceEqDiff,Nat.reduceLeDiff,Nat.reduceLT,reduceIte,reduceCtorEq,Int.reduceLT,Int.reduceLE,Int.reduceEq,Int.reduceAdd,Int.reduceSub,Int.reduceMul,Int.reduceNeg,Int.reduceToNat,Int.reduceMod,Int.reducePow,Int.reduceDiv,Nat.reducePow,$[$es:term],*])
noncomputable abbrev Mv:=List Int×List Int
noncomputable abbrev mW (m:Mv):W:=.tup [tI m.1,tI m.2]
noncomputable abbrev tM_ (ms:List Mv):W:=.tup (ms.map mW)
theorem noL_mW (m:Mv):noL (mW m)=true:=by simp [noL,noLs,noLs_ints]
theorem noLs_M (ms:List Mv):noLs (ms.map mW)=true:=noLs_map mW noL_mW ms
theorem memD {ns:List Int} {P:Int→Prop} (h:∀ x∈ns,P x) {i:Nat} (hi:i<ns.length):P (ns.getD i 0):=mem_getD h hi
noncomputable def nn (xs:List Int):Prop:=∀ x∈xs,0≤x
noncomputable def okN (n:Nat) (m:Mv):Prop:=m.1.length=n∧m.2.length=n∧nn m.1∧nn m.2
theorem nn_at {xs:List Int} (h:nn xs) (k:Nat):0≤xs.getD k 0:=by
 by_cases hk:k<xs.length
 ·exact memD h hk
 ·rw [List.getD_eq_getElem?_getD]; simp [hk]
theorem atM {ms:List Mv} {r:Int} (h0:0≤r) (h1:r<ms.length):L2.atI (ms.map mW) r=some (mW (ms.getD r.toNat ([],[]))):=by
 unfold L2.atI
 rw [ixN_int h0 (by rw [List.length_map]; exact h1)]
 show (ms.map mW)[r.toNat]?=_
 have hi:r.toNat<ms.length:=by omega
 rw [List.getElem?_map,List.getD_eq_getElem?_getD]
 simp [hi]
theorem getM {n:Nat} {ms:List Mv} {i:Nat} (hm:∀ m∈ms,okN n m) (h1:i<ms.length):okN n (ms.getD i ([],[])):=by
 refine hm _ ?_
 rw [List.getD_eq_getElem?_getD]; simp [h1]
noncomputable def und1 (a b:Option Int):Bool:=match b with
 | none=>true
 | some y=>match a with
  | none=>false
  | some x=>decide (x≤y)
noncomputable def undB (cs ds:List (Option Int)):Bool:=(List.range cs.length).all fun k=>und1 (cs.getD k none) (ds.getD k none)
noncomputable abbrev tC (cs:List (Option Int)):W:=.tup (cs.map oW)
noncomputable abbrev lC (cs:List (Option Int)):W:=.lst (cs.map oW)
theorem und_f {cs ds:List (Option Int)} {i:Nat} (hi:i<cs.length) (h:und1 (cs.getD i none) (ds.getD i none)=false):undB cs ds=false:=by
 unfold undB
 rw [List.all_eq_false]
 exact ⟨i,by simpa using hi,by rw [h]; exact Bool.false_ne_true⟩
theorem und_t {cs ds:List (Option Int)} (h:∀ k,k<cs.length→und1 (cs.getD k none) (ds.getD k none)=true):undB cs ds=true:=by
 unfold undB
 rw [List.all_eq_true]
 exact fun k hk=>h k (by simpa using hk)
theorem under_ok {cs ds:List (Option Int)} (hl:ds.length=cs.length):f_under [tC cs,tC ds]=.ok (.bl (undB cs ds)):=by
 have fin:Ok (f_under [tC cs,tC ds]) fun v=>v=.bl (undB cs ds):=by
  have hz:=zipR_2 (tC cs) (tC ds) _ _ rfl rfl
  rw [zipW_M2 oW oW hl none none] at hz
  exists rpB,m_under,hz
  refine ok_end (po_fors (fun i ρ=>∃ a b,ρ = [.par (tC cs),.par (tC ds),a,b]∧∀ k,k<i→und1 (cs.getD k none) (ds.getD k none)=true) ⟨_,_,rfl,fun k hk=>absurd hk (Nat.not_lt_zero _)⟩ ?_ ?_)
  ·rintro i u ρ hu ⟨a,b,rfl,hall⟩
   obtain ⟨hi,rfl⟩:=range_at hu
   refine ⟨_,rfl,?_⟩
   have key:und1 (cs.getD i none) (ds.getD i none)=true→∀ k,k<i+1→und1 (cs.getD k none) (ds.getD k none)=true:=fun h k hk=>by
    by_cases e:k=i
    ·subst e; exact h
    ·exact hall k (by omega)
   have bad:=und_f (ds:=ds) hi
   revert key bad
   cases hd:ds.getD i none with
   | none=>
    intro key bad
    exists rp18
    exact ⟨_,_,rfl,key rfl⟩
   | some y=>
    cases hc:cs.getD i none with
    | none=>
     intro key bad
     exists rp18
     rw [bad rfl]
    | some x=>
     intro key bad
     exists rp18
     refine po_if (fun h=>?_) (fun h=>?_)
     ·exists rp18
      rw [bad (by show decide (x≤y)=false; simp only [decide_eq_true_eq] at h; exact decide_eq_false (by omega))]
     ·exists rp18
      exact ⟨_,_,rfl,key (by show decide (x≤y)=true; simp only [decide_eq_false_iff_not] at h; exact decide_eq_true (by omega))⟩
  ·rintro ρ ⟨a,b,rfl,hall⟩
   rw [List.length_map,List.length_range] at hall
   exists rp18
   rw [und_t hall]
 obtain ⟨v,e,rfl⟩:=fin
 exact e
noncomputable def rai1 (c e:Option Int):Option Int:=if c=e then c else none
noncomputable def raiB (cs es:List (Option Int)):List (Option Int):=if undB es cs=true then (List.range cs.length).map fun k=>rai1 (cs.getD k none) (es.getD k none) else cs
theorem raiB_len (cs es:List (Option Int)):(raiB cs es).length=cs.length:=by unfold raiB; split <;> simp
theorem raised_ok {cs es:List (Option Int)} (hl:es.length=cs.length) (h6:cs.length≤6):f_raised [tC cs,tC es]=.ok (tC (raiB cs es)):=by
 have hu:=under_ok (cs:=es) (ds:=cs) hl.symm
 have fin:Ok (f_raised [tC cs,tC es]) fun v=>v=tC (raiB cs es):=by
  have hz:=zipR_2 (tC cs) (tC es) _ _ rfl rfl
  rw [zipW_M2 oW oW hl none none] at hz
  exists rpB,m_raised,hu
  refine ok_end (po_ifs (fun h=>?_) (fun h=>?_))
  ·exists chk_no (show noL (tC cs)=true from noLs_oW cs)
   unfold raiB
   rw [if_neg (by simpa using h)]
  ·exists hz
   refine po_ret (ok_bindL (okL_1 ?_))
   refine ⟨lC (raiB cs es),?_,?_⟩
   ·rw [mComp_all (fun k=>oW (rai1 (cs.getD k none) (es.getD k none))) _ _ _ (by simpa using (by omega:cs.length≤1000))]
    ·unfold raiB
     rw [if_pos (by simpa using h)]
     exact congrArg (fun l=>R.ok (W.lst l)) (by rw [List.map_map]; rfl)
    ·intro k hk
     refine ⟨_,rfl,?_⟩
     have hk:k<cs.length:=by simpa using hk
     cases hc:cs.getD k none with
     | none=>
      cases he:es.getD k none with
      | none=>
       exists rp18
       rfl
      | some y=>
       exists rp18
       rfl
     | some x=>
      cases he:es.getD k none with
      | none=>
       exists rp18
       rfl
      | some y=>
       exists rp18
       unfold rai1
       by_cases e:x=y
       ·subst e; simp; rfl
       ·simp [e]; rfl
   ·exact ⟨_,by rw [fTup_l,chkT_O],rfl⟩
 obtain ⟨v,e,rfl⟩:=fin
 exact e
theorem change_ok {n:Nat} {m:Mv} (h6:n≤6) (h:okN n m):f_change [mW m]=.ok (tI ((List.range n).map fun k=>m.2.getD k 0-m.1.getD k 0)):=by
 have a0:L2.atI [tI m.1,tI m.2] 0=some (tI m.1):=rfl
 have a1:L2.atI [tI m.1,tI m.2] 1=some (tI m.2):=rfl
 have hz:=zipR_2 (tI m.1) (tI m.2) _ _ rfl rfl
 rw [zipW_I2 (by rw [h.1,h.2.1]),h.1] at hz
 exists rpB,m_change,a0,a1,hz
 have e:∀ N mg me ρ (h:∀ k,k<n→∃ ρ1,mg (.tup [.int (m.1.getD k 0),.int (m.2.getD k 0)]) (ρ++List.replicate (N-ρ.length) Sl.un)=some ρ1∧me ρ1=.ok (.int (m.2.getD k 0-m.1.getD k 0))),mComp N mg yes me ((List.range n).map fun k=>W.tup [.int (m.1.getD k 0),.int (m.2.getD k 0)]) ρ=.ok (lI ((List.range n).map fun k=>m.2.getD k 0-m.1.getD k 0)):=fun N mg me ρ h=>by
  rw [mComp_all (fun k=>.int (m.2.getD k 0-m.1.getD k 0)) _ _ ρ (by simpa using (by omega:n≤1000)) (fun k hk=>h k (by simpa using hk)),mapI]
 rw [e]
 ·exists rp18
 ·intro k hk
  refine ⟨_,rfl,?_⟩
  exists rp18
noncomputable abbrev Cap:=List (Option Int)
noncomputable abbrev GEnt:=Cap×Nat×Nat
noncomputable abbrev gW (e:GEnt):W:=.tup [tC e.1,.int (e.2.1:Int),.int (e.2.2:Int)]
noncomputable abbrev g0 (c:Cap):W:=.tup [tC c,.non,.non]
noncomputable abbrev rowsG (c:Cap) (es:List GEnt):List W:=g0 c::es.map gW
noncomputable def stC (c:Cap) (es:List GEnt):List Cap:=c::es.map (·.1)
noncomputable def sC (c:Cap) (es:List GEnt) (a:Nat):Cap:=(stC c es).getD a []
noncomputable def mvN (ms:List Mv) (k:Nat):Mv:=ms.getD k ([],[])
noncomputable def cdG (e:GEnt):Nat:=e.2.1*8+e.2.2
theorem stC_len (c:Cap) (es:List GEnt):(stC c es).length=es.length+1:=by simp [stC]
theorem sC_snoc {c:Cap} {es:List GEnt} {e:GEnt} {a:Nat} (h:a≤es.length):sC c (es ++ [e]) a=sC c es a:=by
 unfold sC stC
 rw [List.map_append,← List.cons_append,List.getD_eq_getElem?_getD,List.getD_eq_getElem?_getD,List.getElem?_append_left (by simp; omega)]
theorem sC_suc {c:Cap} {es:List GEnt} {i:Nat} {e:GEnt} (h:es[i]?=some e):sC c es (i+1)=e.1:=by
 unfold sC stC
 rw [List.getD_eq_getElem?_getD,List.getElem?_cons_succ,List.getElem?_map,h]; rfl
theorem sC_mem {c:Cap} {es:List GEnt} {a:Nat} (h:a≤es.length):sC c es a∈stC c es:=by
 unfold sC
 rw [List.getD_eq_getElem?_getD,List.getElem?_eq_getElem (by rw [stC_len]; omega)]
 exact List.getElem_mem _
theorem tI_tC (b:List Int):tI b=tC (b.map some):=congrArg W.tup (by rw [List.map_map]; rfl)
noncomputable def wayN (es:List GEnt):Nat→Nat→List Nat
 | _,0=>[0]
 | 0,n+1=>[n+1]
 | f+1,i+1=>(i+1)::wayN es f (es.getD i ([],0,0)).2.1
noncomputable def wayG (es:List GEnt) (n:Nat):List Nat:=wayN es n n
noncomputable def ParG (es:List GEnt):Prop:=∀ (i:Nat) (e:GEnt),es[i]?=some e→e.2.1≤i
theorem wayG_0 (es:List GEnt):wayG es 0 = [0]:=rfl
theorem getD_at {es:List GEnt} {i:Nat} {e:GEnt} (h:es[i]?=some e):es.getD i ([],0,0)=e:=by rw [List.getD_eq_getElem?_getD,h]; rfl
theorem wayN_fuel {es:List GEnt} (hp:ParG es):∀ n f,n≤f→n≤es.length→wayN es f n=wayN es n n:=by
 intro n
 induction n using Nat.strongRecOn with
 | _ n ih=>
  intro f hf hn
  cases n with
  | zero=>cases f <;> rfl
  | succ i=>
   obtain ⟨f,rfl⟩:∃ g,f=g+1:=⟨f-1,by omega⟩
   have he:es[i]?=some es[i]:=List.getElem?_eq_getElem (by omega)
   have hq:=hp i _ he
   show (i+1)::wayN es f (es.getD i ([],0,0)).2.1=(i+1)::wayN es i (es.getD i ([],0,0)).2.1
   rw [getD_at he,ih es[i].2.1 (by omega) f (by omega) (by omega),ih es[i].2.1 (by omega) i (by omega) (by omega)]
theorem wayG_succ {es:List GEnt} (hp:ParG es) {i:Nat} {e:GEnt} (h:es[i]?=some e):wayG es (i+1)=(i+1)::wayG es e.2.1:=by
 have hi:=(List.getElem?_eq_some_iff.mp h).1
 have hq:=hp i e h
 show (i+1)::wayN es i (es.getD i ([],0,0)).2.1=_
 rw [getD_at h,wayN_fuel hp e.2.1 i hq (by omega)]; rfl
theorem wayG_le {es:List GEnt} (hp:ParG es):∀ n,n≤es.length→(∀ q∈wayG es n,q≤n)∧(wayG es n).length≤n+1:=by
 intro n
 induction n using Nat.strongRecOn with
 | _ n ih=>
  intro hn
  cases n with
  | zero=>rw [wayG_0]; exact ⟨by simp,by simp⟩
  | succ i=>
   have he:es[i]?=some es[i]:=List.getElem?_eq_getElem (by omega)
   have hq:=hp i _ he
   obtain ⟨h1,h2⟩:=ih es[i].2.1 (by omega) (by omega)
   rw [wayG_succ hp he]
   refine ⟨fun q hq'=>?_,by rw [List.length_cons]; omega⟩
   rcases List.mem_cons.mp hq' with rfl | h
   ·exact Nat.le_refl _
   ·have:=h1 q h; omega
theorem wayG_snoc {es:List GEnt} {x:GEnt} (hp:ParG es) (hx:x.2.1≤es.length):∀ n,n≤es.length→wayG (es ++ [x]) n=wayG es n:=by
 have hp':ParG (es ++ [x]):=fun i e he=>by
  by_cases hi:i<es.length
  ·rw [List.getElem?_append_left hi] at he; exact hp i e he
  ·have hi':=(List.getElem?_eq_some_iff.mp he).1
   rw [List.length_append,List.length_singleton] at hi'
   have:i=es.length:=by omega
   subst this
   rw [List.getElem?_append_right (Nat.le_refl _),Nat.sub_self] at he
   cases he; exact hx
 intro n
 induction n using Nat.strongRecOn with
 | _ n ih=>
  intro hn
  cases n with
  | zero=>rfl
  | succ i=>
   have he:es[i]?=some es[i]:=List.getElem?_eq_getElem (by omega)
   have he':(es ++ [x])[i]?=some es[i]:=by rw [List.getElem?_append_left (by omega)]; exact he
   have hq:=hp i _ he
   rw [wayG_succ hp he,wayG_succ hp' he',ih es[i].2.1 (by omega) (by omega)]
noncomputable def ablC (c:Cap) (m:Mv):Bool:=undB (m.1.map some) c
noncomputable def aftC (c:Cap) (m:Mv):Cap:=(List.range c.length).map fun k=>(c.getD k none).map fun x=>x+(m.2.getD k 0-m.1.getD k 0)
theorem aftC_len (c:Cap) (m:Mv):(aftC c m).length=c.length:=by simp [aftC]
theorem capable_ok {c:Cap} {m:Mv} (hm:okN c.length m):f_cap_able [tC c,mW m]=.ok (.bl (ablC c m)):=by
 have a0:L2.atI [tI m.1,tI m.2] 0=some (tI m.1):=rfl
 have k:=under_ok (cs:=m.1.map some) (ds:=c) (by rw [List.length_map,hm.1])
 rw [← tI_tC] at k
 exists rpB,m_cap_able,a0,k
 rfl
theorem capafter_ok {c:Cap} {m:Mv} (h6:c.length≤6) (hm:okN c.length m) (ha:ablC c m=true):f_cap_after [tC c,mW m]=.ok (tC (aftC c m)):=by
 have k1:=capable_ok hm
 rw [ha] at k1
 have k2:=change_ok h6 hm
 have hz:=zipR_2 (tC c) (tI ((List.range c.length).map fun k=>m.2.getD k 0-m.1.getD k 0)) _ _ rfl rfl
 rw [zipW_M2 oW W.int (by simp) none 0] at hz
 exists rpB,m_cap_after,k1,k2,hz
 have e:∀ N mg me ρ (h:∀ k,k<c.length→∃ ρ1,mg (.tup [oW (c.getD k none),.int (((List.range c.length).map fun k=>m.2.getD k 0-m.1.getD k 0).getD k 0)]) (ρ++List.replicate (N-ρ.length) Sl.un)=some ρ1∧me ρ1=.ok (oW ((c.getD k none).map fun x=>x+(m.2.getD k 0-m.1.getD k 0)))),mComp N mg yes me ((List.range c.length).map fun k=>W.tup [oW (c.getD k none),.int (((List.range c.length).map fun k=>m.2.getD k 0-m.1.getD k 0).getD k 0)]) ρ=.ok (lC (aftC c m)):=fun N mg me ρ h=>by
  rw [mComp_all (fun k=>oW ((c.getD k none).map fun x=>x+(m.2.getD k 0-m.1.getD k 0))) _ _ ρ (by simp; omega) (fun k hk=>h k (by simpa using hk))]
  unfold aftC
  exact congrArg (fun l=>R.ok (W.lst l)) (by rw [List.map_map]; rfl)
 rw [e]
 ·exists rp18
 ·intro k hk
  refine ⟨_,rfl,?_⟩
  have hg:((List.range c.length).map fun k=>m.2.getD k 0-m.1.getD k 0).getD k 0=m.2.getD k 0-m.1.getD k 0:=by rw [List.getD_eq_getElem?_getD,List.getElem?_map,List.getElem?_range hk]; rfl
  rw [hg]
  cases c.getD k none with
  | none=>
   exists rp18
   rfl
  | some x=>
   exists rp18
   rfl
noncomputable def anyU (cs:List Cap) (x:Cap):Bool:=cs.any fun d=>undB x d
theorem underany_ok {cs:List Cap} {x:Cap} (hl:∀ d∈cs,d.length=x.length):f_under_any [tC x,.lst (cs.map tC)]=.ok (.bl (anyU cs x)):=by
 have fin:Ok (f_under_any [tC x,.lst (cs.map tC)]) fun v=>v=.bl (anyU cs x):=by
  exists rpB,m_under_any
  refine ok_end (po_fors (fun i ρ=>∃ a2,ρ = [.par (tC x),.par (.lst (cs.map tC)),a2]∧∀ k (hk:k<cs.length),k<i→undB x cs[k]=false) ⟨_,rfl,fun k _ hk=>absurd hk (Nat.not_lt_zero _)⟩ ?_ ?_)
  ·rintro i u ρ hu ⟨a2,rfl,hall⟩
   rw [List.getElem?_map] at hu
   obtain ⟨d,hd,rfl⟩:=Option.map_eq_some_iff.mp hu
   obtain ⟨hi,ed⟩:=List.getElem?_eq_some_iff.mp hd
   have hdm:=List.mem_of_getElem? hd
   have k:=under_ok (cs:=x) (ds:=d) (hl d hdm)
   refine ⟨_,rfl,?_⟩
   exists k
   refine po_if (fun h=>?_) (fun h=>?_)
   ·exists rp18
    have:anyU cs x=true:=List.any_eq_true.mpr ⟨d,hdm,h⟩
    rw [this]
   ·exists rp18
    refine ⟨_,rfl,fun k hk hki=>?_⟩
    by_cases e:k=i
    ·subst e; rw [ed]; exact h
    ·exact hall k hk (by omega)
  ·rintro ρ ⟨a2,rfl,hall⟩
   exists rp18
   have:anyU cs x=false:=by
    unfold anyU
    rw [List.any_eq_false]
    intro d hd
    obtain ⟨k,hk,e⟩:=List.mem_iff_getElem.mp hd
    have:=hall k hk (by rw [List.length_map]; exact hk)
    rw [e] at this
    rw [this]; decide
   rw [this]
 obtain ⟨v,e,rfl⟩:=fin
 exact e
theorem rowG_at {c:Cap} {es:List GEnt} {i:Nat} {e:GEnt} (h:es[i]?=some e):L2.atI (rowsG c es) ((i+1:Nat):Int)=some (gW e):=atW_of (k:=i+1) (by show (es.map gW)[i]?=_; rw [List.getElem?_map,h]; rfl)
theorem rowsG_at {c:Cap} {es:List GEnt} {a:Nat} (h:a≤es.length):∃ x y:W,L2.atI (rowsG c es) (a:Int)=some (.tup [tC (sC c es a),x,y]):=by
 cases a with
 | zero=>exact ⟨.non,.non,atW_of (k:=0) rfl⟩
 | succ a=>
  have he:es[a]?=some es[a]:=List.getElem?_eq_getElem (by omega)
  rw [sC_suc he]
  exact ⟨_,_,rowG_at he⟩
theorem waybG_ok {c:Cap} {es:List GEnt} {n:Nat} (hp:ParG es) (hl:es.length≤100) (hn:n≤es.length):f_way_back [.lst (rowsG c es),.int (n:Int)]=.ok (lI ((wayG es n).map fun (k:Nat)=>(k:Int))):=by
 have fin:Ok (f_way_back [.lst (rowsG c es),.int (n:Int)]) fun v=>v=lI ((wayG es n).map fun (k:Nat)=>(k:Int)):=by
  have hwl:=(wayG_le hp n hn).2
  exists rpB,m_way_back
  refine ok_end (po_seq ?_)
  refine po_while (fun m ρ=>∃ (xs l':List Nat) (w:W) (a3:Sl),ρ = [.par (.lst (rowsG c es)),.par (.int (n:Int)),.own ((xs.map fun (k:Nat)=>(k:Int)).map W.int),a3]∧(a3=.val w∨a3=.par w)∧xs++l'=wayG es n∧((w=.non∧l' = [])∨∃ (n':Nat),w=.int (n':Int)∧l'=wayG es n'∧n'<m∧n'≤es.length)) ?_ (n+1) _ ⟨[],wayG es n,.int (n:Int),.val (.int (n:Int)),rfl,.inl rfl,rfl,.inr ⟨n,rfl,rfl,Nat.lt_succ_self n,hn⟩⟩
  rintro m ρ ⟨xs,l',w,a3,rfl,ha,hx,hc⟩
  rcases hc with ⟨rfl,rfl⟩ | ⟨n',rfl,rfl,hm,hn'⟩
  ·refine ⟨false,?_,?_⟩
   ·rcases ha with rfl | rfl
    ·exists rp18
    ·exists rp18
   ·rw [if_neg Bool.false_ne_true]
    rw [List.append_nil] at hx
    subst hx
    exists rp18
  ·refine ⟨true,?_,?_⟩
   ·rcases ha with rfl | rfl
    ·exists rp18
    ·exists rp18
   ·rw [if_pos rfl]
    have hxl:xs.length≤(wayG es n).length:=by rw [← hx,List.length_append]; omega
    cases n' with
    | zero=>
     have r00:L2.atI (rowsG c es) (((0:Nat)):Int)=some (g0 c):=atW_of (k:=0) rfl
     have b1:L2.atI [tC c,W.non,W.non] 1=some W.non:=rfl
     have hx2:(xs ++ [0]) ++ []=wayG es n:=by rw [← hx,List.append_nil]; rfl
     rcases ha with rfl | rfl
     ·exists r00,b1
      exact ⟨0,by omega,xs ++ [0],[],.non,_,by simp only [List.map_append,List.map_cons,List.map_nil],.inr rfl,hx2,.inl ⟨rfl,rfl⟩⟩
     ·exists r00,b1
      exact ⟨0,by omega,xs ++ [0],[],.non,_,by simp only [List.map_append,List.map_cons,List.map_nil],.inr rfl,hx2,.inl ⟨rfl,rfl⟩⟩
    | succ i=>
     have h:es[i]?=some es[i]:=List.getElem?_eq_getElem (by omega)
     generalize es[i]=e at h
     have r1:=rowG_at (c:=c) h
     have b1:L2.atI [tC e.1,.int (e.2.1:Int),.int (e.2.2:Int)] 1=some (.int (e.2.1:Int)):=rfl
     have hpi:=hp i e h
     have hx2:(xs ++ [i+1])++wayG es e.2.1=wayG es n:=by rw [← hx,wayG_succ hp h,List.append_assoc]; rfl
     rcases ha with rfl | rfl
     ·exists r1,b1
      exact ⟨i+1,by omega,xs ++ [i+1],wayG es e.2.1,.int (e.2.1:Int),_,by simp only [List.map_append,List.map_cons,List.map_nil],.inr rfl,hx2,.inr ⟨e.2.1,rfl,rfl,by omega,by omega⟩⟩
     ·exists r1,b1
      exact ⟨i+1,by omega,xs ++ [i+1],wayG es e.2.1,.int (e.2.1:Int),_,by simp only [List.map_append,List.map_cons,List.map_nil],.inr rfl,hx2,.inr ⟨e.2.1,rfl,rfl,by omega,by omega⟩⟩
 obtain ⟨v,e,rfl⟩:=fin
 exact e
noncomputable def upC (c:Cap) (es:List GEnt) (l:List Nat) (x:Cap):Cap:=l.foldl (fun y q=>raiB y (sC c es q)) x
noncomputable def candG (c:Cap) (ms:List Mv) (es:List GEnt) (a k:Nat):Cap:=upC c es (wayG es a) (aftC (sC c es a) (mvN ms k))
theorem upC_len (c:Cap) (es:List GEnt):∀ (l:List Nat) (x:Cap),(upC c es l x).length=x.length
 | [],_=>rfl
 | q::l,x=>by
  show (upC c es l (raiB x (sC c es q))).length=_
  rw [upC_len c es l,raiB_len]
theorem candG_len (c:Cap) (ms:List Mv) (es:List GEnt) (a k:Nat):(candG c ms es a k).length=(sC c es a).length:=by unfold candG; rw [upC_len,aftC_len]
theorem upC_snoc {c:Cap} {es:List GEnt} {e:GEnt}:∀ (l:List Nat) (x:Cap),(∀ q∈l,q≤es.length)→upC c (es ++ [e]) l x=upC c es l x
 | [],_,_=>rfl
 | q::l,x,h=>by
  show upC c (es ++ [e]) l (raiB x (sC c (es ++ [e]) q))=upC c es l (raiB x (sC c es q))
  rw [sC_snoc (h q List.mem_cons_self),upC_snoc l _ fun q' hq'=>h q' (List.mem_cons_of_mem _ hq')]
theorem candG_snoc {c:Cap} {ms:List Mv} {es:List GEnt} {e:GEnt} {a k:Nat} (hp:ParG es) (hx:e.2.1≤es.length) (ha:a≤es.length):candG c ms (es ++ [e]) a k=candG c ms es a k:=by
 unfold candG
 rw [wayG_snoc hp hx a ha,sC_snoc ha,upC_snoc]
 intro q hq
 have:=(wayG_le hp a ha).1 q hq
 omega
noncomputable def stepG (c:Cap) (ms:List Mv) (es:List GEnt) (a k:Nat):List GEnt:=if (ablC (sC c es a) (mvN ms k)&&!anyU (stC c es) (candG c ms es a k))=true then es ++ [(candG c ms es a k,a,k)] else es
noncomputable def capO (c:Cap):Option GEnt→Cap
 | none=>c
 | some e=>e.1
noncomputable def rowGO (c:Cap):Option GEnt→W
 | none=>g0 c
 | some e=>gW e
theorem rowsG_O (c:Cap) (es:List GEnt):rowsG c es=(none::es.map some).map (rowGO c):=by rw [List.map_cons,List.map_map]; rfl
theorem stC_O (c:Cap) (es:List GEnt):(none::es.map some).map (capO c)=stC c es:=by rw [List.map_cons,List.map_map]; rfl
theorem noLs_rowsG (c:Cap) (es:List GEnt):noLs (rowsG c es)=true:=by
 rw [rowsG_O]
 refine noLs_map (rowGO c) (fun o=>?_) _
 cases o with
 | none=>show (noLs (c.map oW)&&(true&&(true&&true)))=true; rw [noLs_oW]; rfl
 | some e=>show (noLs (e.1.map oW)&&(true&&(true&&true)))=true; rw [noLs_oW]; rfl
theorem sC_len {c:Cap} {es:List GEnt} (hl:∀ e∈es,e.1.length=c.length) {a:Nat} (ha:a≤es.length):(sC c es a).length=c.length:=by
 have:=sC_mem (c:=c) ha
 unfold stC at this
 rcases List.mem_cons.mp this with e | e
 ·rw [e]
 ·obtain ⟨z,hz,ez⟩:=List.mem_map.mp e
  rw [← ez]; exact hl z hz
theorem grow_ok {b:List Int} {ms:List Mv} {es:List GEnt} {a k:Nat} (h6:b.length≤6) (hm:∀ m∈ms,okN b.length m) (hp:ParG es) (hl:∀ e∈es,e.1.length=b.length) (h100:es.length≤90) (ha:a≤es.length) (hk:k<ms.length):f_grow (.tup [tI b,tM_ ms]) (rowsG (b.map some) es) [.int (a:Int),.int (k:Int)]=.ok (rowsG (b.map some) (stepG (b.map some) ms es a k)):=by
 obtain ⟨c,hc⟩:∃ c:Cap,c=b.map some:=⟨_,rfl⟩
 have hcl:c.length=b.length:=by rw [hc,List.length_map]
 rw [← hc]
 refine runIOA_ok fun p=>?_
 have hl':∀ e∈es,e.1.length=c.length:=fun e he=>by rw [hcl]; exact hl e he
 have hsl:=sC_len hl' ha
 have hmk:okN (sC c es a).length (mvN ms k):=by rw [hsl,hcl]; exact getM hm hk
 have a1:L2.atI [tI b,tM_ ms] 1=some (tM_ ms):=rfl
 have ej:L2.atI (ms.map mW) (k:Int)=some (mW (mvN ms k)):=by
  have:=atM (ms:=ms) (r:=(k:Int)) (by omega) (by omega)
  rw [Int.toNat_natCast] at this
  exact this
 obtain ⟨x,y,er⟩:=rowsG_at (c:=c) (es:=es) ha
 have b0:L2.atI [tC (sC c es a),x,y] 0=some (tC (sC c es a)):=rfl
 have k1:=capable_ok (c:=sC c es a) hmk
 have hnl:=noLs_rowsG c es
 unfold runIO
 rw [if_pos ⟨rfl,hnl⟩]
 obtain ⟨rw_,hrw⟩:∃ rw_,rw_=rowsG c es:=⟨_,rfl⟩
 rw [← hrw] at er
 cases hab:ablC (sC c es a) (mvN ms k) with
 | false=>
  rw [hab] at k1
  have e:m_grow p [.par (.tup [tI b,tM_ ms]),.iop p rw_,.par (.int (a:Int)),.par (.int (k:Int)),.un,.un,.un]=.ok (.bk [.par (.tup [tI b,tM_ ms]),.iop p rw_,.par (.int (a:Int)),.par (.int (k:Int)),.par (mW (mvN ms k)),.un,.un]):=by
   exists rpB,m_grow,a1,ej,er,b0,k1
  rw [hrw] at e
  show (match m_grow p [.par (.tup [tI b,tM_ ms]),.iop p (rowsG c es),.par (.int (a:Int)),.par (.int (k:Int)),.un,.un,.un] with | .ok (.nx ρ)=>ioR p ρ | .ok (.bk ρ)=>ioR p ρ | _=>.stuck)=_
  rw [e]
  show (if p=p then R.ok (rowsG c es) else .stuck)=_
  rw [if_pos rfl]
  unfold stepG
  rw [hab]; rfl
 | true=>
  rw [hab] at k1
  have h6':(sC c es a).length≤6:=by omega
  have k2:=capafter_ok h6' hmk hab
  have kw:=waybG_ok (c:=c) hp (by omega) ha
  have hwl:=wayG_le hp a ha
  have hal:(aftC (sC c es a) (mvN ms k)).length=c.length:=by rw [aftC_len,hsl]
  have kU:=underany_ok (cs:=stC c es) (x:=candG c ms es a k) (fun d hd=>by
   rw [candG_len,hsl]
   unfold stC at hd
   rcases List.mem_cons.mp hd with q | q
   ·rw [q]
   ·obtain ⟨z,hz,ez⟩:=List.mem_map.mp q
    rw [← ez]; exact hl' z hz)
  have ekn:∀ N mg me ρ (h:∀ o∈(none::es.map some:List (Option GEnt)),∃ ρ1,mg (rowGO c o) (ρ++List.replicate (N-ρ.length) Sl.un)=some ρ1∧me ρ1=.ok (tC (capO c o))),mComp N mg yes me rw_ ρ=.ok (.lst ((stC c es).map tC)):=fun N mg me ρ h=>by
   rw [hrw,rowsG_O,mComp_all (fun o=>tC (capO c o)) _ _ ρ (by simp; omega) h]
   rw [← stC_O]
   refine congrArg (fun l=>R.ok (W.lst l)) ?_
   rw [List.map_map]; rfl
  have hrl:rw_.length=es.length+1:=by rw [hrw]; simp
  have hsel:∀ q,q≤es.length→∃ x y:W,L2.atI rw_ (q:Int)=some (.tup [tC (sC c es q),x,y]):=fun q hq=>by rw [hrw]; exact rowsG_at hq
  rw [← hrw] at kw
  have po:Po (m_grow p [.par (.tup [tI b,tM_ ms]),.iop p rw_,.par (.int (a:Int)),.par (.int (k:Int)),.un,.un,.un]) (fun ρ=>ρ[1]?=some (.iop p (rowsG c (stepG c ms es a k)))) (fun _=>False):=by
   exists rpB,m_grow,a1,ej,er,b0,k1,k2,kw
   refine po_cut (fun ρ=>∃ a6,ρ = [.par (.tup [tI b,tM_ ms]),.iop p rw_,.par (.int (a:Int)),.par (.int (k:Int)),.par (mW (mvN ms k)),.val (tC (candG c ms es a k)),a6]) (po_nb ?_) ?_
   ·refine po_for (fun i ρ=>∃ a6,ρ = [.par (.tup [tI b,tM_ ms]),.iop p rw_,.par (.int (a:Int)),.par (.int (k:Int)),.par (mW (mvN ms k)),.val (tC (upC c es ((wayG es a).take i) (aftC (sC c es a) (mvN ms k)))),a6]) ⟨_,rfl⟩ ?_ ?_
    ·rintro i u ρ hu ⟨a6,rfl⟩
     rw [List.map_map,List.getElem?_map] at hu
     obtain ⟨q,hq,rfl⟩:=Option.map_eq_some_iff.mp hu
     have hqn:=hwl.1 q (List.mem_of_getElem? hq)
     obtain ⟨x2,y2,er2⟩:=hsel q (by omega)
     have b2:L2.atI [tC (sC c es q),x2,y2] 0=some (tC (sC c es q)):=rfl
     have kr:=raised_ok (cs:=upC c es ((wayG es a).take i) (aftC (sC c es a) (mvN ms k))) (es:=sC c es q) (by rw [upC_len,hal]; exact sC_len hl' (by omega)) (by rw [upC_len,hal]; omega)
     have hst:raiB (upC c es ((wayG es a).take i) (aftC (sC c es a) (mvN ms k))) (sC c es q)=upC c es ((wayG es a).take (i+1)) (aftC (sC c es a) (mvN ms k)):=by
      rw [List.take_add_one,hq]
      unfold upC
      rw [List.foldl_append]; rfl
     rw [hst] at kr
     refine ⟨_,rfl,?_⟩
     have hcq:(W.int∘fun (k:Nat)=>(k:Int)) q=.int (q:Int):=rfl
     exists hcq,er2,b2,kr
     exact ⟨_,rfl⟩
    ·rintro ρ ⟨a6,rfl⟩
     rw [List.length_map,List.length_map,List.take_length]
     exact ⟨_,rfl⟩
   ·rintro ρ ⟨a6,rfl⟩
    exists rp18
    rw [ekn]
    rotate_left
    ·intro o ho
     refine ⟨_,rfl,?_⟩
     cases o with
     | none=>
      have b0:L2.atI [tC c,W.non,W.non] 0=some (tC c):=rfl
      have b1:rowGO c none=.tup [tC c,.non,.non]:=rfl
      have b2:capO c none=c:=rfl
      exists b1,b0,b2,chk_no (show noL (tC c)=true from noLs_oW c)
     | some e=>
      have b0:L2.atI [tC e.1,.int (e.2.1:Int),.int (e.2.2:Int)] 0=some (tC e.1):=rfl
      have b1:rowGO c (some e)=.tup [tC e.1,.int (e.2.1:Int),.int (e.2.2:Int)]:=rfl
      have b2:capO c (some e)=e.1:=rfl
      exists b1,b0,b2,chk_no (show noL (tC e.1)=true from noLs_oW e.1)
    exists kU
    cases hU:anyU (stC c es) (candG c ms es a k) with
    | true=>
     exists rp18
     unfold stepG
     rw [hab,hU,hrw]
     rfl
    | false=>
     exists rp18
     rw [mAppI_ok (ws:=rw_) (w:=gW (candG c ms es a k,a,k)) rfl ?_ (by omega)]
     ·show ((List.map clI _).set 1 _)[1]?=_
      rw [List.getElem?_set_self (by simp)]
      unfold stepG
      rw [hab,hU,hrw]
      show some (Sl.iop p (g0 c::es.map gW ++ [_]))=some (Sl.iop p (g0 c::(es ++ [_]).map gW))
      rw [List.map_append]; rfl
     ·exists rp18
  rw [hrw] at po
  show (match m_grow p [.par (.tup [tI b,tM_ ms]),.iop p (rowsG c es),.par (.int (a:Int)),.par (.int (k:Int)),.un,.un,.un] with | .ok (.nx ρ)=>ioR p ρ | .ok (.bk ρ)=>ioR p ρ | _=>.stuck)=_
  revert po
  cases m_grow p [.par (.tup [tI b,tM_ ms]),.iop p (rowsG c es),.par (.int (a:Int)),.par (.int (k:Int)),.un,.un,.un] with
  | stuck=>exact fun h=>h.elim
  | ex e=>exact fun h=>h.elim
  | ok f=>
   cases f with
   | nx ρ=>
    intro h
    have h:ρ[1]?=some (.iop p (rowsG c (stepG c ms es a k))):=h
    show ioR p ρ=_
    unfold ioR
    rw [h]
    exact if_pos rfl
   | rt w=>exact fun h=>h.elim
   | bk ρ=>exact fun h=>h.elim
   | ct ρ=>exact fun h=>h.elim
structure GK (c:Cap) (ms:List Mv) (es:List GEnt) (A kk:Nat):Prop where
 len:∀ e∈es,e.1.length=c.length
 k8:∀ e∈es,e.2.2<ms.length
 lt:∀ e∈es,e.2.1<A∨(e.2.1=A∧e.2.2<kk)
 inc:es.Pairwise fun x y=>cdG x<cdG y
 par:ParG es
 beh:∀ (i:Nat) (e:GEnt),es[i]?=some e→ablC (sC c es e.2.1) (mvN ms e.2.2)=true∧e.1=candG c ms es e.2.1 e.2.2∧∀ j,j≤i→undB e.1 (sC c es j)=false
 set:∀ a k,(a<A∨(a=A∧k<kk))→k<ms.length→ablC (sC c es a) (mvN ms k)=true→(∃ e∈es,e.2=(a,k))∨∃ j,j≤es.length∧(∀ (i:Nat) (e:GEnt),j=i+1→es[i]?=some e→cdG e<a*8+k)∧undB (candG c ms es a k) (sC c es j)=true
theorem GK.start (c:Cap) (ms:List Mv):GK c ms [] 0 0 where
 len:=by simp
 k8:=by simp
 lt:=by simp
 inc:=List.Pairwise.nil
 par:=fun i e h=>by simp at h
 beh:=fun i e h=>by simp at h
 set:=fun a k h=>by omega
section
variable {c:Cap} {ms:List Mv} {es:List GEnt} {A kk:Nat}
theorem GK.below (h:GK c ms es A kk) (h8:ms.length≤8):∀ e∈es,cdG e<A*8+kk:=fun e he=>by
 have:=h.k8 e he
 unfold cdG
 rcases h.lt e he with q | ⟨q,q'⟩
 ·omega
 ·omega
theorem GK.stay (h:GK c ms es A kk) (h8:ms.length≤8) (hno:ablC (sC c es A) (mvN ms kk)=true→anyU (stC c es) (candG c ms es A kk)=true):GK c ms es A (kk+1) where
 len:=h.len
 k8:=h.k8
 lt:=fun e he=>by
  rcases h.lt e he with q | ⟨q,q'⟩
  ·exact .inl q
  ·exact .inr ⟨q,by omega⟩
 inc:=h.inc
 par:=h.par
 beh:=h.beh
 set:=fun a k hj hk hab=>by
  by_cases e:a=A∧k=kk
  ·obtain ⟨rfl,rfl⟩:=e
   obtain ⟨d,hd,hu⟩:=List.any_eq_true.mp (hno hab)
   obtain ⟨j,hj,ej⟩:=List.mem_iff_getElem.mp hd
   rw [stC_len] at hj
   refine .inr ⟨j,by omega,fun i e _ he=>h.below h8 e (List.mem_of_getElem? he),?_⟩
   have:sC c es j=d:=by unfold sC; rw [List.getD_eq_getElem?_getD,List.getElem?_eq_getElem (by rw [stC_len]; exact hj),ej]; rfl
   rw [this]; exact hu
  ·exact h.set a k (by omega) hk hab
theorem GK.snoc (h:GK c ms es A kk) (h8:ms.length≤8) (hA:A≤es.length) (hk:kk<ms.length) (hab:ablC (sC c es A) (mvN ms kk)=true) (hno:anyU (stC c es) (candG c ms es A kk)=false):GK c ms (es ++ [(candG c ms es A kk,A,kk)]) A (kk+1):=by
 have hS:∀ a,a≤es.length→sC c (es ++ [(candG c ms es A kk,A,kk)]) a=sC c es a:=fun a ha=>sC_snoc ha
 have hC:∀ a k,a≤es.length→candG c ms (es ++ [(candG c ms es A kk,A,kk)]) a k=candG c ms es a k:=fun a k ha=>candG_snoc h.par hA ha
 have hpar:∀ (i:Nat) (e:GEnt),es[i]?=some e→e.2.1≤es.length:=fun i e he=>by
  have:=h.par i e he
  have:=(List.getElem?_eq_some_iff.mp he).1
  omega
 have cases_:∀ (i:Nat) (e:GEnt),(es ++ [(candG c ms es A kk,A,kk)])[i]?=some e→(es[i]?=some e∧i<es.length)∨(i=es.length∧e=(candG c ms es A kk,A,kk)):=fun i e he=>by
  by_cases hi:i<es.length
  ·rw [List.getElem?_append_left hi] at he; exact .inl ⟨he,hi⟩
  ·have hi':=(List.getElem?_eq_some_iff.mp he).1
   rw [List.length_append,List.length_singleton] at hi'
   have:i=es.length:=by omega
   subst this
   rw [List.getElem?_append_right (Nat.le_refl _),Nat.sub_self] at he
   cases he; exact .inr ⟨rfl,rfl⟩
 refine ⟨fun e he=>?_,fun e he=>?_,fun e he=>?_,?_,fun i e he=>?_,fun i e he=>?_,fun a k hj hkm hab'=>?_⟩
 ·rcases List.mem_append.mp he with q | q
  ·exact h.len e q
  ·rw [List.mem_singleton.mp q]
   show (candG c ms es A kk).length=_
   rw [candG_len]; exact sC_len h.len hA
 ·rcases List.mem_append.mp he with q | q
  ·exact h.k8 e q
  ·rw [List.mem_singleton.mp q]; exact hk
 ·rcases List.mem_append.mp he with q | q
  ·rcases h.lt e q with q1 | ⟨q1,q2⟩
   ·exact .inl q1
   ·exact .inr ⟨q1,by omega⟩
  ·rw [List.mem_singleton.mp q]; exact .inr ⟨rfl,Nat.lt_succ_self kk⟩
 ·refine List.pairwise_append.mpr ⟨h.inc,List.pairwise_singleton _ _,fun x hx y hy=>?_⟩
  rw [List.mem_singleton.mp hy]
  exact h.below h8 x hx
 ·rcases cases_ i e he with ⟨q,_⟩ | ⟨rfl,rfl⟩
  ·exact h.par i e q
  ·exact hA
 ·rcases cases_ i e he with ⟨q,hi⟩ | ⟨rfl,rfl⟩
  ·obtain ⟨p1,p2,p3⟩:=h.beh i e q
   have hp:=hpar i e q
   rw [hS _ hp,hC _ _ hp]
   exact ⟨p1,p2,fun j hj=>by rw [hS j (by omega)]; exact p3 j hj⟩
  ·refine ⟨by rw [hS _ hA]; exact hab,by rw [hC _ _ hA],fun j hj=>?_⟩
   rw [hS j hj]
   unfold anyU at hno
   rw [List.any_eq_false] at hno
   have:=hno _ (sC_mem hj)
   simpa using this
 ·have ha:a≤es.length:=by omega
  rw [hS a ha] at hab'
  rw [hC a k ha]
  by_cases e:a=A∧k=kk
  ·obtain ⟨rfl,rfl⟩:=e
   exact .inl ⟨_,List.mem_append_right _ (List.mem_singleton_self _),rfl⟩
  ·rcases h.set a k (by omega) hkm hab' with ⟨e,he,q⟩ | ⟨j,hj,h1,h2⟩
   ·exact .inl ⟨e,List.mem_append_left _ he,q⟩
   ·refine .inr ⟨j,by rw [List.length_append,List.length_singleton]; omega,fun i e hji he=>?_,by rw [hS j hj]; exact h2⟩
    rcases cases_ i e he with ⟨q,_⟩ | ⟨rfl,_⟩
    ·exact h1 i e hji q
    ·omega
theorem GK.step (h:GK c ms es A kk) (h8:ms.length≤8) (hA:A≤es.length) (hk:kk<ms.length):GK c ms (stepG c ms es A kk) A (kk+1):=by
 unfold stepG
 cases hab:ablC (sC c es A) (mvN ms kk) with
 | false=>
  rw [if_neg (by simp)]
  exact h.stay h8 fun q=>by rw [hab] at q; cases q
 | true=>
  cases hU:anyU (stC c es) (candG c ms es A kk) with
  | true=>
   rw [if_neg (by simp)]
   exact h.stay h8 fun _=>hU
  | false=>
   rw [if_pos (by simp)]
   exact h.snoc h8 hA hk hab hU
theorem GK.next (h:GK c ms es A ms.length):GK c ms es (A+1) 0 where
 len:=h.len
 k8:=h.k8
 lt:=fun e he=>by
  have:=h.k8 e he
  rcases h.lt e he with q | ⟨q,q'⟩
  ·exact .inl (by omega)
  ·exact .inl (by omega)
 inc:=h.inc
 par:=h.par
 beh:=h.beh
 set:=fun a k hj hk hab=>h.set a k (by omega) hk hab
theorem stepG_len (c:Cap) (ms:List Mv) (es:List GEnt) (a k:Nat):es.length≤(stepG c ms es a k).length∧(stepG c ms es a k).length≤es.length+1:=by
 unfold stepG
 split
 ·rw [List.length_append,List.length_singleton]; omega
 ·omega
end
theorem growth_ok2 {b:List Int} {ms:List Mv} {most:Nat} (h6:b.length≤6) (hm:∀ m∈ms,okN b.length m) (h8:ms.length≤8) (h1:1≤most) (h30:most≤30):Ok (f_growth [.tup [tI b,tM_ ms],.int (most:Int)]) fun w=>(w=.non∧∃ es A,GK (b.map some) ms es A 0∧most<es.length+1)∨∃ es,w=.lst (rowsG (b.map some) es)∧es.length+1≤most∧GK (b.map some) ms es (es.length+1) 0:=by
 have hcl:(b.map some).length=b.length:=List.length_map ..
 have a0:L2.atI [tI b,tM_ ms] 0=some (tI b):=rfl
 have a1:L2.atI [tI b,tM_ ms] 1=some (tM_ ms):=rfl
 have gr:∀ (es:List GEnt) (A k:Nat),GK (b.map some) ms es A k→A≤es.length→k<ms.length→es.length≤90→f_grow (.tup [tI b,tM_ ms]) (rowsG (b.map some) es) [.int (A:Int),.int (k:Int)]=.ok (rowsG (b.map some) (stepG (b.map some) ms es A k)):=fun es A k hK hA hk hl=>grow_ok h6 hm hK.par (fun e he=>by rw [← hcl]; exact hK.len e he) hl hA hk
 have hb0:(.lst [.tup [tI b,.non,.non]]:W)=.lst (rowsG (b.map some) []):=by rw [tI_tC]; rfl
 generalize hc:b.map some=c at *
 exists rpB,m_growth,a0,chk_no (noL_tI b)
 refine ok_end (po_seq ?_)
 refine po_while (fun m ρ=>∃ (es:List GEnt) (at_:Nat) (a4:Sl),ρ = [.par (.tup [tI b,tM_ ms]),.par (.int (most:Int)),.own (rowsG c es),.val (.int (at_:Int)),a4]∧GK c ms es at_ 0∧at_≤es.length+1∧es.length+1≤most∧m+at_=102) ?_ 102 _ ⟨[],0,_,by rw [show rowsG c [] = [.tup [tI b,.non,.non]] from by injection hb0 with h; exact h.symm]; rfl,GK.start c ms,by simp,by simpa using h1,rfl⟩
 rintro m ρ ⟨es,at_,a4,rfl,hK,hat,hmost,hmm⟩
 have hrl:(rowsG c es).length=es.length+1:=by simp
 by_cases hlt:at_<es.length+1
 ·refine ⟨true,?_,?_⟩
  ·have d1:decide ((at_:Int)<((es.length+1:Nat):Int))=true:=decide_eq_true (by omega)
   exists hrl,d1
  ·rw [if_pos rfl]
   exists a1
   refine po_cut (fun ρ=>∃ (es:List GEnt) (a4:Sl),ρ = [.par (.tup [tI b,tM_ ms]),.par (.int (most:Int)),.own (rowsG c es),.val (.int (at_:Int)),a4]∧GK c ms es at_ ms.length∧at_≤es.length∧es.length≤60) ?_ ?_
   ·refine po_for (fun i ρ=>∃ (es:List GEnt) (a4:Sl),ρ = [.par (.tup [tI b,tM_ ms]),.par (.int (most:Int)),.own (rowsG c es),.val (.int (at_:Int)),a4]∧GK c ms es at_ i∧at_≤es.length∧es.length≤30+i) ⟨es,_,rfl,hK,by omega,by omega⟩ ?_ ?_
    ·rintro i u ρ hu ⟨es,a4,rfl,hK,hA,hl⟩
     obtain ⟨hi,rfl⟩:=rng_at hu
     have kg:=gr es at_ i hK hA hi (by omega)
     have hsl:=stepG_len c ms es at_ i
     refine ⟨_,rfl,?_⟩
     obtain ⟨rw_,hrw⟩:∃ rw_,rw_=rowsG c es:=⟨_,rfl⟩
     rw [← hrw] at kg ⊢
     exists kg
     exact ⟨stepG c ms es at_ i,_,rfl,hK.step h8 hA hi,by omega,by omega⟩
    ·rintro ρ ⟨es,a4,rfl,hK,hA,hl⟩
     simp only [List.length_map,List.length_range] at hK hl
     exact ⟨es,_,rfl,hK,hA,by omega⟩
   ·rintro ρ ⟨es,a4,rfl,hK,hA,hl⟩
    have hrl:(rowsG c es).length=es.length+1:=by simp
    exists hrl
    refine po_ifs (fun h=>?_) (fun h=>?_)
    ·have h:=of_decide_eq_true h
     exists rp18
     exact .inl ⟨es,at_+1,hK.next,by omega⟩
    ·have h:=of_decide_eq_false h
     exists rp18
     exact ⟨101-at_,by omega,es,at_+1,_,by rw [show ((at_+1:Nat):Int)=(at_:Int)+1 by omega],hK.next,by omega,by omega,by omega⟩
 ·refine ⟨false,?_,?_⟩
  ·have d1:decide ((at_:Int)<((es.length+1:Nat):Int))=false:=decide_eq_false (by omega)
   exists hrl,d1
  ·rw [if_neg Bool.false_ne_true]
   exists rp18
   have:at_=es.length+1:=by omega
   subst this
   exact .inr ⟨es,rfl,hmost,hK⟩
theorem growth_ok {b:List Int} {ms:List Mv} {most:Nat} (h6:b.length≤6) (hm:∀ m∈ms,okN b.length m) (h8:ms.length≤8) (h1:1≤most) (h30:most≤30):Ok (f_growth [.tup [tI b,tM_ ms],.int (most:Int)]) fun w=>w=.non∨∃ es,w=.lst (rowsG (b.map some) es)∧es.length+1≤most∧GK (b.map some) ms es (es.length+1) 0:=by
 obtain ⟨w,e,h⟩:=growth_ok2 h6 hm h8 h1 h30
 refine ⟨w,e,?_⟩
 rcases h with ⟨h,_⟩ | h
 ·exact .inl h
 ·exact .inr h
section
variable {c:Cap} {ms:List Mv} {es fs:List GEnt} {A B kk jj:Nat}
end
theorem cellm_ok {ns:List Int} {k:Int}:Ok (f__law_cell_at [.scr (ns.map W.int),.int k]) fun w=>∃ z:Int,w=.int z:=by
 by_cases hl:0<(ns.length:Int)
 ·have m0:0≤k%(ns.length:Int):=Int.emod_nonneg _ (by omega)
  have m1:k%(ns.length:Int)<(ns.length:Int):=Int.emod_lt_of_pos _ hl
  exists rpB,m__law_cell_at,decide_eq_true hl
  exact ⟨_,rfl,_,rfl⟩
 ·exists rpB,m__law_cell_at,decide_eq_false hl
  exact ⟨_,rfl,_,rfl⟩
theorem sqk {k:Int} (h0:0≤k) (h1:k≤1000):0≤k*k∧k*k≤1000000:=⟨Int.mul_nonneg h0 h0,by
 have:=Int.mul_le_mul h1 h1 h0 (by omega:(0:Int)≤1000)
 omega⟩
theorem draw_ok {ns:List Int} {k m:Int} (h0:0≤k) (h1:k≤1000) (hm:0<m):Ok (f__law_draw [.scr (ns.map W.int),.int k,.int m]) fun w=>∃ z:Int,w=.int z∧0≤z∧z<m:=by
 obtain ⟨_,e1,c,rfl⟩:=cellm_ok (ns:=ns) (k:=k)
 have:=sqk h0 h1
 exists rpB,m__law_draw,e1
 exact ⟨_,rfl,_,rfl,Int.emod_nonneg _ (by omega),Int.emod_lt_of_pos _ hm⟩
theorem nn_snoc {xs:List Int} {z:Int} (h:nn xs) (hz:0≤z):nn (xs ++ [z]):=fun x hx=>by
 rcases List.mem_append.mp hx with q | q
 ·exact h x q
 ·rw [List.mem_singleton.mp q]; exact hz
noncomputable def ub (xs:List Int):Prop:=∀ x∈xs,x≤10000000000
theorem ub_snoc {xs:List Int} {z:Int} (h:ub xs) (hz:z≤10000000000):ub (xs ++ [z]):=fun x hx=>by
 rcases List.mem_append.mp hx with q | q
 ·exact h x q
 ·rw [List.mem_singleton.mp q]; exact hz
theorem numbers_ok {ns mn:List Int} {a s:Int} {n:Nat} (hn:n≤6) (ha:0≤a) (ha1:a≤300) (hs0:0≤s) (hs1:s≤1000000000) (hml:0<mn.length) (hmn:nn mn) (hm3:∀ x∈mn,x≤3):Ok (f__law_numbers [.scr (ns.map W.int),.int a,.int (n:Int),lI mn,.int s]) fun w=>∃ xs:List Int,w=tI xs∧xs.length=n∧nn xs∧ub xs:=by
 exists rpB,m__law_numbers
 refine ok_end (po_fors (fun i ρ=>∃ (xs:List Int) (a6 a7:Sl),ρ = [.par (.scr (ns.map W.int)),.par (.int a),.par (.int (n:Int)),.par (lI mn),.par (.int s),.own (xs.map W.int),a6,a7]∧xs.length=i∧nn xs∧ub xs) ⟨[],_,_,rfl,rfl,(fun x hx=>by cases hx),fun x hx=>by cases hx⟩ ?_ ?_)
 ·rintro i u ρ hu ⟨xs,a6,a7,rfl,hxl,hxn,hxu⟩
  obtain ⟨hi,rfl⟩:=rng_at hu
  obtain ⟨_,e1,d,rfl,hd0,hd1⟩:=draw_ok (ns:=ns) (k:=a+(i:Int)) (m:=(mn.length:Int)) (by omega) (by omega) (by omega)
  obtain ⟨_,e2,c,rfl⟩:=cellm_ok (ns:=ns) (k:=a+(i:Int))
  have hh:0≤mn.getD d.toNat 0:=mem_getD hmn (by omega)
  have hh3:mn.getD d.toNat 0≤3:=mem_getD (P:=fun x=>x≤3) hm3 (by omega)
  refine ⟨_,rfl,?_⟩
  exists e1
  generalize mn.getD d.toNat 0=held at hh hh3
  refine po_ifs (fun h=>?_) (fun h=>?_)
  ·exists rp18
   rw [e2]
   exists rp18
   exact ⟨xs ++ [(c+(i:Int))*48271%1000000001],_,_,by rw [List.map_append],by simp [hxl],nn_snoc hxn (by omega),ub_snoc hxu (by omega)⟩
  ·exists rp18
   have:=Int.mul_le_mul hh3 hs1 hs0 (by omega:(0:Int)≤3)
   exact ⟨xs ++ [held*s],_,_,by rw [List.map_append],by simp [hxl],nn_snoc hxn (Int.mul_nonneg hh hs0),ub_snoc hxu (by omega)⟩
 ·rintro ρ ⟨xs,a6,a7,rfl,hxl,hxn,hxu⟩
  rw [List.length_map,List.length_range] at hxl
  exists rp18
  exact ⟨xs,rfl,hxl,hxn,hxu⟩
theorem scale_ok {ns:List Int}:Ok (f__law_scale [.scr (ns.map W.int)]) fun w=>∃ z:Int,w=.int z∧0≤z∧z≤1000000000:=by
 obtain ⟨_,e1,d,rfl,hd0,hd1⟩:=draw_ok (ns:=ns) (k:=2) (m:=8) (by omega) (by omega) (by omega)
 obtain ⟨_,e2,c,rfl⟩:=cellm_ok (ns:=ns) (k:=2)
 exists rpB,m__law_scale,e1
 refine ok_end (po_ifs (fun h=>?_) (fun h=>?_))
 ·exists rp18
  exact ⟨_,rfl,by omega,by omega⟩
 exists rp18
 refine po_ifs (fun h=>?_) (fun h=>?_)
 ·exists e2
  exact ⟨_,rfl,by omega,by omega⟩
 ·exists rp18
  exact ⟨_,rfl,by omega,by omega⟩
theorem pl8 {d:Int} (h0:0≤d) (h:d<8):∃ p:Nat,L2.atI [W.int 2,W.int 3,W.int 1,W.int 5,W.int 3,W.int 4,W.int 2,W.int 6] d=some (.int (p:Int))∧(1≤p∧p≤6):=by
 have:d=0∨d=1∨d=2∨d=3∨d=4∨d=5∨d=6∨d=7:=by omega
 rcases this with rfl | rfl | rfl | rfl | rfl | rfl | rfl | rfl
 ·exact ⟨2,rfl,by decide⟩
 ·exact ⟨3,rfl,by decide⟩
 ·exact ⟨1,rfl,by decide⟩
 ·exact ⟨5,rfl,by decide⟩
 ·exact ⟨3,rfl,by decide⟩
 ·exact ⟨4,rfl,by decide⟩
 ·exact ⟨2,rfl,by decide⟩
 ·exact ⟨6,rfl,by decide⟩
theorem mv11 {d:Int} (h0:0≤d) (h:d<11):∃ p:Nat,L2.atI [W.int 3,W.int 2,W.int 4,W.int 1,W.int 3,W.int 5,W.int 2,W.int 8,W.int 0,W.int 6,W.int 7] d=some (.int (p:Int))∧p≤8:=by
 have:d=0∨d=1∨d=2∨d=3∨d=4∨d=5∨d=6∨d=7∨d=8∨d=9∨d=10:=by omega
 rcases this with rfl | rfl | rfl | rfl | rfl | rfl | rfl | rfl | rfl | rfl | rfl
 ·exact ⟨3,rfl,by decide⟩
 ·exact ⟨2,rfl,by decide⟩
 ·exact ⟨4,rfl,by decide⟩
 ·exact ⟨1,rfl,by decide⟩
 ·exact ⟨3,rfl,by decide⟩
 ·exact ⟨5,rfl,by decide⟩
 ·exact ⟨2,rfl,by decide⟩
 ·exact ⟨8,rfl,by decide⟩
 ·exact ⟨0,rfl,by decide⟩
 ·exact ⟨6,rfl,by decide⟩
 ·exact ⟨7,rfl,by decide⟩
theorem menu_nn {l:List Int} (h:l.all (fun x=>decide (0≤x))=true):nn l:=fun x hx=>of_decide_eq_true (List.all_eq_true.mp h x hx)
theorem nn_set {xs:List Int} {j:Nat} {z:Int} (h:nn xs) (hz:0≤z):nn (xs.set j z):=fun x hx=>by
 rcases List.mem_or_eq_of_mem_set hx with q | q
 ·exact h x q
 ·rw [q]; exact hz
theorem gmoor_ok {ns:List Int}:Ok (f__law_moor [.scr (ns.map W.int)]) fun w=>∃ (b:List Int) (ms:List Mv),w=.tup [tI b,tM_ ms]∧1≤b.length∧b.length≤6∧nn b∧(∀ m∈ms,okN b.length m)∧ms.length≤8∧∀ m∈ms,ub m.1∧ub m.2:=by
 obtain ⟨_,e0,d0,rfl,h00,h01⟩:=draw_ok (ns:=ns) (k:=0) (m:=8) (by omega) (by omega) (by omega)
 obtain ⟨_,e1,d1,rfl,h10,h11⟩:=draw_ok (ns:=ns) (k:=1) (m:=11) (by omega) (by omega) (by omega)
 obtain ⟨_,e9,d9,rfl,h90,h91⟩:=draw_ok (ns:=ns) (k:=49) (m:=8) (by omega) (by omega) (by omega)
 obtain ⟨_,ec,c,rfl⟩:=cellm_ok (ns:=ns) (k:=48)
 obtain ⟨_,es,sc,rfl,hs0,hs1⟩:=scale_ok (ns:=ns)
 obtain ⟨p,hp,hp1,hp6⟩:=pl8 h00 h01
 obtain ⟨q,hq,hq8⟩:=mv11 h10 h11
 exists rpB,m__law_moor,e0,hp,es,e1,hq
 refine ok_end (po_fors (fun i ρ=>∃ (ms:List Mv) (a4 a5 a6 a7:Sl),ρ = [.par (.scr (ns.map W.int)),.val (.int (p:Int)),.val (.int sc),.own (ms.map mW),a4,a5,a6,a7,.un]∧(∀ m∈ms,okN p m)∧ms.length=i∧∀ m∈ms,ub m.1∧ub m.2) ⟨[],_,_,_,_,rfl,by simp,rfl,by simp⟩ ?_ ?_)
 ·rintro i u ρ hu ⟨ms,a4,a5,a6,a7,rfl,hms,hml,hmu⟩
  obtain ⟨hi,rfl⟩:=rng_at hu
  have hpr:0≤(p:Int)*(2*(i:Int)+1)∧(p:Int)*(2*(i:Int)+1)≤6*17:=⟨Int.mul_nonneg (by omega) (by omega),Int.mul_le_mul (by omega) (by omega) (by omega) (by omega)⟩
  obtain ⟨_,e5,t,rfl,htl,htn,htu⟩:=numbers_ok (ns:=ns) (mn:=[0,1,0,2,1,0]) (a:=5+(p:Int)*(2*(i:Int)+1)) (s:=sc) hp6 (by omega) (by omega) hs0 hs1 (by decide) (menu_nn (by decide)) (by decide)
  obtain ⟨_,e6,u,rfl,hul,hun,huu⟩:=numbers_ok (ns:=ns) (mn:=[1,0,0,1,2,0]) (a:=5+(p:Int)*(2*(i:Int)+1)+(p:Int)) (s:=sc) hp6 (by omega) (by omega) hs0 hs1 (by decide) (menu_nn (by decide)) (by decide)
  have e5:f__law_numbers [.scr (ns.map W.int),.int (5+(p:Int)*(2*(i:Int)+1)),.int (p:Int),.lst [.int 0,.int 1,.int 0,.int 2,.int 1,.int 0],.int sc]=.ok (tI t):=e5
  have e6:f__law_numbers [.scr (ns.map W.int),.int (5+(p:Int)*(2*(i:Int)+1)+(p:Int)),.int (p:Int),.lst [.int 1,.int 0,.int 0,.int 1,.int 2,.int 0],.int sc]=.ok (tI u):=e6
  refine ⟨_,rfl,?_⟩
  exists e5,e6
  refine ⟨ms ++ [(t,u)],_,_,_,_,by rw [List.map_append]; rfl,fun m hm=>?_,by simp [hml],fun m hm=>?_⟩
  ·rcases List.mem_append.mp hm with q | q
   ·exact hms m q
   ·rw [List.mem_singleton.mp q]; exact ⟨htl,hul,htn,hun⟩
  ·rcases List.mem_append.mp hm with q | q
   ·exact hmu m q
   ·rw [List.mem_singleton.mp q]; exact ⟨htu,huu⟩
 ·rintro ρ ⟨ms,a4,a5,a6,a7,rfl,hms,hml,hmu⟩
  rw [List.length_map,List.length_range] at hml
  obtain ⟨_,e5,t,rfl,htl,htn,htu⟩:=numbers_ok (ns:=ns) (mn:=[1,0,2,1,3,0]) (a:=5) (s:=sc) hp6 (by omega) (by omega) hs0 hs1 (by decide) (menu_nn (by decide)) (by decide)
  have e5:f__law_numbers [.scr (ns.map W.int),.int 5,.int (p:Int),.lst [.int 1,.int 0,.int 2,.int 1,.int 3,.int 0],.int sc]=.ok (tI t):=e5
  obtain ⟨_,e8,d8,rfl,h80,h81⟩:=draw_ok (ns:=ns) (k:=48) (m:=(p:Int)) (by omega) (by omega) (by omega)
  exists e5,e9
  refine po_cut (fun ρ=>∃ (b:List Int),ρ = [.par (.scr (ns.map W.int)),.val (.int (p:Int)),.val (.int sc),.own (ms.map mW),a4,a5,a6,a7,.own (b.map W.int)]∧b.length=p∧nn b) ?_ ?_
  ·refine po_if (fun h=>?_) (fun h=>?_)
   ·exists ec,e8
    exact ⟨t.set d8.toNat (c*982451653%1000000000000000000000000000000000000000000000000000000000000),rfl,by rw [List.length_set]; exact htl,nn_set htn (Int.emod_nonneg _ (by decide))⟩
   ·exists rp18
    exact ⟨t,rfl,htl,htn⟩
  rintro ρ ⟨b,rfl,hbl,hbn⟩
  exists chkT_no (noLs_M ms),chk_no (noL_tI b)
  exact ⟨b,ms,rfl,by omega,by omega,hbn,by rw [hbl]; exact hms,by omega,hmu⟩
theorem ub_at {xs:List Int} (h:ub xs) (k:Nat):xs.getD k 0≤10000000000:=by
 by_cases hk:k<xs.length
 ·exact mem_getD (P:=fun x=>x≤10000000000) h hk
 ·rw [List.getD_eq_getElem?_getD]; simp [hk]
noncomputable def pz (l:List Nat):List Int:=l.map fun (k:Nat)=>(k:Int)
theorem pz_len (l:List Nat):(pz l).length=l.length:=by unfold pz; rw [List.length_map]
theorem pz_W (l:List Nat):(pz l).map W.int=l.map fun (q:Nat)=>W.int (q:Int):=by unfold pz; rw [List.map_map]; rfl
noncomputable def plc (x h:Cap):List Nat:=(List.range x.length).filter fun k=>decide (h.getD k none≠x.getD k none)
noncomputable def lfs (c:Cap) (es:List GEnt):List Nat→Cap→List (Nat×List Nat)
 | [],_=>[]
 | q::l,x=>(if plc x (raiB x (sC c es q)) = [] then [] else [(q,plc x (raiB x (sC c es q)))])++lfs c es l (raiB x (sC c es q))
noncomputable abbrev lfT (p:Nat×List Nat):W:=.tup [.int (p.1:Int),tI (pz p.2)]
theorem plc_len (x h:Cap):(plc x h).length≤x.length:=by
 unfold plc
 have:=List.length_filter_le (fun k=>decide (h.getD k none≠x.getD k none)) (List.range x.length)
 rwa [List.length_range] at this
theorem fEq_oW (a b:Option Int):fEq true (oW a) (oW b)=.ok (.bl (decide (a≠b))):=by
 cases a with
 | none=>
  cases b with
  | none=>rfl
  | some y=>rw [show oW none=W.non from rfl,show oW (some y)=W.int y from rfl,fEq_ni]; rfl
 | some x=>
  cases b with
  | none=>rw [show oW none=W.non from rfl,show oW (some x)=W.int x from rfl,fEq_in]; rfl
  | some y=>
   rw [show oW (some x)=W.int x from rfl,show oW (some y)=W.int y from rfl,fEq_ii]
   by_cases h:x=y <;> simp [h]
theorem atO {cs:List (Option Int)} {k:Nat} (h:k<cs.length):L2.atI (cs.map oW) (k:Int)=some (oW (cs.getD k none)):=atW_of (by rw [List.getElem?_map,List.getD_eq_getElem?_getD,List.getElem?_eq_getElem h]; rfl)
theorem unr_ok {b:List Int} {ms:List Mv} {c:Cap} {es:List GEnt} {A kk i:Nat} {e:GEnt} (hK:GK c ms es A kk) (h6:c.length≤6) (hm:∀ m∈ms,okN c.length m) (he:es[i]?=some e):f_unraised [.tup [tI b,tM_ ms],.lst (rowsG c es),.int ((i+1:Nat):Int)]=.ok (tC (aftC (sC c es e.2.1) (mvN ms e.2.2))):=by
 have hi:=(List.getElem?_eq_some_iff.mp he).1
 have hem:=List.mem_of_getElem? he
 have hp:=hK.par i e he
 have hk:=hK.k8 e hem
 have hs:=sC_len hK.len (a:=e.2.1) (by omega)
 obtain ⟨hab,_,_⟩:=hK.beh i e he
 have r1:=rowG_at (c:=c) he
 obtain ⟨x,y,er⟩:=rowsG_at (c:=c) (es:=es) (a:=e.2.1) (by omega)
 have a0:L2.atI [tC (sC c es e.2.1),x,y] 0=some (tC (sC c es e.2.1)):=rfl
 have a1:L2.atI [tI b,tM_ ms] 1=some (tM_ ms):=rfl
 have b1:L2.atI [tC e.1,.int (e.2.1:Int),.int (e.2.2:Int)] 1=some (.int (e.2.1:Int)):=rfl
 have b2:L2.atI [tC e.1,.int (e.2.1:Int),.int (e.2.2:Int)] 2=some (.int (e.2.2:Int)):=rfl
 have ej:L2.atI (ms.map mW) (e.2.2:Int)=some (mW (mvN ms e.2.2)):=by
  have:=atM (ms:=ms) (r:=(e.2.2:Int)) (by omega) (by omega)
  rw [Int.toNat_natCast] at this
  exact this
 have k:=capafter_ok (c:=sC c es e.2.1) (m:=mvN ms e.2.2) (by omega) (by rw [hs]; exact getM hm hk) hab
 obtain ⟨rw_,hrw⟩:∃ rw_,rw_=rowsG c es:=⟨_,rfl⟩
 rw [← hrw] at r1 er
 rw [← hrw]
 exists rpB,m_unraised,r1,b1,er,a0,a1,b2,ej,k
theorem cut1 (l:List Nat) (q:Nat):cutI (pz (q::l)) (some 1) none=pz l:=by
 unfold cutI
 rw [show (1:Int)=((1:Nat):Int) from rfl,HT.sIx_nat,HT.sIx_none]
 have:min 1 (pz (q::l)).length=1:=by rw [pz_len,List.length_cons]; omega
 rw [this]
 show (pz l).take _=_
 exact List.take_of_length_le (by rw [pz_len,pz_len,List.length_cons]; omega)
theorem liftsof_ok {b:List Int} {ms:List Mv} {c:Cap} {es:List GEnt} {A kk i:Nat} {e:GEnt} (hK:GK c ms es A kk) (h6:c.length≤6) (hm:∀ m∈ms,okN c.length m) (h100:es.length≤90) (he:es[i]?=some e):f_lifts_of [.tup [tI b,tM_ ms],.lst (rowsG c es),.int ((i+1:Nat):Int)]=.ok (.lst ((lfs c es (wayG es e.2.1) (aftC (sC c es e.2.1) (mvN ms e.2.2))).map lfT)):=by
 have fin:Ok (f_lifts_of [.tup [tI b,tM_ ms],.lst (rowsG c es),.int ((i+1:Nat):Int)]) fun v=>v=.lst ((lfs c es (wayG es e.2.1) (aftC (sC c es e.2.1) (mvN ms e.2.2))).map lfT):=by
  have hi:=(List.getElem?_eq_some_iff.mp he).1
  have hp:=hK.par i e he
  have ku:=unr_ok (b:=b) hK h6 hm he
  have kw:=waybG_ok (c:=c) (n:=i+1) hK.par (by omega) (by omega)
  have hws:=wayG_succ hK.par he
  have hcut:=cut1 (wayG es e.2.1) (i+1)
  have hwl:=wayG_le hK.par e.2.1 (by omega)
  have hs:=sC_len hK.len (a:=e.2.1) (by omega)
  have kw:f_way_back [.lst (rowsG c es),.int ((i+1:Nat):Int)]=.ok (lI (pz ((i+1)::wayG es e.2.1))):=by rw [hws] at kw; exact kw
  have z0:decide (((i+1:Nat):Int)=0)=false:=decide_eq_false (by omega)
  have hsel:∀ q,q≤es.length→∃ x y:W,L2.atI (rowsG c es) (q:Int)=some (.tup [tC (sC c es q),x,y]):=fun q hq=>rowsG_at hq
  have hx0:(aftC (sC c es e.2.1) (mvN ms e.2.2)).length=c.length:=by rw [aftC_len,hs]
  generalize aftC (sC c es e.2.1) (mvN ms e.2.2)=x0 at *
  generalize hl0:wayG es e.2.1=l0 at *
  obtain ⟨rw_,hrw⟩:∃ rw_,rw_=rowsG c es:=⟨_,rfl⟩
  rw [← hrw] at ku kw hsel
  rw [← hrw]
  obtain ⟨wl,hwl_⟩:∃ wl,wl=pz ((i+1)::l0):=⟨_,rfl⟩
  rw [← hwl_] at kw hcut
  exists rpB,m_lifts_of,z0,ku,kw,hcut
  refine ok_end (po_fors (fun j ρ=>∃ (fs:List (Nat×List Nat)) (x:Cap) (a5 a6 a7:Sl),ρ = [.par (.tup [tI b,tM_ ms]),.par (.lst rw_),.par (.int ((i+1:Nat):Int)),.own (fs.map lfT),.val (tC x),a5,a6,a7]∧lfs c es l0 x0=fs++lfs c es (l0.drop j) x∧x.length=c.length∧fs.length≤j) ⟨[],x0,_,_,_,rfl,rfl,hx0,Nat.le_refl _⟩ ?_ ?_)
  ·rintro j u ρ hu ⟨fs,x,a5,a6,a7,rfl,hf,hx,hfl⟩
   rw [pz_W,List.getElem?_map] at hu
   obtain ⟨q,hq,rfl⟩:=Option.map_eq_some_iff.mp hu
   obtain ⟨hj,eq⟩:=List.getElem?_eq_some_iff.mp hq
   have hqn:=hwl.1 q (List.mem_of_getElem? hq)
   obtain ⟨p1,p2,er⟩:=hsel q (by omega)
   have a0:L2.atI [tC (sC c es q),p1,p2] 0=some (tC (sC c es q)):=rfl
   have kr:=raised_ok (cs:=x) (es:=sC c es q) (by rw [hx]; exact sC_len hK.len (by omega)) (by omega)
   have hd:l0.drop j=q::l0.drop (j+1):=by rw [List.drop_eq_getElem_cons hj,eq]
   rw [hd] at hf
   have hf:lfs c es l0 x0=fs++((if plc x (raiB x (sC c es q)) = [] then [] else [(q,plc x (raiB x (sC c es q)))])++lfs c es (l0.drop (j+1)) (raiB x (sC c es q))):=hf
   have hhl:(raiB x (sC c es q)).length=x.length:=raiB_len x _
   generalize raiB x (sC c es q)=h at *
   have ek:∀ N mg mc me ρ (hh:∀ k∈List.range x.length,∃ ρ1,mg (.int (k:Nat)) (ρ++List.replicate (N-ρ.length) Sl.un)=some ρ1∧mc ρ1=.ok (decide (h.getD k none≠x.getD k none))∧(decide (h.getD k none≠x.getD k none)=true→me ρ1=.ok (.int (k:Nat)))),mComp N mg mc me ((List.range x.length).map fun k=>W.int (k:Nat)) ρ=.ok (lI (pz (plc x h))):=fun N mg mc me ρ hh=>by
    rw [mComp_filter (fun k=>.int (k:Nat)) (fun k=>W.int (k:Nat)) (fun k=>decide (h.getD k none≠x.getD k none)) _ ρ (by simp; omega) hh]
    exact congrArg (fun l=>R.ok (W.lst l)) (pz_W _).symm
   have hpl:=plc_len x h
   have hzl:=pz_len (plc x h)
   have hfl2:(fs.map lfT).length≤100:=by rw [List.length_map]; omega
   refine ⟨_,rfl,?_⟩
   exists er,a0,kr
   rw [ek]
   rotate_left
   ·intro k hk
    have hk:k<x.length:=by simpa using hk
    have y1:=atO hk
    have y2:=atO (cs:=h) (k:=k) (by omega)
    refine ⟨_,rfl,?_,fun _=>?_⟩
    ·exists y1,y2,fEq_oW
    ·exists rp18
   exists hzl
   by_cases hemp:plc x h = []
   ·have z1:decide ((0:Int)<((plc x h).length:Int))=false:=by rw [hemp]; rfl
    rw [if_pos hemp] at hf
    exists z1
    exact ⟨fs,h,_,_,_,rfl,hf,by omega,by omega⟩
   ·have z1:decide ((0:Int)<((plc x h).length:Int))=true:=decide_eq_true (by have:=List.length_pos_iff.mpr hemp; omega)
    rw [if_neg hemp,← List.append_assoc] at hf
    exists z1
    exact ⟨fs ++ [(q,plc x h)],h,_,_,_,by rw [List.map_append]; rfl,hf,by omega,by rw [List.length_append,List.length_singleton]; omega⟩
  ·rintro ρ ⟨fs,x,a5,a6,a7,rfl,hf,hx,hfl⟩
   rw [List.length_map,pz_len,List.drop_length] at hf
   exists rp18
   rw [hf]
   show W.lst (fs.map lfT)=W.lst ((fs ++ []).map lfT)
   rw [List.append_nil]
 obtain ⟨v,e,rfl⟩:=fin
 exact e
noncomputable def mvD (m:Mv) (p:Nat):Int:=m.2.getD p 0-m.1.getD p 0
noncomputable def dsp (ms:List Mv):List Nat→Nat→Int
 | [],_=>0
 | k::r,p=>mvD (mvN ms k) p+dsp ms r p
noncomputable def gos (n:Nat) (ms:List Mv):List Nat→(Nat→Int)→Prop
 | [],_=>True
 | k::r,s=>k<ms.length∧(∀ p,p<n→(mvN ms k).1.getD p 0≤s p)∧gos n ms r fun p=>s p+mvD (mvN ms k) p
section
variable {n:Nat} {ms:List Mv}
theorem dsp_app (q:List Nat) (p:Nat):∀ r:List Nat,dsp ms (r++q) p=dsp ms r p+dsp ms q p
 | []=>by show dsp ms q p=0+dsp ms q p; omega
 | k::r=>by
  show mvD (mvN ms k) p+dsp ms (r++q) p=mvD (mvN ms k) p+dsp ms r p+dsp ms q p
  rw [dsp_app q p r]; omega
noncomputable def repR (r:List Nat):Nat→List Nat
 | 0=>[]
 | k+1=>r++repR r k
end
noncomputable def conc (c:Cap) (N:Int) (p:Nat):Int:=(c.getD p none).getD N
noncomputable def realC (n:Nat) (N:Int) (c:Cap) (s:Nat→Int):Prop:=∀ p,p<n→(∀ v,c.getD p none=some v→s p=v)∧(c.getD p none=none→N≤s p)
noncomputable def Rz (n:Nat) (ms:List Mv) (x c:Cap):Prop:=∀ N:Int,∃ (N0:Int) (r:List Nat),gos n ms r (conc x N0)∧realC n N c fun p=>conc x N0 p+dsp ms r p
section
variable {n:Nat} {ms:List Mv} {x c e:Cap}
theorem und_at {a b:Cap} (h:undB a b=true) {p:Nat} (hp:p<a.length):und1 (a.getD p none) (b.getD p none)=true:=by
 unfold undB at h
 rw [List.all_eq_true] at h
 exact h p (by simpa using hp)
end
section
variable {c:Cap} {ms:List Mv} {es:List GEnt} {A kk:Nat}
theorem way_root (hp:ParG es):∀ j,j≤es.length→0∈wayG es j:=by
 intro j
 induction j using Nat.strongRecOn with
 | _ j ih=>
  intro hj
  cases j with
  | zero=>rw [wayG_0]; exact List.mem_singleton.mpr rfl
  | succ j=>
   have he:es[j]?=some es[j]:=List.getElem?_eq_getElem (by omega)
   have:=hp j _ he
   rw [wayG_succ hp he]
   exact List.mem_cons_of_mem _ (ih es[j].2.1 (by omega) (by omega))
end
noncomputable def nnC (d:Cap):Prop:=∀ k x,d.getD k none=some x→0≤x
theorem nnC_rai {x e:Cap} (h:nnC x):nnC (raiB x e):=fun k z hz=>by
 unfold raiB at hz
 by_cases q:undB e x=true
 ·rw [if_pos q] at hz
  by_cases hk:k<x.length
  ·rw [List.getD_eq_getElem?_getD,List.getElem?_map,List.getElem?_range hk] at hz
   have hz:rai1 (x.getD k none) (e.getD k none)=some z:=hz
   unfold rai1 at hz
   by_cases q2:x.getD k none=e.getD k none
   ·rw [if_pos q2] at hz; exact h k z hz
   ·rw [if_neg q2] at hz; cases hz
  ·rw [List.getD_eq_getElem?_getD,List.getElem?_eq_none (by simpa using Nat.le_of_not_lt hk)] at hz; cases hz
 ·rw [if_neg q] at hz; exact h k z hz
theorem nnC_up {c:Cap} {es:List GEnt}:∀ (l:List Nat) (x:Cap),nnC x→nnC (upC c es l x)
 | [],_,h=>h
 | q::l,x,h=>nnC_up l (raiB x (sC c es q)) (nnC_rai h)
theorem nnC_aft {t:Cap} {m:Mv} (hm:okN t.length m) (hab:ablC t m=true):nnC (aftC t m):=fun k z hz=>by
 unfold aftC at hz
 by_cases hk:k<t.length
 ·rw [List.getD_eq_getElem?_getD,List.getElem?_map,List.getElem?_range hk] at hz
  have hz:(t.getD k none).map (fun x=>x+(m.2.getD k 0-m.1.getD k 0))=some z:=hz
  cases hy:t.getD k none with
  | none=>rw [hy] at hz; cases hz
  | some y=>
   rw [hy] at hz
   cases hz
   have h1:und1 ((m.1.map some).getD k none) (t.getD k none)=true:=by
    unfold ablC undB at hab
    exact List.all_eq_true.mp hab k (by rw [List.mem_range,List.length_map,hm.1]; exact hk)
   have hkm:k<m.1.length:=by rw [hm.1]; exact hk
   have e1:(m.1.map some).getD k none=some (m.1.getD k 0):=by
    rw [List.getD_eq_getElem?_getD,List.getElem?_map,List.getElem?_eq_getElem hkm,List.getD_eq_getElem?_getD,List.getElem?_eq_getElem hkm]; rfl
   rw [e1,hy] at h1
   have h1:m.1.getD k 0≤y:=of_decide_eq_true h1
   have h2:=nn_at hm.2.2.2 k
   show 0≤y+(m.2.getD k 0-m.1.getD k 0)
   omega
 ·rw [List.getD_eq_getElem?_getD,List.getElem?_eq_none (by simpa using Nat.le_of_not_lt hk)] at hz; cases hz
theorem GK.nng {c:Cap} {ms:List Mv} {es:List GEnt} {A kk:Nat} (hK:GK c ms es A kk) (hms:∀ m∈ms,okN c.length m) (hc:nnC c):∀ d∈stC c es,nnC d:=fun d hd=>by
 unfold stC at hd
 rcases List.mem_cons.mp hd with rfl | hd
 ·exact hc
 ·obtain ⟨e,he,rfl⟩:=List.mem_map.mp hd
  obtain ⟨i,hi,ei⟩:=List.mem_iff_getElem.mp he
  have hq:es[i]?=some e:=by rw [List.getElem?_eq_getElem hi,ei]
  obtain ⟨hab,hb,_⟩:=hK.beh i e hq
  have hp:=hK.par i e hq
  rw [hb]
  exact nnC_up _ _ (nnC_aft (by rw [sC_len hK.len (by omega)]; exact getM hms (hK.k8 e he)) hab)
theorem nnC_some {b:List Int} (h:nn b):nnC (b.map some):=fun k x hx=>by
 by_cases hk:k<b.length
 ·rw [List.getD_eq_getElem?_getD,List.getElem?_map,List.getElem?_eq_getElem hk] at hx
  cases hx
  exact h _ (List.getElem_mem _)
 ·rw [List.getD_eq_getElem?_getD,List.getElem?_eq_none (by simpa using Nat.le_of_not_lt hk)] at hx; cases hx
noncomputable def hur (ms:List Mv):List Nat→Nat→Int
 | [],_=>0
 | k::r,p=>max ((mvN ms k).1.getD p 0) (hur ms r p-mvD (mvN ms k) p)
theorem hur_app {ms:List Mv} {q:List Nat} {p:Nat}:∀ {r:List Nat} {u:Int},hur ms r p≤u→hur ms q p≤u+dsp ms r p→hur ms (r++q) p≤u
 | [],u,_,h=>by
  have:dsp ms [] p=0:=rfl
  show hur ms q p≤u
  omega
 | k::r,u,h1,h2=>by
  have h1:max ((mvN ms k).1.getD p 0) (hur ms r p-mvD (mvN ms k) p)≤u:=h1
  have h2:hur ms q p≤u+(mvD (mvN ms k) p+dsp ms r p):=h2
  have:=hur_app (ms:=ms) (q:=q) (p:=p) (r:=r) (u:=u+mvD (mvN ms k) p) (by omega) (by omega)
  show max ((mvN ms k).1.getD p 0) (hur ms (r++q) p-mvD (mvN ms k) p)≤u
  omega
noncomputable abbrev Blk:=List Nat×Int
noncomputable def okB (n:Nat) (ms:List Mv) (s:Nat→Int) (b:Blk):Prop:=1≤b.2∧(∀ k∈b.1,k<ms.length)∧b.1.length≤30∧∀ p,p<n→hur ms b.1 p≤s p∧hur ms b.1 p≤s p+(b.2-1)*dsp ms b.1 p
noncomputable def aftB (ms:List Mv) (s:Nat→Int) (b:Blk):Nat→Int:=fun p=>s p+b.2*dsp ms b.1 p
noncomputable def goB (n:Nat) (ms:List Mv):List Blk→(Nat→Int)→Prop
 | [],_=>True
 | b::bs,s=>okB n ms s b∧goB n ms bs (aftB ms s b)
noncomputable def endB (ms:List Mv):List Blk→(Nat→Int)→Nat→Int
 | [],s=>s
 | b::bs,s=>endB ms bs (aftB ms s b)
noncomputable def fitC (n:Nat) (x:Cap) (w s:Nat→Int):Prop:=∀ p,p<n→(∀ v,x.getD p none=some v→s p=v)∧(x.getD p none=none→w p≤s p)
noncomputable def ldB (n:Nat) (ms:List Mv) (x:Cap) (w:Nat→Int) (bs:List Blk) (y:Cap) (u:Nat→Int):Prop:=∀ s,fitC n x w s→goB n ms bs s∧fitC n y u (endB ms bs s)
theorem ldB.cons {n:Nat} {ms:List Mv} {x y z:Cap} {w u v:Nat→Int} {b:Blk} {bs:List Blk} (h1:ldB n ms x w [b] y u) (h2:ldB n ms y u bs z v):ldB n ms x w (b::bs) z v:=fun s hs=>by
 obtain ⟨⟨g1,_⟩,f1⟩:=h1 s hs
 obtain ⟨g2,f2⟩:=h2 _ f1
 exact ⟨⟨g1,g2⟩,f2⟩
theorem ldB.skip {n:Nat} {ms:List Mv} {x y z:Cap} {w u v:Nat→Int} {bs:List Blk} (h1:ldB n ms x w [] y u) (h2:ldB n ms y u bs z v):ldB n ms x w bs z v:=fun s hs=>h2 _ (h1 s hs).2
theorem ldB.refl {n:Nat} {ms:List Mv} (x:Cap) (w:Nat→Int):ldB n ms x w [] x w:=fun _ hs=>⟨trivial,hs⟩
noncomputable def ahW (ms:List Mv) (r:List Nat) (t:Int) (w:Nat→Int) (p:Nat):Int:=max (max (hur ms r p) (hur ms r p+(1-t)*dsp ms r p)) (w p+(-t)*dsp ms r p)
theorem rai_at {x e:Cap} {p:Nat} (hu:undB e x=true) (hp:p<x.length):(raiB x e).getD p none=rai1 (x.getD p none) (e.getD p none):=by
 unfold raiB
 rw [if_pos hu,List.getD_eq_getElem?_getD,List.getElem?_map,List.getElem?_range hp]; rfl
theorem rai_some {x e:Cap} {p:Nat} {v:Int} (h:(raiB x e).getD p none=some v):x.getD p none=some v:=by
 by_cases hu:undB e x=true
 ·by_cases hp:p<x.length
  ·rw [rai_at hu hp] at h
   unfold rai1 at h
   by_cases q:x.getD p none=e.getD p none
   ·rw [if_pos q] at h; exact h
   ·rw [if_neg q] at h; cases h
  ·rw [List.getD_eq_getElem?_getD,List.getElem?_eq_none (by rw [raiB_len]; omega)] at h; cases h
 ·unfold raiB at h
  rw [if_neg hu] at h; exact h
theorem up_some {c:Cap} {es:List GEnt} {p:Nat} {v:Int}:∀ (l:List Nat) (x:Cap),(upC c es l x).getD p none=some v→x.getD p none=some v
 | [],_,h=>h
 | q::l,x,h=>rai_some (up_some l (raiB x (sC c es q)) h)
theorem lift_ld {n:Nat} {ms:List Mv} {x e:Cap} {r:List Nat} {t:Int} {w:Nat→Int} (hx:x.length=n) (he:e.length=n) (hu:undB e x=true) (hr:∀ k∈r,k<ms.length) (hl:r.length≤30)
  (hrow:∀ p,p<n→∀ v,x.getD p none=some v→∃ u,e.getD p none=some u∧u+dsp ms r p=v∧hur ms r p≤u) (ht:1≤t) (hw:∀ p,p<n→∀ v,x.getD p none=some v→(raiB x e).getD p none=none→w p≤v+t*dsp ms r p):ldB n ms x (ahW ms r t w) [(r,t)] (raiB x e) w:=fun s hs=>by
 have hup:∀ p,p<n→∀ v,x.getD p none=some v→∀ u,e.getD p none=some u→u≤v:=fun p hp v hv u hu'=>by
  have:=und_at hu (p:=p) (by omega)
  rw [hv,hu'] at this
  exact of_decide_eq_true this
 refine ⟨⟨⟨ht,hr,hl,fun p hp=>?_⟩,trivial⟩,fun p hp=>?_⟩
 ·obtain ⟨h1,h2⟩:=hs p hp
  show hur ms r p≤s p∧hur ms r p≤s p+(t-1)*dsp ms r p
  cases q:x.getD p none with
  | some v=>
   obtain ⟨u,eu,ed,eh⟩:=hrow p hp v q
   have:=hup p hp v q u eu
   have e1:=h1 v q
   have:=Int.mul_nonneg (show 0≤t-1 by omega) (show 0≤dsp ms r p by omega)
   omega
  | none=>
   have h2:=h2 q
   unfold ahW at h2
   have e1:(t-1)*dsp ms r p =-((1-t)*dsp ms r p):=by rw [← Int.neg_mul]; congr 1; omega
   omega
 ·obtain ⟨h1,h2⟩:=hs p hp
  have hsh:endB ms [(r,t)] s p=s p+t*dsp ms r p:=rfl
  rw [hsh]
  refine ⟨fun v hv=>?_,fun hv=>?_⟩
  ·have hxv:=rai_some hv
   obtain ⟨u,eu,ed,eh⟩:=hrow p hp v hxv
   rw [rai_at hu (by omega),hxv,eu] at hv
   unfold rai1 at hv
   by_cases q:v=u
   ·have:dsp ms r p=0:=by omega
    rw [h1 v hxv,this,Int.mul_zero,Int.add_zero]
   ·rw [if_neg (fun z=>q (Option.some.inj z))] at hv; cases hv
  ·cases q:x.getD p none with
   | some v=>
    rw [h1 v q]; exact hw p hp v q hv
   | none=>
    have h2:=h2 q
    unfold ahW at h2
    rw [Int.neg_mul] at h2
    omega
theorem lift_ld0 {n:Nat} {ms:List Mv} {x e:Cap} {w:Nat→Int} (hw:∀ p,p<n→∀ v,x.getD p none=some v→(raiB x e).getD p none=none→w p≤v) (hn:∀ p,p<n→x.getD p none=none→(raiB x e).getD p none=none):ldB n ms x w [] (raiB x e) w:=fun s hs=>⟨trivial,fun p hp=>by
 obtain ⟨h1,h2⟩:=hs p hp
 show (∀ v,(raiB x e).getD p none=some v→s p=v)∧((raiB x e).getD p none=none→w p≤s p)
 refine ⟨fun v hv=>h1 v (rai_some hv),fun hv=>?_⟩
 cases q:x.getD p none with
 | some v=>rw [h1 v q]; exact hw p hp v q hv
 | none=>exact h2 q⟩
theorem aft_at {c:Cap} {m:Mv} {p:Nat} (hp:p<c.length):(aftC c m).getD p none=(c.getD p none).map fun x=>x+mvD m p:=by
 unfold aftC mvD
 rw [List.getD_eq_getElem?_getD,List.getElem?_map,List.getElem?_range hp]; rfl
theorem abl_at {c:Cap} {m:Mv} {p:Nat} {v:Int} (hm:okN c.length m) (ha:ablC c m=true) (hp:p<c.length) (hv:c.getD p none=some v):m.1.getD p 0≤v:=by
 have hu:=und_at ha (p:=p) (by rw [List.length_map,hm.1]; exact hp)
 have e1:(m.1.map some).getD p none=some (m.1.getD p 0):=by
  rw [List.getD_eq_getElem?_getD,List.getElem?_map,List.getD_eq_getElem?_getD,List.getElem?_eq_getElem (by rw [hm.1]; exact hp)]; rfl
 rw [e1,hv] at hu
 exact of_decide_eq_true hu
theorem move_ld {n:Nat} {ms:List Mv} {c:Cap} {k:Nat} {w:Nat→Int} (hc:c.length=n) (hk:k<ms.length) (hm:okN n (mvN ms k)) (ha:ablC c (mvN ms k)=true):ldB n ms c (ahW ms [k] 1 w) [([k],1)] (aftC c (mvN ms k)) w:=fun s hs=>by
 have hh:∀ p,hur ms [k] p=max ((mvN ms k).1.getD p 0) (0-mvD (mvN ms k) p):=fun p=>rfl
 have hd:∀ p,dsp ms [k] p=mvD (mvN ms k) p+0:=fun p=>rfl
 refine ⟨⟨⟨Int.le_refl 1,by simpa using hk,by simp,fun p hp=>?_⟩,trivial⟩,fun p hp=>?_⟩
 ·obtain ⟨h1,h2⟩:=hs p hp
  show hur ms [k] p≤s p∧hur ms [k] p≤s p+(1-1)*dsp ms [k] p
  rw [show (1:Int)-1=0 from rfl,Int.zero_mul,Int.add_zero]
  suffices hur ms [k] p≤s p from ⟨this,this⟩
  cases q:c.getD p none with
  | some v=>
   have h3:=abl_at (by rw [hc]; exact hm) ha (by omega) q
   have h4:=nn_at hm.2.2.2 p
   rw [h1 v q,hh]
   have:mvD (mvN ms k) p=(mvN ms k).2.getD p 0-(mvN ms k).1.getD p 0:=rfl
   omega
  | none=>
   have h2:=h2 q
   unfold ahW at h2
   omega
 ·obtain ⟨h1,h2⟩:=hs p hp
  have hsh:endB ms [([k],1)] s p=s p+1*dsp ms [k] p:=rfl
  rw [hsh,aft_at (by omega),hd]
  cases q:c.getD p none with
  | some v=>
   refine ⟨fun u hu=>?_,fun hu=>by cases hu⟩
   have hu:v+mvD (mvN ms k) p=u:=Option.some.inj hu
   have:=h1 v q
   omega
  | none=>
   refine ⟨fun u hu=>(by cases hu),fun _=>?_⟩
   have h2:=h2 q
   unfold ahW at h2
   rw [hd] at h2
   omega
noncomputable def mvOf (es:List GEnt) (a:Nat):Nat:=(es.getD (a-1) ([],0,0)).2.2
noncomputable def nodB (es:List GEnt) (q j:Nat):List Nat:=((wayG es j).takeWhile fun a=>decide (a≠q)).reverse
noncomputable def rowB (es:List GEnt) (q j:Nat):List Nat:=(nodB es q j).map (mvOf es)
theorem nodB_self {es:List GEnt} (hp:ParG es) {q:Nat} (hq:q≤es.length):nodB es q q = []:=by
 unfold nodB
 cases q with
 | zero=>rw [wayG_0]; rfl
 | succ i=>
  rw [wayG_succ hp (List.getElem?_eq_getElem (show i<es.length by omega)),List.takeWhile_cons]
  simp
theorem nodB_succ {es:List GEnt} (hp:ParG es) {q i:Nat} {e:GEnt} (he:es[i]?=some e) (hq:q≠i+1):nodB es q (i+1)=nodB es q e.2.1 ++ [i+1]:=by
 unfold nodB
 rw [wayG_succ hp he,List.takeWhile_cons,if_pos (by simpa using fun h=>hq h.symm),List.reverse_cons]
theorem mvOf_at {es:List GEnt} {i:Nat} {e:GEnt} (he:es[i]?=some e):mvOf es (i+1)=e.2.2:=by
 unfold mvOf
 rw [Nat.add_sub_cancel,getD_at he]
theorem rowB_succ {es:List GEnt} (hp:ParG es) {q i:Nat} {e:GEnt} (he:es[i]?=some e) (hq:q≠i+1):rowB es q (i+1)=rowB es q e.2.1 ++ [e.2.2]:=by
 unfold rowB
 rw [nodB_succ hp he hq,List.map_append,List.map_singleton,mvOf_at he]
theorem rowB_len {es:List GEnt} (hp:ParG es) {q j:Nat} (hj:j≤es.length):(rowB es q j).length≤j+1:=by
 unfold rowB nodB
 rw [List.length_map,List.length_reverse]
 have h1:=(List.takeWhile_sublist (fun a=>decide (a≠q)) (l:=wayG es j)).length_le
 have h2:=(wayG_le hp j hj).2
 omega
section
variable {c:Cap} {ms:List Mv} {es:List GEnt} {A kk:Nat}
theorem rowB_lt (h:GK c ms es A kk) {q:Nat}:∀ j,j≤es.length→q∈wayG es j→∀ k∈rowB es q j,k<ms.length:=by
 intro j
 induction j using Nat.strongRecOn with
 | _ j ih=>
  intro hj hq
  by_cases e:q=j
  ·subst e
   unfold rowB
   rw [nodB_self h.par hj]
   intro k hk; cases hk
  ·cases j with
   | zero=>rw [wayG_0] at hq; exact absurd (List.mem_singleton.mp hq) e
   | succ i=>
    have he:es[i]?=some es[i]:=List.getElem?_eq_getElem (by omega)
    have hp:=h.par i _ he
    rw [wayG_succ h.par he] at hq
    have hq:q∈wayG es es[i].2.1:=by
     rcases List.mem_cons.mp hq with q' | q'
     ·exact absurd q' e
     ·exact q'
    rw [rowB_succ h.par he e]
    intro k hk
    rcases List.mem_append.mp hk with k' | k'
    ·exact ih es[i].2.1 (by omega) (by omega) hq k k'
    ·rw [List.mem_singleton.mp k']; exact h.k8 _ (List.mem_of_getElem? he)
theorem path_ok (h:GK c ms es A kk) (hm:∀ m∈ms,okN c.length m) (hc:nnC c) {q p:Nat} (hp:p<c.length):∀ j,j≤es.length→q∈wayG es j→∀ v,(sC c es j).getD p none=some v→∃ u,(sC c es q).getD p none=some u∧u+dsp ms (rowB es q j) p=v∧hur ms (rowB es q j) p≤u:=by
 intro j
 induction j using Nat.strongRecOn with
 | _ j ih=>
  intro hj hq v hv
  by_cases e:q=j
  ·subst e
   refine ⟨v,hv,?_⟩
   have:rowB es q q = []:=by unfold rowB; rw [nodB_self h.par hj]; rfl
   rw [this]
   have h0:=h.nng hm hc _ (sC_mem hj) p v hv
   exact ⟨by show v+0=v; omega,h0⟩
  ·cases j with
   | zero=>rw [wayG_0] at hq; exact absurd (List.mem_singleton.mp hq) e
   | succ i=>
    have he:es[i]?=some es[i]:=List.getElem?_eq_getElem (by omega)
    have hpa:=h.par i _ he
    have hk:=h.k8 _ (List.mem_of_getElem? he)
    rw [wayG_succ h.par he] at hq
    have hq:q∈wayG es es[i].2.1:=by
     rcases List.mem_cons.mp hq with q' | q'
     ·exact absurd q' e
     ·exact q'
    obtain ⟨hab,hbe,_⟩:=h.beh i _ he
    rw [sC_suc he,hbe] at hv
    unfold candG at hv
    have hv:=up_some _ _ hv
    have hsl:=sC_len h.len (a:=es[i].2.1) (by omega)
    rw [aft_at (by omega)] at hv
    cases hu:(sC c es es[i].2.1).getD p none with
    | none=>rw [hu] at hv; cases hv
    | some u'=>
     rw [hu] at hv
     have hv:u'+mvD (mvN ms es[i].2.2) p=v:=Option.some.inj hv
     obtain ⟨u,eu,ed,eh⟩:=ih es[i].2.1 (by omega) (by omega) hq u' hu
     have hok:okN (sC c es es[i].2.1).length (mvN ms es[i].2.2):=by rw [hsl]; exact getM hm hk
     have h3:=abl_at hok hab (by omega) hu
     have h4:=nn_at hok.2.2.2 p
     have ed1:mvD (mvN ms es[i].2.2) p=(mvN ms es[i].2.2).2.getD p 0-(mvN ms es[i].2.2).1.getD p 0:=rfl
     have hh:hur ms [es[i].2.2] p=max ((mvN ms es[i].2.2).1.getD p 0) (0-mvD (mvN ms es[i].2.2) p):=rfl
     have hd:dsp ms [es[i].2.2] p=mvD (mvN ms es[i].2.2) p+0:=rfl
     rw [rowB_succ h.par he e]
     refine ⟨u,eu,by rw [dsp_app,hd]; omega,hur_app eh (by omega)⟩
end
theorem som_at {l:List Int} {k:Nat} (h:k<l.length):(l.map some).getD k none=some (l.getD k 0):=by
 rw [List.getD_eq_getElem?_getD,List.getElem?_map,List.getElem?_eq_getElem h,List.getD_eq_getElem?_getD,List.getElem?_eq_getElem h]; rfl
noncomputable def srcL (g t p:List Int):List Int:=(List.range g.length).map fun k=>max (t.getD k 0) (g.getD k 0-p.getD k 0+t.getD k 0)
theorem source_ok {g t p:List Int} (ht:t.length=g.length) (hp:p.length=g.length) (hg:g.length≤6):f_source [tI g,.tup [tI t,tI p]]=.ok (tI (srcL g t p)):=by
 have a0:L2.atI [tI t,tI p] 0=some (tI t):=rfl
 have a1:L2.atI [tI t,tI p] 1=some (tI p):=rfl
 have hz:=zipR_3 (tI g) (tI t) (tI p) _ _ _ rfl rfl rfl
 rw [zipW_I3 ht hp] at hz
 exists rpB,m_source,a0,a1,hz
 have e:∀ N mg me ρ (h:∀ k,k<g.length→∃ ρ1,mg (.tup [.int (g.getD k 0),.int (t.getD k 0),.int (p.getD k 0)]) (ρ++List.replicate (N-ρ.length) Sl.un)=some ρ1∧me ρ1=.ok (.int (max (t.getD k 0) (g.getD k 0-p.getD k 0+t.getD k 0)))),mComp N mg yes me ((List.range g.length).map fun k=>.tup [.int (g.getD k 0),.int (t.getD k 0),.int (p.getD k 0)]) ρ=.ok (lI (srcL g t p)):=fun N mg me ρ h=>by
  rw [mComp_all (fun k=>.int (max (t.getD k 0) (g.getD k 0-p.getD k 0+t.getD k 0))) _ _ ρ (by simpa using (by omega:g.length≤1000)) (fun k hk=>h k (by simpa using hk)),mapI]
  rfl
 rw [e]
 ·exists rp18
 ·intro k hk
  refine ⟨_,rfl,?_⟩
  exists rp18
theorem fRepT_1 {z:W} {k:Int} (h:1≤k∧k≤1000):fRepT (.tup [z]) (.int k)=.ok (.tup (List.replicate k.toNat [z]).flatten):=by
 show (if _ then _ else _)=_
 rw [if_pos ⟨List.cons_ne_nil _ _,by simp; omega,h.1,h.2⟩]
noncomputable def tp (ms:List Mv) (k:Nat) (r:Int):Int×Int:=((ms.getD r.toNat ([],[])).1.getD k 0,(ms.getD r.toNat ([],[])).2.getD k 0)
noncomputable def col (ms:List Mv) (k:Nat) (rs:List Int):List (Int×Int):=rs.map (tp ms k)
noncomputable def hur1:List (Int×Int)→Int
 | []=>0
 | a::r=>max a.1 (hur1 r-a.2+a.1)
noncomputable def sum1:List (Int×Int)→Int
 | []=>0
 | a::r=>a.2-a.1+sum1 r
theorem sum1_app:∀ (a b:List (Int×Int)),sum1 (a++b)=sum1 a+sum1 b
 | [],b=>by simp [sum1]
 | x::a,b=>by simp only [List.cons_append,sum1,sum1_app a b]; omega
noncomputable def hurL (n:Nat) (ms:List Mv) (rs:List Int):List Int:=(List.range n).map fun k=>hur1 (col ms k rs)
noncomputable def sumL (n:Nat) (ms:List Mv) (rs:List Int):List Int:=(List.range n).map fun k=>sum1 (col ms k rs)
theorem hurL_len (n:Nat) (ms:List Mv) (rs:List Int):(hurL n ms rs).length=n:=by simp [hurL]
theorem sumL_len (n:Nat) (ms:List Mv) (rs:List Int):(sumL n ms rs).length=n:=by simp [sumL]
theorem zeros (n:Nat) (f:Nat→Int) (h:∀ k,f k=0):List.replicate n (0:Int)=(List.range n).map f:=by
 apply List.ext_getElem
 ·simp
 ·intro i h1 h2; simp [h]
theorem noughts_ok {b:List Int} {w:W} (h1:1≤b.length) (h6:b.length≤6):f_noughts [.tup [tI b,w]]=.ok (tI (List.replicate b.length 0)):=by
 have a0:L2.atI [tI b,w] 0=some (tI b):=rfl
 exists rpB,m_noughts,a0,fRepT_1
noncomputable abbrev okR (ms:List Mv) (rs:List Int):Prop:=∀ r∈rs,0≤r∧r<(ms.length:Int)
theorem hurdle_ok {b:List Int} {ms:List Mv} {rs:List Int} (h1:1≤b.length) (h6:b.length≤6) (hm:∀ m∈ms,okN b.length m) (hr:okR ms rs):f_hurdle [.tup [tI b,tM_ ms],lI rs]=.ok (tI (hurL b.length ms rs)):=by
 have fin:Ok (f_hurdle [.tup [tI b,tM_ ms],lI rs]) fun v=>v=tI (hurL b.length ms rs):=by
  have k0:=noughts_ok (b:=b) (w:=tM_ ms) h1 h6
  have a1:L2.atI [tI b,tM_ ms] 1=some (tM_ ms):=rfl
  exists rpB,m_hurdle,k0
  rw [← List.map_reverse]
  refine ok_end (po_fors (fun i ρ=>∃ (a:Sl),ρ = [.par (.tup [tI b,tM_ ms]),.par (lI rs),.val (tI (hurL b.length ms (rs.reverse.take i).reverse)),a]) ⟨.un,by rw [zeros b.length (fun k=>hur1 (col ms k [])) (fun _=>rfl)]; rfl⟩ ?_ ?_)
  ·rintro i w ρ hw ⟨a,rfl⟩
   obtain ⟨hi,rfl⟩:=map_at hw
   have hri:0≤rs.reverse.getD i 0∧rs.reverse.getD i 0<(ms.length:Int):=memD (P:=fun r=>0≤r∧r<(ms.length:Int)) (fun r h=>hr r (List.mem_reverse.mp h)) hi
   have e1:=atM hri.1 hri.2
   have hk:=getM hm (show (rs.reverse.getD i 0).toNat<ms.length by omega)
   have e2:=source_ok (g:=hurL b.length ms (rs.reverse.take i).reverse) (t:=(ms.getD (rs.reverse.getD i 0).toNat ([],[])).1) (p:=(ms.getD (rs.reverse.getD i 0).toNat ([],[])).2) (by rw [hurL_len,hk.1]) (by rw [hurL_len,hk.2.1]) (by rw [hurL_len]; exact h6)
   refine ⟨_,rfl,?_⟩
   exists a1,e1,e2
   refine ⟨.par (.int (rs.reverse.getD i 0)),?_⟩
   have:srcL (hurL b.length ms (rs.reverse.take i).reverse) (ms.getD (rs.reverse.getD i 0).toNat ([],[])).1 (ms.getD (rs.reverse.getD i 0).toNat ([],[])).2=hurL b.length ms (rs.reverse.take (i+1)).reverse:=by
    have q:(rs.reverse.take (i+1)).reverse=rs.reverse.getD i 0::(rs.reverse.take i).reverse:=by
     rw [List.take_succ,List.reverse_append,List.getD_eq_getElem?_getD]
     simp only [List.getElem?_eq_getElem hi]; rfl
    rw [q]
    unfold srcL
    rw [hurL_len]
    refine List.map_congr_left fun k hk=>?_
    rw [show (hurL b.length ms (rs.reverse.take i).reverse).getD k 0=_ from vec_getD (by simpa using hk)]
    rfl
   rw [this]
  ·rintro ρ ⟨a,rfl⟩
   rw [List.length_map,List.take_length,List.reverse_reverse]
   exists rp18
 obtain ⟨v,e,rfl⟩:=fin
 exact e
theorem shifted_ok {g d:List Int} {z:Int} (hl:d.length=g.length) (h6:g.length≤1000) (hz:-1000000≤z∧z≤1000000):f_shifted [tI g,tI d,.int z]=.ok (tI ((List.range g.length).map fun k=>g.getD k 0+z*d.getD k 0)):=by
 have hzz:=zipR_2 (tI g) (tI d) _ _ rfl rfl
 rw [zipW_I2 hl] at hzz
 exists rpB,m_shifted,hzz
 have e:∀ N mg me ρ (h:∀ k,k<g.length→∃ ρ1,mg (.tup [.int (g.getD k 0),.int (d.getD k 0)]) (ρ++List.replicate (N-ρ.length) Sl.un)=some ρ1∧me ρ1=.ok (.int (g.getD k 0+z*d.getD k 0))),mComp N mg yes me ((List.range g.length).map fun k=>W.tup [.int (g.getD k 0),.int (d.getD k 0)]) ρ=.ok (lI ((List.range g.length).map fun k=>g.getD k 0+z*d.getD k 0)):=fun N mg me ρ h=>by
  rw [mComp_all (fun k=>.int (g.getD k 0+z*d.getD k 0)) _ _ ρ (by simpa using h6) (fun k hk=>h k (by simpa using hk)),mapI]
 rw [e]
 ·exists rp18
 ·intro k hk
  refine ⟨_,rfl,?_⟩
  exists rp18
theorem col_succ {ms:List Mv} {k i:Nat} {rs:List Int} (h:i<rs.length):col ms k (rs.take (i+1))=col ms k (rs.take i) ++ [tp ms k (rs.getD i 0)]:=by
 unfold col
 rw [List.take_succ,List.map_append,List.getD_eq_getElem?_getD]
 simp only [List.getElem?_eq_getElem h]; rfl
theorem sum_ok {b:List Int} {ms:List Mv} {rs:List Int} (h1:1≤b.length) (h6:b.length≤6) (hm:∀ m∈ms,okN b.length m) (hr:okR ms rs):f_sum_of [.tup [tI b,tM_ ms],lI rs]=.ok (tI (sumL b.length ms rs)):=by
 have fin:Ok (f_sum_of [.tup [tI b,tM_ ms],lI rs]) fun v=>v=tI (sumL b.length ms rs):=by
  have k0:=noughts_ok (b:=b) (w:=tM_ ms) h1 h6
  have a1:L2.atI [tI b,tM_ ms] 1=some (tM_ ms):=rfl
  exists rpB,m_sum_of,k0
  refine ok_end (po_fors (fun i ρ=>∃ (a:Sl),ρ = [.par (.tup [tI b,tM_ ms]),.par (lI rs),.val (tI (sumL b.length ms (rs.take i))),a]) ⟨.un,by rw [zeros b.length (fun k=>sum1 (col ms k [])) (fun _=>rfl)]; rfl⟩ ?_ ?_)
  ·rintro i w ρ hw ⟨a,rfl⟩
   obtain ⟨hi,rfl⟩:=map_at hw
   have hri:0≤rs.getD i 0∧rs.getD i 0<(ms.length:Int):=memD (P:=fun r=>0≤r∧r<(ms.length:Int)) hr hi
   have e1:=atM hri.1 hri.2
   have hk:=getM hm (show (rs.getD i 0).toNat<ms.length by omega)
   have e2:=change_ok h6 hk
   have e3:=shifted_ok (g:=sumL b.length ms (rs.take i)) (d:=(List.range b.length).map fun k=>(ms.getD (rs.getD i 0).toNat ([],[])).2.getD k 0-(ms.getD (rs.getD i 0).toNat ([],[])).1.getD k 0) (z:=1) (by simp [sumL]) (by rw [sumL_len]; omega) (by omega)
   refine ⟨_,rfl,?_⟩
   exists a1,e1,e2,e3
   refine ⟨.par (.int (rs.getD i 0)),?_⟩
   rw [sumL_len]
   have:((List.range b.length).map fun k=>(sumL b.length ms (rs.take i)).getD k 0+1*((List.range b.length).map fun k=>(ms.getD (rs.getD i 0).toNat ([],[])).2.getD k 0-(ms.getD (rs.getD i 0).toNat ([],[])).1.getD k 0).getD k 0)=sumL b.length ms (rs.take (i+1)):=by
    refine List.map_congr_left fun k hk=>?_
    have hk:k<b.length:=by simpa using hk
    rw [vec_getD hk,show (sumL b.length ms (rs.take i)).getD k 0=_ from vec_getD hk,col_succ hi,sum1_app,Int.one_mul]
    simp only [sum1,tp]; omega
   rw [this]
  ·rintro ρ ⟨a,rfl⟩
   rw [List.length_map,List.take_length]
   exists rp18
 obtain ⟨v,e,rfl⟩:=fin
 exact e
noncomputable abbrev vF (n:Nat) (f:Nat→Int):List Int:=(List.range n).map f
theorem vF_len (n:Nat) (f:Nat→Int):(vF n f).length=n:=by simp
theorem tp_n (ms:List Mv) (p k:Nat):tp ms p (k:Int)=((mvN ms k).1.getD p 0,(mvN ms k).2.getD p 0):=by
 unfold tp mvN
 rw [Int.toNat_natCast]
theorem hur_col (ms:List Mv) (p:Nat):∀ r:List Nat,hur1 (col ms p (pz r))=hur ms r p
 | []=>rfl
 | k::r=>by
  show max (tp ms p (k:Int)).1 (hur1 (col ms p (pz r))-(tp ms p (k:Int)).2+(tp ms p (k:Int)).1)=max ((mvN ms k).1.getD p 0) (hur ms r p-mvD (mvN ms k) p)
  rw [hur_col ms p r,tp_n]
  unfold mvD
  congr 1
  omega
theorem sum_col (ms:List Mv) (p:Nat):∀ r:List Nat,sum1 (col ms p (pz r))=dsp ms r p
 | []=>rfl
 | k::r=>by
  show (tp ms p (k:Int)).2-(tp ms p (k:Int)).1+sum1 (col ms p (pz r))=mvD (mvN ms k) p+dsp ms r p
  rw [sum_col ms p r,tp_n]; rfl
theorem okR_pz {ms:List Mv} {r:List Nat} (h:∀ k∈r,k<ms.length):okR ms (pz r):=fun x hx=>by
 obtain ⟨k,hk,rfl⟩:=List.mem_map.mp hx
 have:=h k hk
 omega
theorem hurB_ok {b:List Int} {ms:List Mv} {r:List Nat} (h1:1≤b.length) (h6:b.length≤6) (hm:∀ m∈ms,okN b.length m) (hr:∀ k∈r,k<ms.length):f_hurdle [.tup [tI b,tM_ ms],lI (pz r)]=.ok (tI (vF b.length (hur ms r))):=by
 rw [hurdle_ok h1 h6 hm (okR_pz hr)]
 unfold hurL
 simp only [hur_col]
theorem sumB_ok {b:List Int} {ms:List Mv} {r:List Nat} (h1:1≤b.length) (h6:b.length≤6) (hm:∀ m∈ms,okN b.length m) (hr:∀ k∈r,k<ms.length):f_sum_of [.tup [tI b,tM_ ms],lI (pz r)]=.ok (tI (vF b.length (dsp ms r))):=by
 rw [sum_ok h1 h6 hm (okR_pz hr)]
 unfold sumL
 simp only [sum_col]
theorem shiftB_ok {n:Nat} {g d:Nat→Int} {z:Int} (h6:n≤6) (hd:∀ p,p<n→-18446744073709551616<d p∧d p<18446744073709551616):f_shifted [tI (vF n g),tI (vF n d),.int z]=.ok (tI (vF n fun p=>g p+z*d p)):=by
 have hzz:=zipR_2 (tI (vF n g)) (tI (vF n d)) _ _ rfl rfl
 rw [zipW_I2 (by rw [vF_len,vF_len]),vF_len] at hzz
 exists rpB,m_shifted,hzz
 have e:∀ N mg me ρ (h:∀ k,k<n→∃ ρ1,mg (.tup [.int ((vF n g).getD k 0),.int ((vF n d).getD k 0)]) (ρ++List.replicate (N-ρ.length) Sl.un)=some ρ1∧me ρ1=.ok (.int (g k+z*d k))),mComp N mg yes me ((List.range n).map fun k=>W.tup [.int ((vF n g).getD k 0),.int ((vF n d).getD k 0)]) ρ=.ok (lI (vF n fun p=>g p+z*d p)):=fun N mg me ρ h=>by
  rw [mComp_all (fun k=>.int (g k+z*d k)) _ _ ρ (by simp; omega) (fun k hk=>h k (by simpa using hk)),mapI]
 rw [e]
 ·exists rp18
 ·intro k hk
  have q:=mul_R (i:=z) (hd k hk)
  refine ⟨_,rfl,?_⟩
  rw [vec_getD hk,vec_getD hk]
  exists q
theorem overB_ok {n:Nat} {g d:Nat→Int} (h6:n≤6):f_least_over [tI (vF n g),tI (vF n d)]=.ok (tI (vF n fun p=>max (g p) (d p))):=by
 have hzz:=zipR_2 (tI (vF n g)) (tI (vF n d)) _ _ rfl rfl
 rw [zipW_I2 (by rw [vF_len,vF_len]),vF_len] at hzz
 exists rpB,m_least_over,hzz
 have e:∀ N mg me ρ (h:∀ k,k<n→∃ ρ1,mg (.tup [.int ((vF n g).getD k 0),.int ((vF n d).getD k 0)]) (ρ++List.replicate (N-ρ.length) Sl.un)=some ρ1∧me ρ1=.ok (.int (max (g k) (d k)))),mComp N mg yes me ((List.range n).map fun k=>W.tup [.int ((vF n g).getD k 0),.int ((vF n d).getD k 0)]) ρ=.ok (lI (vF n fun p=>max (g p) (d p))):=fun N mg me ρ h=>by
  rw [mComp_all (fun k=>.int (max (g k) (d k))) _ _ ρ (by simp; omega) (fun k hk=>h k (by simpa using hk)),mapI]
 rw [e]
 ·exists rp18
 ·intro k hk
  refine ⟨_,rfl,?_⟩
  rw [vec_getD hk,vec_getD hk]
  exists rp18
noncomputable def smallM (ms:List Mv):Prop:=∀ m∈ms,∀ p,-10000000000≤mvD m p∧mvD m p≤10000000000
theorem dsp_small {ms:List Mv} (h:smallM ms) (p:Nat):∀ r:List Nat,(∀ k∈r,k<ms.length)→-((r.length:Int)*10000000000)≤dsp ms r p∧dsp ms r p≤(r.length:Int)*10000000000
 | [],_=>by show -(((0:Nat):Int)*_)≤0∧0≤((0:Nat):Int)*_; omega
 | k::r,hr=>by
  have hk:=hr k List.mem_cons_self
  have h1:=h (mvN ms k) (by unfold mvN; rw [List.getD_eq_getElem?_getD,List.getElem?_eq_getElem hk]; exact List.getElem_mem _) p
  have h2:=dsp_small h p r fun q hq=>hr q (List.mem_cons_of_mem _ hq)
  have e:dsp ms (k::r) p=mvD (mvN ms k) p+dsp ms r p:=rfl
  rw [e,List.length_cons]
  omega
theorem wah_ok {b:List Int} {ms:List Mv} {r:List Nat} {t:Int} {w:Nat→Int} (h1:1≤b.length) (h6:b.length≤6) (hm:∀ m∈ms,okN b.length m) (hs:smallM ms) (hr:∀ k∈r,k<ms.length) (hl:r.length≤100):f_wanted_ahead [.tup [tI b,tM_ ms],lI (pz r),.int t,tI (vF b.length w)]=.ok (tI (vF b.length (ahW ms r t w))):=by
 have k1:=hurB_ok h1 h6 hm hr
 have k2:=sumB_ok h1 h6 hm hr
 have hd:∀ p,p<b.length→-18446744073709551616<dsp ms r p∧dsp ms r p<18446744073709551616:=fun p _=>by
  have:=dsp_small hs p r hr
  omega
 have k3:=shiftB_ok (n:=b.length) (g:=hur ms r) (d:=dsp ms r) (z:=1-t) h6 hd
 have k4:=overB_ok (n:=b.length) (g:=hur ms r) (d:=fun p=>hur ms r p+(1-t)*dsp ms r p) h6
 have k5:=shiftB_ok (n:=b.length) (g:=w) (d:=dsp ms r) (z:=-t) h6 hd
 have k6:=overB_ok (n:=b.length) (g:=fun p=>max (hur ms r p) (hur ms r p+(1-t)*dsp ms r p)) (d:=fun p=>w p+(-t)*dsp ms r p) h6
 have e7:vF b.length (ahW ms r t w)=vF b.length fun p=>max (max (hur ms r p) (hur ms r p+(1-t)*dsp ms r p)) (w p+(-t)*dsp ms r p):=rfl
 rw [e7]
 generalize vF b.length (hur ms r)=g1 at *
 generalize vF b.length (dsp ms r)=g2 at *
 generalize (vF b.length fun p=>hur ms r p+(1-t)*dsp ms r p)=g3 at *
 generalize (vF b.length fun p=>max (hur ms r p) (hur ms r p+(1-t)*dsp ms r p))=g4 at *
 generalize (vF b.length fun p=>w p+(-t)*dsp ms r p)=g5 at *
 generalize (vF b.length fun p=>max (max (hur ms r p) (hur ms r p+(1-t)*dsp ms r p)) (w p+(-t)*dsp ms r p))=g6 at *
 generalize vF b.length w=g7 at *
 exists rpB,m_wanted_ahead,k1,k2,k3,k4,k5,k6
noncomputable def tmsF (x:Cap) (st:Nat→Int) (P:List Nat) (w:Nat→Int):Int:=maxL (0::P.map fun p=>-(((x.getD p none).getD 0-w p)/st p))
theorem tms_nn (x:Cap) (st:Nat→Int) (P:List Nat) (w:Nat→Int):0≤tmsF x st P w:=by
 have:=le_maxL (ns:=0::P.map fun p=>-(((x.getD p none).getD 0-w p)/st p)) 0 (by simp)
 exact this
theorem tms_ge {x:Cap} {st:Nat→Int} {P:List Nat} {w:Nat→Int} {p:Nat} {v:Int} (hp:p∈P) (hv:x.getD p none=some v) (hs:0<st p):w p≤v+tmsF x st P w*st p:=by
 have hm:-(((x.getD p none).getD 0-w p)/st p)∈0::P.map fun p=>-(((x.getD p none).getD 0-w p)/st p):=List.mem_cons_of_mem _ (List.mem_map.mpr ⟨p,hp,rfl⟩)
 obtain ⟨k,hk,ek⟩:=List.mem_iff_getElem.mp hm
 have:=le_maxL (ns:=0::P.map fun p=>-(((x.getD p none).getD 0-w p)/st p)) k hk
 rw [List.getD_eq_getElem?_getD,List.getElem?_eq_getElem hk,ek] at this
 rw [hv] at this
 have this:-((v-w p)/st p)≤tmsF x st P w:=this
 have h2:=Int.mul_le_mul_of_nonneg_right (show -(tmsF x st P w)≤(v-w p)/st p by omega) (show 0≤st p by omega)
 have h3:=Int.ediv_mul_le (v-w p) (show st p≠0 by omega)
 rw [Int.neg_mul] at h2
 omega
theorem times_ok {n:Nat} {x:Cap} {st w:Nat→Int} {P:List Nat} (h6:n≤6) (hx:x.length=n) (hP:∀ p∈P,p<n∧(∃ v,x.getD p none=some v)∧0<st p∧st p≤1000000000000000000000) (hl:P.length≤6):f_times_for [tC x,tI (vF n st),tI (pz P),tI (vF n w)]=.ok (.int (tmsF x st P w)):=by
 have e:∀ N mg me ρ (h:∀ k∈P,∃ ρ1,mg (.int (k:Nat)) (ρ++List.replicate (N-ρ.length) Sl.un)=some ρ1∧me ρ1=.ok (.int (-(((x.getD k none).getD 0-w k)/st k)))),mComp N mg yes me ((pz P).map W.int) ρ=.ok (lI (P.map fun p=>-(((x.getD p none).getD 0-w p)/st p))):=fun N mg me ρ h=>by
  rw [pz_W,mComp_all (fun k=>.int (-(((x.getD k none).getD 0-w k)/st k))) (fun k=>W.int (k:Nat)) _ ρ (by omega) h]
  exact congrArg (fun l=>R.ok (W.lst l)) (by rw [List.map_map]; rfl)
 have hc:fCat true (.lst [.int 0]) (lI (P.map fun p=>-(((x.getD p none).getD 0-w p)/st p)))=.ok (lI (0::P.map fun p=>-(((x.getD p none).getD 0-w p)/st p))):=by
  have:(W.lst [W.int 0])=.lst (([0]:List Int).map W.int):=rfl
  rw [this,fCat_c (by simp; omega),← List.map_append]; rfl
 have hb:fBest maxL [lI (0::P.map fun p=>-(((x.getD p none).getD 0-w p)/st p))]=.ok (.int (tmsF x st P w)):=fBest_l (by simp)
 obtain ⟨ls,hls⟩:∃ ls,ls=lI (P.map fun p=>-(((x.getD p none).getD 0-w p)/st p)):=⟨_,rfl⟩
 obtain ⟨ls2,hls2⟩:∃ ls,ls=lI (0::P.map fun p=>-(((x.getD p none).getD 0-w p)/st p)):=⟨_,rfl⟩
 rw [← hls2] at hb hc
 rw [← hls] at e hc
 exists rpB,m_times_for
 rw [e]
 rotate_left
 ·intro p hp
  obtain ⟨h1,⟨v,hv⟩,h3,h4⟩:=hP p hp
  have q1:=atO (cs:=x) (k:=p) (by omega)
  rw [hv] at q1
  have q2:L2.atI ((vF n w).map W.int) (p:Int)=some (.int (w p)):=atW_of (by rw [List.getElem?_map,List.getElem?_map,List.getElem?_range h1]; rfl)
  have q3:L2.atI ((vF n st).map W.int) (p:Int)=some (.int (st p)):=atW_of (by rw [List.getElem?_map,List.getElem?_map,List.getElem?_range h1]; rfl)
  have q4:=divL_ii (i:=v-w p) h3 h4
  refine ⟨_,rfl,?_⟩
  rw [hv]
  exists q1,q2,q3,q4
  rfl
 exists hc,hb
theorem way_split {es:List GEnt} (hp:ParG es) {q:Nat}:∀ n,n≤es.length→q∈wayG es n→∃ R,wayG es n=((wayG es n).takeWhile fun a=>decide (a≠q))++q::R∧q∉R:=by
 intro n
 induction n using Nat.strongRecOn with
 | _ n ih=>
  intro hn hq
  by_cases e:q=n
  ·subst e
   cases q with
   | zero=>exact ⟨[],by rw [wayG_0]; rfl,by simp⟩
   | succ i=>
    have he:es[i]?=some es[i]:=List.getElem?_eq_getElem (by omega)
    have hpa:=hp i _ he
    refine ⟨wayG es es[i].2.1,?_,fun h=>?_⟩
    ·rw [wayG_succ hp he,List.takeWhile_cons,if_neg (by simp)]; rfl
    ·have:=(wayG_le hp es[i].2.1 (by omega)).1 _ h
     omega
  ·cases n with
   | zero=>rw [wayG_0] at hq; exact absurd (List.mem_singleton.mp hq) e
   | succ i=>
    have he:es[i]?=some es[i]:=List.getElem?_eq_getElem (by omega)
    have hpa:=hp i _ he
    rw [wayG_succ hp he] at hq ⊢
    have hq:q∈wayG es es[i].2.1:=by
     rcases List.mem_cons.mp hq with q' | q'
     ·exact absurd q' e
     ·exact q'
    obtain ⟨R,h1,h2⟩:=ih es[i].2.1 (by omega) (by omega) hq
    refine ⟨R,?_,h2⟩
    rw [List.takeWhile_cons,if_pos (by simpa using fun h=>e h.symm),List.cons_append,← h1]
noncomputable def pathG (es:List GEnt) (n:Nat):List Nat:=(wayG es n).reverse
theorem path_split {es:List GEnt} (hp:ParG es) {q n:Nat} (hn:n≤es.length) (hq:q∈wayG es n):∃ A,pathG es n=A++q::nodB es q n∧q∉A:=by
 obtain ⟨R,h1,h2⟩:=way_split hp n hn hq
 refine ⟨R.reverse,?_,fun h=>h2 (List.mem_reverse.mp h)⟩
 unfold pathG nodB
 conv=>lhs; rw [h1]
 rw [List.reverse_append,List.reverse_cons,List.append_assoc]; rfl
theorem way_ok {c:Cap} {es:List GEnt} {n:Nat} (hp:ParG es) (hl:es.length≤100) (hn:n≤es.length):f_way [.lst (rowsG c es),.int (n:Int)]=.ok (lI (pz (pathG es n))):=by
 have k:=waybG_ok (c:=c) hp hl hn
 have e:lI (pz (pathG es n))=.lst (((wayG es n).map fun (k:Nat)=>(k:Int)).reverse.map W.int):=by unfold pz pathG; rw [List.map_reverse]
 rw [e]
 exists rpB,m_way,k
theorem idxI (p:Int):∀ qs:List Int,idxW (.int p) (qs.map W.int)=qs.findIdx? fun q=>decide (q=p)
 | []=>rfl
 | q::qs=>by
  have g:=idxI p qs
  have e:PyData.eqv (pd (.int q)) (pd (.int p))=decide (q=p):=by
   have:=eqI [q] [p]
   simpa [pds,PyData.eqvAll] using this
  unfold idxW at g ⊢
  rw [List.map_cons,pds,List.findIdx?_cons,List.findIdx?_cons,g,e]
theorem idxR_app {A B:List Nat} {q:Nat} (hq:q∉A) (hl:(A++q::B).length≤500):idxR ((pz (A++q::B)).map W.int) (.int (q:Int))=.ok (.int (A.length:Int)):=by
 have e:(pz (A++q::B)).findIdx? (fun x=>decide (x=(q:Int)))=some A.length:=by
  rw [List.findIdx?_eq_some_iff_getElem]
  refine ⟨by rw [pz_len,List.length_append,List.length_cons]; omega,?_,fun j hj=>?_⟩
  ·unfold pz
   simp
  ·unfold pz
   have hjA:A[j]'hj≠q:=fun h=>hq (h ▸ List.getElem_mem _)
   rw [List.getElem_map,List.getElem_append_left hj]
   simp only [decide_eq_true_eq]
   omega
 unfold idxR
 rw [shp_int,shp_lI,Bool.and_self,if_pos rfl,idxI,e]
 exact if_pos (by rw [List.length_append,List.length_cons] at hl; omega)
theorem cut_from (l:List Nat) (j:Nat):cutI (pz l) (some ((j:Int)+1)) none=pz (l.drop (j+1)):=by
 unfold cutI
 rw [show ((j:Int)+1)=((j+1:Nat):Int) by omega,HT.sIx_nat,HT.sIx_none]
 have e:pz (l.drop (j+1))=(pz l).drop (j+1):=by unfold pz; rw [List.map_drop]
 rw [e]
 by_cases h:j+1≤(pz l).length
 ·rw [Nat.min_eq_left h]
  exact List.take_of_length_le (by rw [List.length_drop]; omega)
 ·rw [Nat.min_eq_right (by omega),Nat.sub_self,List.take_zero,List.drop_eq_nil_of_le (by omega)]
theorem row2_at {c:Cap} {es:List GEnt} {q:Nat} (h0:0<q) (h:q≤es.length):∃ x y:W,L2.atI (rowsG c es) (q:Int)=some (.tup [x,y,.int (mvOf es q:Int)]):=by
 obtain ⟨i,rfl⟩:∃ i,q=i+1:=⟨q-1,by omega⟩
 have he:es[i]?=some es[i]:=List.getElem?_eq_getElem (by omega)
 refine ⟨tC es[i].1,.int (es[i].2.1:Int),(rowG_at he).trans ?_⟩
 rw [mvOf_at he]
theorem nodB_pos {es:List GEnt} (hp:ParG es) {q:Nat}:∀ n,n≤es.length→q∈wayG es n→∀ a∈nodB es q n,0<a∧a≤es.length:=by
 intro n
 induction n using Nat.strongRecOn with
 | _ n ih=>
  intro hn hq a ha
  by_cases e:q=n
  ·subst e
   rw [nodB_self hp hn] at ha; cases ha
  ·cases n with
   | zero=>rw [wayG_0] at hq; exact absurd (List.mem_singleton.mp hq) e
   | succ i=>
    have he:es[i]?=some es[i]:=List.getElem?_eq_getElem (by omega)
    have hpa:=hp i _ he
    rw [wayG_succ hp he] at hq
    have hq:q∈wayG es es[i].2.1:=by
     rcases List.mem_cons.mp hq with q' | q'
     ·exact absurd q' e
     ·exact q'
    rw [nodB_succ hp he e] at ha
    rcases List.mem_append.mp ha with k' | k'
    ·exact ih es[i].2.1 (by omega) (by omega) hq a k'
    ·rw [List.mem_singleton.mp k']; omega
theorem rowB_ok {c:Cap} {es:List GEnt} {n q:Nat} (hp:ParG es) (hl:es.length≤90) (hn:n≤es.length) (hq:q∈wayG es n):f_row_between [.lst (rowsG c es),.int (q:Int),.int (n:Int)]=.ok (lI (pz (rowB es q n))):=by
 have kw:=way_ok (c:=c) hp (by omega) hn
 obtain ⟨A,hA,hqA⟩:=path_split hp hn hq
 have hwl:=(wayG_le hp n hn).2
 have hpl:(pathG es n).length≤n+1:=by unfold pathG; rw [List.length_reverse]; exact hwl
 rw [hA] at kw hpl
 have hj:=idxR_app (B:=nodB es q n) hqA (by omega)
 have hcut:=cut_from (A++q::nodB es q n) A.length
 have hdr:(A++q::nodB es q n).drop (A.length+1)=nodB es q n:=by
  rw [List.drop_append,List.drop_eq_nil_of_le (by omega)]
  simp
 rw [hdr] at hcut
 rw [List.length_append,List.length_cons] at hpl
 have e:∀ N mg me ρ (h:∀ a∈nodB es q n,∃ ρ1,mg (.int (a:Nat)) (ρ++List.replicate (N-ρ.length) Sl.un)=some ρ1∧me ρ1=.ok (.int (mvOf es a:Int))),mComp N mg yes me ((pz (nodB es q n)).map W.int) ρ=.ok (lI (pz (rowB es q n))):=fun N mg me ρ h=>by
  rw [pz_W,mComp_all (fun a=>.int (mvOf es a:Int)) (fun (a:Nat)=>W.int (a:Int)) _ ρ (by omega) h]
  refine congrArg (fun l=>R.ok (W.lst l)) ?_
  unfold rowB
  rw [pz_W,List.map_map]; rfl
 have hnp:=nodB_pos hp n hn hq
 have hsel:∀ a,0<a→a≤es.length→∃ x y:W,L2.atI (rowsG c es) (a:Int)=some (.tup [x,y,.int (mvOf es a:Int)]):=fun a h0 h=>row2_at h0 h
 generalize pz (rowB es q n)=g1 at *
 generalize hg2:pz (nodB es q n)=g2 at *
 generalize pz (A++q::nodB es q n)=g3 at *
 obtain ⟨rw_,hrw⟩:∃ rw_,rw_=rowsG c es:=⟨_,rfl⟩
 rw [← hrw] at kw hsel
 rw [← hrw]
 exists rpB,m_row_between,kw,hj,hcut
 rw [e]
 ·exists rp18
 ·intro a ha
  obtain ⟨h0,h1⟩:=hnp a ha
  obtain ⟨x,y,er⟩:=hsel a h0 h1
  have b2:L2.atI [x,y,.int (mvOf es a:Int)] 2=some (.int (mvOf es a:Int)):=rfl
  refine ⟨_,rfl,?_⟩
  exists er,b2
noncomputable def chn (c:Cap) (es:List GEnt):Cap→List (Nat×List Nat)→Cap→Prop
 | x,[],y=>x=y
 | x,f::L,y=>(f.2=plc x (raiB x (sC c es f.1))∧f.2 ≠ [])∧chn c es (raiB x (sC c es f.1)) L y
theorem plc_nil {x h:Cap} (hl:h.length=x.length) (hp:plc x h = []):h=x:=by
 refine List.ext_getElem? fun k=>?_
 by_cases hk:k<x.length
 ·have:¬ (h.getD k none≠x.getD k none):=fun q=>by
   have:k∈plc x h:=List.mem_filter.mpr ⟨List.mem_range.mpr hk,decide_eq_true q⟩
   rw [hp] at this; cases this
  have this:h.getD k none=x.getD k none:=by
   by_cases q:h.getD k none=x.getD k none
   ·exact q
   ·exact absurd q this
  rw [List.getD_eq_getElem?_getD,List.getD_eq_getElem?_getD,List.getElem?_eq_getElem hk,List.getElem?_eq_getElem (by omega)] at this
  rw [List.getElem?_eq_getElem hk,List.getElem?_eq_getElem (by omega)]
  exact congrArg some this
 ·rw [List.getElem?_eq_none (by omega),List.getElem?_eq_none (by omega)]
theorem lfs_chn {c:Cap} {es:List GEnt}:∀ (l:List Nat) (x:Cap),chn c es x (lfs c es l x) (upC c es l x)
 | [],_=>rfl
 | q::l,x=>by
  show chn c es x ((if plc x (raiB x (sC c es q)) = [] then [] else [(q,plc x (raiB x (sC c es q)))])++lfs c es l (raiB x (sC c es q))) (upC c es l (raiB x (sC c es q)))
  by_cases h:plc x (raiB x (sC c es q)) = []
  ·rw [if_pos h,plc_nil (raiB_len _ _) h]
   exact lfs_chn l x
  ·rw [if_neg h]
   exact ⟨⟨rfl,h⟩,lfs_chn l _⟩
theorem lfs_mem {c:Cap} {es:List GEnt}:∀ (l:List Nat) (x:Cap),∀ f∈lfs c es l x,f.1∈l
 | [],_,f,hf=>by cases hf
 | q::l,x,f,hf=>by
  rcases List.mem_append.mp hf with h | h
  ·by_cases e:plc x (raiB x (sC c es q)) = []
   ·rw [if_pos e] at h; cases h
   ·rw [if_neg e] at h
    rw [List.mem_singleton.mp h]; exact List.mem_cons_self
  ·exact List.mem_cons_of_mem _ (lfs_mem l _ f h)
theorem chn_snoc {c:Cap} {es:List GEnt} {f:Nat×List Nat} {y:Cap}:∀ {L:List (Nat×List Nat)} {x:Cap},chn c es x (L ++ [f]) y→∃ z,chn c es x L z∧f.2=plc z y∧f.2 ≠ []∧y=raiB z (sC c es f.1)
 | [],x,⟨⟨h1,h2⟩,h3⟩=>⟨x,rfl,by have h3:raiB x (sC c es f.1)=y:=h3; rw [← h3]; exact h1,h2,h3.symm⟩
 | g::L,x,⟨h1,h2⟩=>by
  obtain ⟨z,hz,r⟩:=chn_snoc (L:=L) h2
  exact ⟨z,⟨h1,hz⟩,r⟩
theorem chn_some {c:Cap} {es:List GEnt} {y:Cap}:∀ {L:List (Nat×List Nat)} {x:Cap},chn c es x L y→y.length=x.length∧∀ p v,y.getD p none=some v→x.getD p none=some v
 | [],x,h=>by have h:x=y:=h; subst h; exact ⟨rfl,fun _ _ h=>h⟩
 | g::L,x,⟨_,h2⟩=>by
  obtain ⟨h3,h4⟩:=chn_some (L:=L) h2
  exact ⟨by rw [h3,raiB_len],fun p v hv=>rai_some (h4 p v hv)⟩
noncomputable def finC (x:Cap):Nat:=(List.range x.length).countP fun k=>(x.getD k none).isSome
theorem finC_le (x:Cap):finC x≤x.length:=by
 unfold finC
 have:=List.countP_le_length (p:=fun k=>(x.getD k none).isSome) (l:=List.range x.length)
 rwa [List.length_range] at this
theorem countP_lt {α:Type} {p q:α→Bool}:∀ {l:List α},(∀ a∈l,p a=true→q a=true)→(∃ a∈l,p a=false∧q a=true)→l.countP p<l.countP q
 | [],_,⟨a,ha,_⟩=>by cases ha
 | b::l,h,⟨a,ha,h1,h2⟩=>by
  rw [List.countP_cons,List.countP_cons]
  rcases List.mem_cons.mp ha with rfl | ha
  ·have:=List.countP_mono_left (l:=l) (p:=p) (q:=q) fun x hx=>h x (List.mem_cons_of_mem _ hx)
   rw [h1,h2]
   simp
   omega
  ·have:=countP_lt (l:=l) (p:=p) (q:=q) (fun x hx=>h x (List.mem_cons_of_mem _ hx)) ⟨a,ha,h1,h2⟩
   have hb:=h b List.mem_cons_self
   cases hp:p b
   ·simp; split <;> omega
   ·rw [hb hp]; simp; omega
theorem finC_lt {z y:Cap} {p:Nat} {v:Int} (hl:y.length=z.length) (hs:∀ p v,y.getD p none=some v→z.getD p none=some v) (hp:p<z.length) (h1:z.getD p none=some v) (h2:y.getD p none=none):finC y<finC z:=by
 unfold finC
 rw [hl]
 refine countP_lt (fun k _ hk=>?_) ⟨p,List.mem_range.mpr hp,by rw [h2]; rfl,by rw [h1]; rfl⟩
 cases q:y.getD k none with
 | none=>rw [q] at hk; cases hk
 | some u=>rw [hs k u q]; rfl
theorem finC_aft {c:Cap} {m:Mv}:finC (aftC c m)=finC c:=by
 unfold finC
 rw [aftC_len]
 refine List.countP_congr fun k hk=>?_
 rw [aft_at (List.mem_range.mp hk)]
 cases c.getD k none <;> simp
theorem way_drop {es:List GEnt} (hp:ParG es):∀ n,n≤es.length→∀ j a,(wayG es n)[j]?=some a→(wayG es n).drop j=wayG es a:=by
 intro n
 induction n using Nat.strongRecOn with
 | _ n ih=>
  intro hn j a ha
  cases n with
  | zero=>
   rw [wayG_0] at ha ⊢
   cases j with
   | zero=>cases ha; exact (wayG_0 es).symm
   | succ j=>cases ha
  | succ i=>
   have he:es[i]?=some es[i]:=List.getElem?_eq_getElem (by omega)
   have hpa:=hp i _ he
   cases j with
   | zero=>
    rw [wayG_succ hp he] at ha
    cases ha; rfl
   | succ j=>
    rw [wayG_succ hp he] at ha ⊢
    exact ih es[i].2.1 (by omega) (by omega) j a ha
theorem cut_last (l:List Nat):cutI (pz l) none (some (-1))=pz l.dropLast:=by
 have e:pz l.dropLast=(pz l).dropLast:=by unfold pz; rw [List.map_dropLast]
 rw [e]
 unfold cutI
 rw [HT.sIx_none,List.drop_zero,List.dropLast_eq_take]
 congr 1
 unfold HT.sIx
 simp
 omega
noncomputable abbrev blW (b:Blk):W:=.tup [lI (pz b.1),.int b.2]
theorem plc_mem {x e:Cap} {p:Nat} (h:p∈plc x (raiB x e)):p<x.length∧(∃ v,x.getD p none=some v)∧(raiB x e).getD p none=none:=by
 unfold plc at h
 obtain ⟨h1,h2⟩:=List.mem_filter.mp h
 have h1:=List.mem_range.mp h1
 have h2:(raiB x e).getD p none≠x.getD p none:=of_decide_eq_true h2
 refine ⟨h1,?_,?_⟩
 ·cases q:x.getD p none with
  | some v=>exact ⟨v,rfl⟩
  | none=>
   exfalso
   refine h2 ?_
   rw [q]
   cases q2:(raiB x e).getD p none with
   | none=>rfl
   | some v=>rw [rai_some q2] at q; cases q
 ·cases q2:(raiB x e).getD p none with
  | none=>rfl
  | some v=>exact absurd (by rw [q2,rai_some q2]) h2
theorem rai_none {x e:Cap} {p:Nat} (h:x.getD p none=none):(raiB x e).getD p none=none:=by
 cases q:(raiB x e).getD p none with
 | none=>rfl
 | some v=>rw [rai_some q] at h; cases h
theorem plc_und {x e:Cap} (h:plc x (raiB x e) ≠ []):undB e x=true:=by
 cases q:undB e x with
 | true=>rfl
 | false=>
  exfalso
  refine h ?_
  have:raiB x e=x:=by unfold raiB; rw [if_neg (by rw [q]; simp)]
  rw [this]
  unfold plc
  rw [List.filter_eq_nil_iff]
  intro a _
  simp
theorem ldB.weak {n:Nat} {ms:List Mv} {x y:Cap} {w w' u u':Nat→Int} {bs:List Blk} (h:ldB n ms x w bs y u) (hw:∀ p,p<n→x.getD p none=none→w p≤w' p) (hu:∀ p,p<n→y.getD p none=none→u' p≤u p):ldB n ms x w' bs y u':=fun s hs=>by
 obtain ⟨h1,h2⟩:=h s fun p hp=>⟨(hs p hp).1,fun q=>Int.le_trans (hw p hp q) ((hs p hp).2 q)⟩
 exact ⟨h1,fun p hp=>⟨(h2 p hp).1,fun q=>Int.le_trans (hu p hp q) ((h2 p hp).2 q)⟩⟩
theorem climb_ok {b:List Int} {ms:List Mv} {es:List GEnt} {A kk n:Nat} {hh:Int} (hK:GK (b.map some) ms es A kk) (h1:1≤b.length) (h6:b.length≤6) (hbn:nn b) (hm:∀ m∈ms,okN b.length m) (hs:smallM ms) (h29:es.length≤29) (hn:n≤es.length) :
  Ok (f_climb [.tup [tI b,tM_ ms],.lst (rowsG (b.map some) es),.int (n:Int),.int hh]) fun w=>∃ bs:List Blk,w=.lst (bs.map blW)∧bs.length≤40∧ldB b.length ms (b.map some) (fun _=>0) bs (sC (b.map some) es n) (fun _=>hh):=by
 have hcl:(b.map some).length=b.length:=List.length_map ..
 have hcn:nnC (b.map some):=nnC_some hbn
 obtain ⟨c,hc⟩:∃ c:Cap,c=b.map some:=⟨_,rfl⟩
 rw [← hc] at hK hcl hcn ⊢
 rw [← hcl] at h1 h6 hm
 have hlen:∀ a,a≤es.length→(sC c es a).length=c.length:=fun a ha=>sC_len hK.len ha
 have kw:=waybG_ok (c:=c) (n:=n) hK.par (by omega) hn
 have kw:f_way_back [.lst (rowsG c es),.int (n:Int)]=.ok (lI (pz (wayG es n))):=kw
 have hwl:=wayG_le hK.par n hn
 have hcut:=cut_last (wayG es n)
 obtain ⟨x0,y0,er⟩:=rowsG_at (c:=c) (es:=es) hn
 have a0:L2.atI [tC (sC c es n),x0,y0] 0=some (tC (sC c es n)):=rfl
 obtain ⟨w0,hw0⟩:∃ w0:Nat→Int,w0=fun p=>((sC c es n).getD p none).getD hh:=⟨_,rfl⟩
 have ew:∀ N mg me ρ (h:∀ o∈sC c es n,∃ ρ1,mg (oW o) (ρ++List.replicate (N-ρ.length) Sl.un)=some ρ1∧me ρ1=.ok (.int (o.getD hh))),mComp N mg yes me ((sC c es n).map oW) ρ=.ok (lI (vF c.length w0)):=fun N mg me ρ h=>by
  have hl:=hlen n hn
  rw [mComp_all (fun o=>.int (o.getD hh)) _ _ ρ (by omega) h]
  refine congrArg (fun l=>R.ok (W.lst l)) ?_
  rw [List.map_map]
  apply List.ext_getElem?
  intro k
  rw [List.getElem?_map,List.getElem?_map]
  by_cases hk:k<c.length
  ·rw [List.getElem?_range hk,List.getElem?_eq_getElem (by omega)]
   show some (W.int _)=some (W.int (w0 k))
   rw [hw0]
   show _=some (W.int (((sC c es n).getD k none).getD hh))
   rw [List.getD_eq_getElem?_getD,List.getElem?_eq_getElem (by omega)]; rfl
  ·rw [List.getElem?_eq_none (by omega),List.getElem?_eq_none (by simp; omega)]; rfl
 have hu:∀ i e,es[i]?=some e→f_unraised [.tup [tI b,tM_ ms],.lst (rowsG c es),.int ((i+1:Nat):Int)]=.ok (tC (aftC (sC c es e.2.1) (mvN ms e.2.2))):=fun i e he=>unr_ok hK h6 hm he
 have hli:∀ i e,es[i]?=some e→f_lifts_of [.tup [tI b,tM_ ms],.lst (rowsG c es),.int ((i+1:Nat):Int)]=.ok (.lst ((lfs c es (wayG es e.2.1) (aftC (sC c es e.2.1) (mvN ms e.2.2))).map lfT)):=fun i e he=>liftsof_ok hK h6 hm (by omega) he
 have hrb:∀ a q,a≤es.length→q∈wayG es a→f_row_between [.lst (rowsG c es),.int (q:Int),.int (a:Int)]=.ok (lI (pz (rowB es q a))):=fun a q ha hq=>rowB_ok hK.par (by omega) ha hq
 have hr2:∀ a,0<a→a≤es.length→∃ x y:W,L2.atI (rowsG c es) (a:Int)=some (.tup [x,y,.int (mvOf es a:Int)]):=fun a h0 h=>row2_at h0 h
 have hsu:∀ r:List Nat,(∀ k∈r,k<ms.length)→f_sum_of [.tup [tI b,tM_ ms],lI (pz r)]=.ok (tI (vF c.length (dsp ms r))):=fun r hr=>by rw [hcl]; exact sumB_ok (by omega) (by omega) (by rw [← hcl]; exact hm) hr
 have hwa:∀ (r:List Nat) (t:Int) (w:Nat→Int),(∀ k∈r,k<ms.length)→r.length≤100→f_wanted_ahead [.tup [tI b,tM_ ms],lI (pz r),.int t,tI (vF c.length w)]=.ok (tI (vF c.length (ahW ms r t w))):=fun r t w hr hl=>by rw [hcl]; exact wah_ok (by omega) (by omega) (by rw [← hcl]; exact hm) hs hr hl
 have hti:∀ (x:Cap) (st w:Nat→Int) (P:List Nat),x.length=c.length→(∀ p∈P,p<c.length∧(∃ v,x.getD p none=some v)∧0<st p∧st p≤1000000000000000000000)→P.length≤6→f_times_for [tC x,tI (vF c.length st),tI (pz P),tI (vF c.length w)]=.ok (.int (tmsF x st P w)):=fun x st w P hx hP hl=>times_ok h6 hx hP hl
 rw [← hcl]
 obtain ⟨mo,hmo⟩:∃ mo,mo=W.tup [tI b,tM_ ms]:=⟨_,rfl⟩
 rw [← hmo] at hu hli hsu hwa ⊢
 obtain ⟨rw_,hrw⟩:∃ rw_,rw_=rowsG c es:=⟨_,rfl⟩
 rw [← hrw] at kw er hu hli hrb hr2 ⊢
 obtain ⟨wy,hwy⟩:∃ wy,wy=wayG es n:=⟨_,rfl⟩
 rw [← hwy] at kw hwl hcut
 obtain ⟨vv,hvv⟩:∃ vv:(Nat→Int)→List Int,vv=vF c.length:=⟨_,rfl⟩
 rw [← hvv] at ew hwa hsu hti
 exists rpB,m_climb,er,a0
 rw [ew]
 rotate_left
 ·intro o ho
  refine ⟨_,rfl,?_⟩
  cases o with
  | none=>
   exists rp18
   rfl
  | some v=>
   exists rp18
   rfl
 exists kw,hcut
 refine ok_end (po_cut (fun ρ=>∃ (bs:List Blk) (w:Nat→Int) (a6 a7 a8 a9 a10 a11:Sl),ρ = [.par mo,.par (.lst rw_),.par (.int (n:Int)),.par (.int hh),.val (tI (vv w)),.own (bs.map blW),a6,a7,a8,a9,a10,a11]∧bs.length≤36∧ldB c.length ms c w bs.reverse (sC c es n) w0) ?_ ?_)
 ·refine po_for (fun j ρ=>∃ (bs:List Blk) (w:Nat→Int) (a6 a7 a8 a9 a10 a11:Sl) (a:Nat),ρ = [.par mo,.par (.lst rw_),.par (.int (n:Int)),.par (.int hh),.val (tI (vv w)),.own (bs.map blW),a6,a7,a8,a9,a10,a11]∧wy[j]?=some a∧bs.length≤j+finC (sC c es a)∧ldB c.length ms (sC c es a) w bs.reverse (sC c es n) w0) ?_ ?_ ?_
  ·have:wy[0]?=some n:=by
    rw [hwy]
    cases n with
    | zero=>rw [wayG_0]; rfl
    | succ i=>rw [wayG_succ hK.par (List.getElem?_eq_getElem (show i<es.length by omega))]; rfl
   exact ⟨[],w0,_,_,_,_,_,_,n,rfl,this,by simp,.refl _ _⟩
  ·rintro j u ρ hj ⟨bs,w,a6,a7,a8,a9,a10,a11,a,rfl,haj,hbl,hld⟩
   rw [pz_W,List.getElem?_map] at hj
   obtain ⟨a',ha',rfl⟩:=Option.map_eq_some_iff.mp hj
   have hjl:j<wy.dropLast.length:=(List.getElem?_eq_some_iff.mp ha').1
   have hjl2:j+1<wy.length:=by rw [List.length_dropLast] at hjl; omega
   have haa:a'=a:=by
    rw [List.getElem?_dropLast,if_pos (by omega),haj] at ha'
    exact (Option.some.inj ha').symm
   subst haa
   have hdr:=way_drop hK.par n hn j a' (by rw [← hwy]; exact haj)
   rw [← hwy] at hdr
   have han:a'≤n:=hwl.1 a' (List.mem_of_getElem? haj)
   cases a' with
   | zero=>
    exfalso
    have:=congrArg List.length hdr
    rw [List.length_drop,wayG_0] at this
    simp at this
    omega
   | succ i=>
    have he:es[i]?=some es[i]:=List.getElem?_eq_getElem (by omega)
    obtain ⟨e,hee⟩:∃ e,e=es[i]:=⟨_,rfl⟩
    rw [← hee] at he
    have hpa:=hK.par i e he
    have hk8:=hK.k8 e (List.mem_of_getElem? he)
    have hi1:i+1≤es.length:=Nat.le_trans han hn
    have he1:e.2.1≤es.length:=Nat.le_trans hpa (Nat.le_of_succ_le hi1)
    have ile:i<es.length:=hi1
    obtain ⟨hab,hbe,_⟩:=hK.beh i e he
    have ku:=hu i e he
    have kl:=hli i e he
    have hnx:wy[j+1]?=some e.2.1:=by
     rw [wayG_succ hK.par he] at hdr
     have:(wy.drop j)[1]?=(wayG es e.2.1)[0]?:=by rw [hdr]; rfl
     rw [List.getElem?_drop] at this
     rw [this]
     cases q:e.2.1 with
     | zero=>rw [wayG_0]; rfl
     | succ i'=>rw [wayG_succ hK.par (List.getElem?_eq_getElem (show i'<es.length by omega))]; rfl
    have hsp:=hlen e.2.1 he1
    have hx0l:(aftC (sC c es e.2.1) (mvN ms e.2.2)).length=c.length:=by rw [aftC_len]; exact hsp
    rw [sC_suc he,hbe] at hbl hld
    obtain ⟨z1,z2,er2⟩:=hr2 (i+1) (Nat.succ_pos i) hi1
    rw [mvOf_at he] at er2
    have b2:L2.atI [z1,z2,W.int (e.2.2:Int)] 2=some (.int (e.2.2:Int)):=rfl
    have hpath:∀ q∈wayG es e.2.1,∀ p,p<c.length→∀ v,(aftC (sC c es e.2.1) (mvN ms e.2.2)).getD p none=some v→∃ u,(sC c es q).getD p none=some u∧u+dsp ms (rowB es q (i+1)) p=v∧hur ms (rowB es q (i+1)) p≤u:=fun q hq p hp v hv=>by
     have hqi:q≠i+1:=by
      have:=(wayG_le hK.par e.2.1 he1).1 q hq
      omega
     rw [aft_at (hsp.symm ▸ hp)] at hv
     cases hu':(sC c es e.2.1).getD p none with
     | none=>rw [hu'] at hv; cases hv
     | some u'=>
      rw [hu'] at hv
      have hv:u'+mvD (mvN ms e.2.2) p=v:=Option.some.inj hv
      obtain ⟨u,eu,ed,eh⟩:=path_ok hK hm hcn hp e.2.1 he1 hq u' hu'
      have hok:okN (sC c es e.2.1).length (mvN ms e.2.2):=by rw [hsp]; exact getM hm hk8
      have h3:=abl_at hok hab (hsp.symm ▸ hp) hu'
      have h4:=nn_at hok.2.2.2 p
      have ed1:mvD (mvN ms e.2.2) p=(mvN ms e.2.2).2.getD p 0-(mvN ms e.2.2).1.getD p 0:=rfl
      have hh:hur ms [e.2.2] p=max ((mvN ms e.2.2).1.getD p 0) (0-mvD (mvN ms e.2.2) p):=rfl
      have hd:dsp ms [e.2.2] p=mvD (mvN ms e.2.2) p+0:=rfl
      rw [rowB_succ hK.par he hqi]
      exact ⟨u,eu,by rw [dsp_app,hd]; omega,hur_app eh (by omega)⟩
    unfold candG at hbl hld
    have hch:=lfs_chn (c:=c) (es:=es) (wayG es e.2.1) (aftC (sC c es e.2.1) (mvN ms e.2.2))
    have hlm:=lfs_mem (c:=c) (es:=es) (wayG es e.2.1) (aftC (sC c es e.2.1) (mvN ms e.2.2))
    have hmv:=fun w=>move_ld (n:=c.length) (w:=w) hsp hk8 (getM hm hk8) hab
    have hfa:finC (aftC (sC c es e.2.1) (mvN ms e.2.2))=finC (sC c es e.2.1):=finC_aft
    have hwm:∀ w,f_wanted_ahead [mo,.lst [.int (e.2.2:Int)],.int 1,tI (vv w)]=.ok (tI (vv (ahW ms [e.2.2] 1 w))):=fun w=>hwa [e.2.2] 1 w (by simpa using hk8) (by simp)
    generalize hX0:aftC (sC c es e.2.1) (mvN ms e.2.2)=X0 at *
    obtain ⟨Lf,hLf⟩:∃ Lf,Lf=lfs c es (wayG es e.2.1) X0:=⟨_,rfl⟩
    rw [← hLf] at kl hch hlm
    refine ⟨_,rfl,?_⟩
    exists ku,kl
    refine po_cut (fun ρ=>∃ (bs:List Blk) (w:Nat→Int) (a8 a9 a10 a11:Sl),ρ = [.par mo,.par (.lst rw_),.par (.int (n:Int)),.par (.int hh),.val (tI (vv w)),.own (bs.map blW),.par (.int ((i+1:Nat):Int)),.val (tC X0),a8,a9,a10,a11]∧bs.length≤j+finC X0∧ldB c.length ms X0 w bs.reverse (sC c es n) w0) ?_ ?_
    ·rw [← List.map_reverse]
     refine po_for (fun m ρ=>∃ (bs:List Blk) (w:Nat→Int) (a8 a9 a10 a11:Sl) (X:Cap),ρ = [.par mo,.par (.lst rw_),.par (.int (n:Int)),.par (.int hh),.val (tI (vv w)),.own (bs.map blW),.par (.int ((i+1:Nat):Int)),.val (tC X0),a8,a9,a10,a11]∧bs.length≤j+finC X∧ldB c.length ms X w bs.reverse (sC c es n) w0∧chn c es X0 (Lf.take (Lf.length-m)) X) ⟨bs,w,_,_,_,_,_,rfl,hbl,hld,by rw [Nat.sub_zero,List.take_length]; exact hch⟩ ?_ ?_
     ·rintro m u ρ hmu ⟨bs,w,a8,a9,a10,a11,X,rfl,hbl,hld,hchm⟩
      rw [List.getElem?_map] at hmu
      obtain ⟨f,hf,rfl⟩:=Option.map_eq_some_iff.mp hmu
      have hmL:m<Lf.length:=by
       have:=(List.getElem?_eq_some_iff.mp hf).1
       rwa [List.length_reverse] at this
      have hfm:f∈Lf:=List.mem_reverse.mp (List.mem_of_getElem? hf)
      rw [List.getElem?_reverse hmL] at hf
      have htk:Lf.take (Lf.length-m)=Lf.take (Lf.length-(m+1)) ++ [f]:=by
       rw [show Lf.length-m=(Lf.length-(m+1))+1 by omega,List.take_add_one,show Lf.length-(m+1)=Lf.length-1-m by omega,hf]; rfl
      rw [htk] at hchm
      obtain ⟨z,hz,hP,hP0,hX⟩:=chn_snoc hchm
      obtain ⟨hzl,hzs⟩:=chn_some hz
      have hq:=hlm f hfm
      have hql:=(wayG_le hK.par e.2.1 he1).1 _ hq
      have hqw:f.1∈wayG es (i+1):=by rw [wayG_succ hK.par he]; exact List.mem_cons_of_mem _ hq
      have krb:=hrb (i+1) f.1 hi1 hqw
      have hrl:=rowB_lt hK (i+1) hi1 hqw
      have hrn:=rowB_len (q:=f.1) hK.par hi1
      have ksu:=hsu _ hrl
      have hund:undB (sC c es f.1) z=true:=plc_und (by rw [← hX,← hP]; exact hP0)
      have hqlen:=hlen f.1 (Nat.le_trans hql he1)
      have hrow:∀ p,p<c.length→∀ v,z.getD p none=some v→∃ u,(sC c es f.1).getD p none=some u∧u+dsp ms (rowB es f.1 (i+1)) p=v∧hur ms (rowB es f.1 (i+1)) p≤u:=fun p hp v hv=>hpath f.1 hq p hp v (hzs p v hv)
      have hpl:∀ p∈f.2,p<c.length∧(∃ v,X0.getD p none=some v)∧0<dsp ms (rowB es f.1 (i+1)) p∧dsp ms (rowB es f.1 (i+1)) p≤1000000000000000000000:=fun p hp=>by
       rw [hP,hX] at hp
       obtain ⟨p1,⟨v,p2⟩,p3⟩:=plc_mem hp
       have hpc:p<c.length:=by omega
       obtain ⟨u,eu,ed,_⟩:=hrow p hpc v p2
       have hle:u≤v:=by
        have:=und_at hund (p:=p) (by omega)
        rw [eu,p2] at this
        exact of_decide_eq_true this
       have hne:v≠u:=fun q=>by
        rw [rai_at hund p1,p2,eu,q] at p3
        unfold rai1 at p3
        rw [if_pos rfl] at p3; cases p3
       have:=dsp_small hs p _ hrl
       exact ⟨hpc,⟨v,hzs p v p2⟩,by omega,by omega⟩
      have hpl6:f.2.length≤6:=by
       have:=plc_len z X
       rw [← hP] at this
       omega
      have kti:=hti X0 (dsp ms (rowB es f.1 (i+1))) w f.2 hx0l hpl hpl6
      have htn:=tms_nn X0 (dsp ms (rowB es f.1 (i+1))) f.2 w
      have hge:∀ p,p<c.length→∀ v,z.getD p none=some v→X.getD p none=none→w p≤v+tmsF X0 (dsp ms (rowB es f.1 (i+1))) f.2 w*dsp ms (rowB es f.1 (i+1)) p:=fun p hp v hv hn'=>by
       have hpm:p∈f.2:=by
        rw [hP]
        unfold plc
        exact List.mem_filter.mpr ⟨List.mem_range.mpr (by omega),decide_eq_true (by rw [hn',hv]; simp)⟩
       exact tms_ge hpm (hzs p v hv) (hpl p hpm).2.2.1
      have hfin:finC X<finC z:=by
       obtain ⟨p,hp⟩:=List.exists_mem_of_ne_nil _ hP0
       rw [hP,hX] at hp
       obtain ⟨p1,⟨v,p2⟩,p3⟩:=plc_mem hp
       rw [hX]
       exact finC_lt (raiB_len _ _) (fun p v h=>rai_some h) p1 p2 p3
      have kwa:=hwa (rowB es f.1 (i+1)) (tmsF X0 (dsp ms (rowB es f.1 (i+1))) f.2 w) w hrl (by omega)
      have hfz:=finC_le z
      have hjn:j≤30:=by omega
      generalize tmsF X0 (dsp ms (rowB es f.1 (i+1))) f.2 w=t at *
      obtain ⟨r,hr⟩:∃ r,r=rowB es f.1 (i+1):=⟨_,rfl⟩
      rw [← hr] at krb hrl hrn ksu hrow hge kwa kti
      obtain ⟨rz,hrz⟩:∃ rz,rz=pz r:=⟨_,rfl⟩
      rw [← hrz] at krb ksu kwa
      refine ⟨_,rfl,?_⟩
      exists krb,ksu,kti
      refine po_if (fun ht=>?_) (fun ht=>?_)
      ·have ht:0<t:=by simpa using ht
       have hL:=lift_ld (ms:=ms) (t:=t) (w:=w) (by omega) hqlen hund hrl (by omega) hrow (by omega) (by rw [← hX]; exact hge)
       rw [← hX] at hL
       exists kwa
       refine ⟨bs ++ [(r,t)],_,_,_,_,_,z,by rw [List.map_append,hrz]; rfl,by rw [List.length_append,List.length_singleton]; omega,by rw [List.reverse_append]; exact hL.cons hld,hz⟩
      ·have ht:t=0:=by
        have:¬ 0<t:=by simpa using ht
        omega
       rw [ht] at hge
       have hL:=lift_ld0 (ms:=ms) (n:=c.length) (x:=z) (e:=sC c es f.1) (w:=w) (by rw [← hX]; intro p hp v hv hn'; have:=hge p hp v hv hn'; omega) (fun p _ h=>rai_none h)
       rw [← hX] at hL
       exists rp18
       exact ⟨bs,w,_,_,_,_,z,rfl,by omega,hL.skip hld,hz⟩
     ·rintro ρ ⟨bs,w,a8,a9,a10,a11,X,rfl,hbl,hld,hchm⟩
      rw [List.length_map,List.length_reverse,Nat.sub_self,List.take_zero] at hchm
      have hchm:X0=X:=hchm
      subst hchm
      exact ⟨bs,w,_,_,_,_,rfl,hbl,hld⟩
    ·rintro ρ ⟨bs,w,a8,a9,a10,a11,rfl,hbl,hld⟩
     have hfl:=finC_le X0
     have hwm:=hwm w
     have hjn:j≤30:=by omega
     exists er2,b2,hwm
     exact ⟨bs ++ [([e.2.2],1)],_,_,_,_,_,_,_,e.2.1,by rw [List.map_append]; rfl,hnx,by rw [List.length_append,List.length_singleton,← hfa]; omega,by rw [List.reverse_append]; exact (hmv w).cons hld⟩
  ·rintro ρ ⟨bs,w,a6,a7,a8,a9,a10,a11,a,rfl,haj,hbl,hld⟩
   rw [List.length_map,pz_len] at haj hbl
   have hdr:=way_drop hK.par n hn _ a (by rw [← hwy]; exact haj)
   rw [← hwy] at hdr
   have han:a≤n:=hwl.1 a (List.mem_of_getElem? haj)
   have ha0:a=0:=by
    cases a with
    | zero=>rfl
    | succ i=>
     exfalso
     have he:es[i]?=some es[i]:=List.getElem?_eq_getElem (by omega)
     have hpa:=hK.par i _ he
     have hr:=way_root hK.par es[i].2.1 (by omega)
     have:=congrArg List.length hdr
     rw [wayG_succ hK.par he,List.length_drop,List.length_cons,List.length_dropLast] at this
     have:=List.length_pos_of_mem hr
     omega
   subst ha0
   have h0:sC c es 0=c:=rfl
   rw [h0] at hbl hld
   have:=finC_le c
   rw [List.length_dropLast] at hbl
   exact ⟨bs,w,_,_,_,_,_,_,rfl,by omega,hld⟩
 ·rintro ρ ⟨bs,w,a6,a7,a8,a9,a10,a11,rfl,hb,hld⟩
  exists rp18
  refine ⟨bs.reverse,by rw [List.map_reverse],by rw [List.length_reverse]; omega,hld.weak (fun p hp q=>?_) (fun p hp q=>?_)⟩
  ·rw [hc,List.getD_eq_getElem?_getD,List.getElem?_map,List.getElem?_eq_getElem (by omega)] at q
   cases q
  ·rw [hw0]
   show hh≤((sC c es n).getD p none).getD hh
   rw [q]; exact Int.le_refl _
theorem small_of {n:Nat} {ms:List Mv} (hm:∀ m∈ms,okN n m) (hu:∀ m∈ms,ub m.1∧ub m.2):smallM ms:=fun m h p=>by
 have h1:=hm m h
 have h2:=hu m h
 have a1:=nn_at h1.2.2.1 p
 have a2:=nn_at h1.2.2.2 p
 have b1:=ub_at h2.1 p
 have b2:=ub_at h2.2 p
 unfold mvD
 omega
theorem whole_ok (z:Int):f__law_whole [.int z]=.ok (.bl true):=by
 exists rpB,m__law_whole
theorem isblk_ok {n:Nat} {ms:List Mv} {s:Nat→Int} {bl:Blk} (h:okB n ms s bl):f__law_is_block [blW bl,.int (ms.length:Int)]=.ok (.bl true):=by
 obtain ⟨h1,h2,h3,_⟩:=h
 obtain ⟨r,t⟩:=bl
 have h1:1≤t:=h1
 have h2:∀ k∈r,k<ms.length:=h2
 have h3:r.length≤30:=h3
 have a0:L2.atI [lI (pz r),W.int t] 0=some (lI (pz r)):=rfl
 have a1:L2.atI [lI (pz r),W.int t] 1=some (.int t):=rfl
 have kw:=whole_ok t
 have d1:decide (t<0)=false:=decide_eq_false (by omega)
 have d2:decide (((pz r).length:Int)>30)=false:=decide_eq_false (by rw [pz_len]; omega)
 have e:∀ N mg me ρ (h:∀ k∈r,∃ ρ1,mg (.int (k:Nat)) (ρ++List.replicate (N-ρ.length) Sl.un)=some ρ1∧me ρ1=.ok (.bl true)),mComp N mg yes me ((pz r).map W.int) ρ=.ok (.lst ((r.map fun _=>true).map W.bl)):=fun N mg me ρ h=>by
  rw [pz_W,mComp_all (fun _=>.bl true) (fun (k:Nat)=>W.int (k:Int)) _ ρ (by omega) h,List.map_map]; rfl
 have hall:gAll (r.map fun _=>true)=true:=by
  unfold gAll
  rw [List.all_eq_true]
  intro x hx
  obtain ⟨_,_,rfl⟩:=List.mem_map.mp hx
  rfl
 show f__law_is_block [.tup [lI (pz r),.int t],.int (ms.length:Int)]=.ok (.bl true)
 have hpl:=pz_len r
 generalize pz r=rz at *
 have d3:decide (30<(r.length:Int))=false:=decide_eq_false (by omega)
 have d22:decide (((2:Nat):Int)=2)=true:=rfl
 exists rpB,m__law_is_block,a0,a1,kw,d1,hpl,d3,d22
 rw [e]
 ·exists hall
 ·intro k hk
  have kk:=whole_ok (k:Int)
  have hk:=h2 k hk
  refine ⟨_,rfl,?_⟩
  have w1:decide ((0:Int)≤(k:Int))=true:=decide_eq_true (by omega)
  have w2:decide ((k:Int)<(ms.length:Int))=true:=decide_eq_true (by omega)
  exists kk,w1,w2
theorem hur_pre {ms:List Mv} {p:Nat}:∀ (r:List Nat) (j k:Nat),r[j]?=some k→(mvN ms k).1.getD p 0-dsp ms (r.take j) p≤hur ms r p
 | [],_,_,h=>by cases h
 | a::r,0,k,h=>by
  cases h
  show (mvN ms a).1.getD p 0-0≤max ((mvN ms a).1.getD p 0) (hur ms r p-mvD (mvN ms a) p)
  omega
 | a::r,j+1,k,h=>by
  have:=hur_pre (ms:=ms) (p:=p) r j k h
  show (mvN ms k).1.getD p 0-(mvD (mvN ms a) p+dsp ms (r.take j) p)≤max ((mvN ms a).1.getD p 0) (hur ms r p-mvD (mvN ms a) p)
  omega
theorem hur_nn {n:Nat} {ms:List Mv} (hm:∀ m∈ms,okN n m) {p:Nat}:∀ r:List Nat,(∀ k∈r,k<ms.length)→0≤hur ms r p
 | [],_=>Int.le_refl 0
 | a::r,h=>by
  have:=nn_at (getM hm (h a List.mem_cons_self)).2.2.1 p
  have:0≤(mvN ms a).1.getD p 0:=this
  show 0≤max ((mvN ms a).1.getD p 0) (hur ms r p-mvD (mvN ms a) p)
  omega
theorem vF_set {n m:Nat} {f:Nat→Int} {v:Int} (hm:m<n):(vF n f).set m v=vF n fun p=>if p=m then v else f p:=by
 apply List.ext_getElem?
 intro k
 by_cases e:m=k
 ·subst e
  rw [List.getElem?_set_self (by simpa using hm),List.getElem?_map,List.getElem?_range hm]
  show some v=some (if m=m then v else f m)
  rw [if_pos rfl]
 ·rw [List.getElem?_set_ne e,List.getElem?_map,List.getElem?_map]
  by_cases hk:k<n
  ·rw [List.getElem?_range hk]
   show some (f k)=some (if k=m then v else f k)
   rw [if_neg (fun q=>e q.symm)]
  ·rw [List.getElem?_eq_none (by simp; omega)]; rfl
theorem vF_at {n p:Nat} (f:Nat→Int) (h:p<n):L2.atI ((vF n f).map W.int) (p:Int)=some (.int (f p)):=atW_of (by rw [List.getElem?_map,List.getElem?_map,List.getElem?_range h]; rfl)
theorem dsp_take {ms:List Mv} {p:Nat} {r:List Nat} {j k:Nat} (h:r[j]?=some k):dsp ms (r.take (j+1)) p=dsp ms (r.take j) p+mvD (mvN ms k) p:=by
 rw [List.take_add_one,h,dsp_app]
 show _+(mvD (mvN ms k) p+0)=_
 omega
theorem gone_ok {n:Nat} {ms:List Mv} {s:Nat→Int} {r:List Nat} {t:Int} (h6:n≤6) (hm:∀ m∈ms,okN n m) (hs:smallM ms) (h:okB n ms s (r,t)):f__law_gone [lI (vF n s),tM_ ms,lI (pz r),.int t]=.ok (lI (vF n (aftB ms s (r,t)))):=by
 have fin:Ok (f__law_gone [lI (vF n s),tM_ ms,lI (pz r),.int t]) fun v=>v=lI (vF n (aftB ms s (r,t))):=by
  obtain ⟨h1,h2,h3,h4⟩:=h
  have h1:1≤t:=h1
  have h2:∀ k∈r,k<ms.length:=h2
  have h3:r.length≤30:=h3
  have h4:∀ p,p<n→hur ms r p≤s p∧hur ms r p≤s p+(t-1)*dsp ms r p:=h4
  have d0:decide (t=0)=false:=decide_eq_false (by omega)
  have hvl:=vF_len n s
  have hs0:∀ p,p<n→L2.atI ((vF n s).map W.int) (p:Int)=some (.int (s p)):=fun p hp=>vF_at s hp
  have e0:∀ N mg me ρ (h:∀ x∈vF n s,∃ ρ1,mg (.int x) (ρ++List.replicate (N-ρ.length) Sl.un)=some ρ1∧me ρ1=.ok (.int 0)),mComp N mg yes me ((vF n s).map W.int) ρ=.ok (lI (vF n fun _=>0)):=fun N mg me ρ h=>by
   rw [mComp_all (fun _=>.int 0) _ _ ρ (by rw [hvl]; omega) h]
   refine congrArg (fun l=>R.ok (W.lst l)) ?_
   rw [List.map_map,List.map_map]; rfl
  have ef:∀ N mg me ρ (h:∀ p,p<n→∃ ρ1,mg (.int (p:Nat)) (ρ++List.replicate (N-ρ.length) Sl.un)=some ρ1∧me ρ1=.ok (.int (aftB ms s (r,t) p))),mComp N mg yes me ((List.range n).map fun k=>W.int (k:Nat)) ρ=.ok (lI (vF n (aftB ms s (r,t)))):=fun N mg me ρ h=>by
   rw [mComp_all (fun p=>.int (aftB ms s (r,t) p)) _ _ ρ (by simp; omega) (fun k hk=>h k (by simpa using hk)),mapI]
  obtain ⟨sv,hsv⟩:∃ sv,sv=vF n s:=⟨_,rfl⟩
  rw [← hsv] at hvl hs0 e0 ⊢
  exists rpB,m__law_gone,d0
  rw [e0]
  rotate_left
  ·intro x hx
   refine ⟨_,rfl,?_⟩
   exists rp18
  exists rp18
  rw [e0]
  rotate_left
  ·intro x hx
   refine ⟨_,rfl,?_⟩
   exists rp18
  exists rp18
  refine ok_end (po_cut (fun ρ=>∃ (lo:Nat→Int) (a6 a7 a8 a9:Sl),ρ = [.par (lI sv),.par (tM_ ms),.par (lI (pz r)),.par (.int t),.own ((vF n lo).map W.int),.own ((vF n (dsp ms r)).map W.int),a6,a7,a8,a9]∧∀ p,p<n→lo p≤hur ms r p) ?_ ?_)
  ·refine po_for (fun j ρ=>∃ (lo:Nat→Int) (a6 a7 a8 a9:Sl),ρ = [.par (lI sv),.par (tM_ ms),.par (lI (pz r)),.par (.int t),.own ((vF n lo).map W.int),.own ((vF n (dsp ms (r.take j))).map W.int),a6,a7,a8,a9]∧∀ p,p<n→lo p≤hur ms r p) ⟨fun _=>0,_,_,_,_,rfl,fun p _=>hur_nn hm r h2⟩ ?_ ?_
   ·rintro j u ρ hj ⟨lo,a6,a7,a8,a9,rfl,hlo⟩
    rw [pz_W,List.getElem?_map] at hj
    obtain ⟨k,hk,rfl⟩:=Option.map_eq_some_iff.mp hj
    have hkm:=h2 k (List.mem_of_getElem? hk)
    have ej:L2.atI (ms.map mW) (k:Int)=some (mW (mvN ms k)):=by
     have:=atM (ms:=ms) (r:=(k:Int)) (by omega) (by omega)
     rw [Int.toNat_natCast] at this
     exact this
    have hok:=getM hm hkm
    have hok:okN n (mvN ms k):=hok
    refine ⟨_,rfl,?_⟩
    exists ej,hvl
    refine po_for (fun m ρ=>∃ (f g:Nat→Int) (a9:Sl),ρ = [.par (lI sv),.par (tM_ ms),.par (lI (pz r)),.par (.int t),.own ((vF n f).map W.int),.own ((vF n g).map W.int),.par (.int (k:Int)),.par (tI (mvN ms k).1),.par (tI (mvN ms k).2),a9]∧(∀ p,p<n→p<m→f p≤hur ms r p∧g p=dsp ms (r.take (j+1)) p)∧∀ p,p<n→m≤p→f p=lo p∧g p=dsp ms (r.take j) p) ⟨lo,dsp ms (r.take j),_,rfl,fun p _ h=>absurd h (Nat.not_lt_zero _),fun p _ _=>⟨rfl,rfl⟩⟩ ?_ ?_
    ·rintro m u ρ hmu ⟨f,g,a9,rfl,hlt,hge⟩
     obtain ⟨hmn,rfl⟩:=rng_at hmu
     have q1:=vF_at f hmn
     have q2:=vF_at g hmn
     have m1:=atW_nat (ns:=(mvN ms k).1) (k:=m) (by rw [hok.1]; exact hmn)
     have m2:=atW_nat (ns:=(mvN ms k).2) (k:=m) (by rw [hok.2.1]; exact hmn)
     have hpr:=hur_pre (ms:=ms) (p:=m) r j k hk
     obtain ⟨g1,g2⟩:=hge m hmn (Nat.le_refl _)
     have hl:=hlo m hmn
     refine ⟨_,rfl,?_⟩
     exists q1,q2,m1,m2
     rw [vF_set hmn,vF_set hmn]
     have hdt:=dsp_take (ms:=ms) (p:=m) hk
     have hmd:mvD (mvN ms k) m=(mvN ms k).2.getD m 0-(mvN ms k).1.getD m 0:=rfl
     refine ⟨_,_,_,rfl,fun p hp hpm=>?_,fun p hp hpm=>?_⟩
     ·by_cases e:p=m
      ·subst e
       rw [if_pos rfl,if_pos rfl]
       exact ⟨by omega,by omega⟩
      ·rw [if_neg e,if_neg e]
       exact hlt p hp (by omega)
     ·rw [if_neg (by omega),if_neg (by omega)]
      exact hge p hp (by omega)
    ·rintro ρ ⟨f,g,a9,rfl,hlt,hge⟩
     rw [List.length_map,List.length_range] at hlt
     have:vF n g=vF n (dsp ms (r.take (j+1))):=List.map_congr_left fun p hp=>(hlt p (List.mem_range.mp hp) (List.mem_range.mp hp)).2
     rw [this]
     exact ⟨f,_,_,_,_,rfl,fun p hp=>(hlt p hp hp).1⟩
   ·rintro ρ ⟨lo,a6,a7,a8,a9,rfl,hlo⟩
    rw [List.length_map,pz_len,List.take_length]
    exact ⟨lo,_,_,_,_,rfl,hlo⟩
  ·rintro ρ ⟨lo,a6,a7,a8,a9,rfl,hlo⟩
   exists hvl
   refine po_fors (fun m ρ=>∃ (a9:Sl),ρ = [.par (lI sv),.par (tM_ ms),.par (lI (pz r)),.par (.int t),.own ((vF n lo).map W.int),.own ((vF n (dsp ms r)).map W.int),a6,a7,a8,a9]) ⟨_,rfl⟩ ?_ ?_
   ·rintro m u ρ hmu ⟨a9,rfl⟩
    obtain ⟨hmn,rfl⟩:=rng_at hmu
    have q0:=hs0 m hmn
    have q1:=vF_at lo hmn
    have q2:=vF_at (dsp ms r) hmn
    have hds:=dsp_small hs m r h2
    obtain ⟨g1,g2⟩:=h4 m hmn
    have hl:=hlo m hmn
    have hmx:max (0-dsp ms r m) 0<18446744073709551616 ∧ -18446744073709551616<max (0-dsp ms r m) 0:=by omega
    have qm:=mul_R (i:=t-1) (j:=max (0-dsp ms r m) 0) ⟨hmx.2,hmx.1⟩
    have dl:decide (s m<lo m+(t-1)*max (0-dsp ms r m) 0)=false:=decide_eq_false (by
     by_cases q:0≤dsp ms r m
     ·rw [show max (0-dsp ms r m) 0=0 by omega,Int.mul_zero]; omega
     ·rw [show max (0-dsp ms r m) 0 = -dsp ms r m by omega,Int.mul_neg]; omega)
    refine ⟨_,rfl,?_⟩
    exists q0,q1,q2,qm,dl
    exact ⟨_,rfl⟩
   ·rintro ρ ⟨a9,rfl⟩
    exists hvl
    rw [ef]
    ·exists rp18
    ·intro p hp
     have q0:=hs0 p hp
     have q2:=vF_at (dsp ms r) hp
     have hds:=dsp_small hs p r h2
     have qm:=mul_R (i:=t) (j:=dsp ms r p) ⟨by omega,by omega⟩
     refine ⟨_,rfl,?_⟩
     exists q0,q2,qm
     rfl
 obtain ⟨v,e,rfl⟩:=fin
 exact e
theorem tI_vF (b:List Int):b=vF b.length fun p=>b.getD p 0:=by
 apply List.ext_getElem?
 intro k
 rw [List.getElem?_map]
 by_cases hk:k<b.length
 ·rw [List.getElem?_range hk,List.getElem?_eq_getElem hk]
  show _=some (b.getD k 0)
  rw [List.getD_eq_getElem?_getD,List.getElem?_eq_getElem hk]; rfl
 ·rw [List.getElem?_eq_none (by omega),List.getElem?_eq_none (by simp; omega)]; rfl
theorem goB_end {n:Nat} {ms:List Mv}:∀ (bs:List Blk) (s:Nat→Int) (j:Nat) (bl:Blk),goB n ms bs s→bs[j]?=some bl→okB n ms (endB ms (bs.take j) s) bl∧endB ms (bs.take (j+1)) s=aftB ms (endB ms (bs.take j) s) bl
 | [],_,_,_,_,h=>by cases h
 | b::bs,s,0,bl,hg,h=>by cases h; exact ⟨hg.1,rfl⟩
 | b::bs,s,j+1,bl,hg,h=>goB_end bs (aftB ms s b) j bl hg.2 h
theorem shp_tC (n:Nat) (cs:Cap):shp (n+1) (tC cs)=true:=shps_map oW n (fun o=>by cases o with | none=>exact shp_non n | some i=>exact shp_int n i) cs
theorem comes_ok {b:List Int} {ms:List Mv} {bs:List Blk} {cp:Cap} {hh:Int} (h6:b.length≤6) (hm:∀ m∈ms,okN b.length m) (hs:smallM ms) (hl:bs.length≤40) (hcp:cp.length=b.length) (hg:goB b.length ms bs fun p=>b.getD p 0) (hf:fitC b.length cp (fun _=>hh) (endB ms bs fun p=>b.getD p 0)):f__law_comes_to [tI b,tM_ ms,.lst (bs.map blW),tC cp,.int hh]=.ok (.bl true):=by
 have fin:Ok (f__law_comes_to [tI b,tM_ ms,.lst (bs.map blW),tC cp,.int hh]) fun v=>v=.bl true:=by
  have hbl:(bs.map blW).length=bs.length:=List.length_map ..
  have d1:decide (100<(bs.length:Int))=false:=decide_eq_false (by omega)
  have hml:(ms.map mW).length=ms.length:=List.length_map ..
  have kb:∀ (s:Nat→Int) (bl:Blk),okB b.length ms s bl→f__law_is_block [blW bl,.int (ms.length:Int)]=.ok (.bl true):=fun s bl h=>isblk_ok h
  have kg:∀ (s:Nat→Int) (r:List Nat) (t:Int),okB b.length ms s (r,t)→f__law_gone [lI (vF b.length s),tM_ ms,lI (pz r),.int t]=.ok (lI (vF b.length (aftB ms s (r,t)))):=fun s r t h=>gone_ok h6 hm hs h
  obtain ⟨mw,hmw⟩:∃ mw,mw=ms.map mW:=⟨_,rfl⟩
  rw [← hmw] at hml
  have kg:∀ (s:Nat→Int) (r:List Nat) (t:Int),okB b.length ms s (r,t)→f__law_gone [lI (vF b.length s),.tup mw,lI (pz r),.int t]=.ok (lI (vF b.length (aftB ms s (r,t)))):=by rw [hmw]; exact kg
  obtain ⟨bw,hbw⟩:∃ bw,bw=bs.map blW:=⟨_,rfl⟩
  rw [← hbw] at hbl
  have hco:∀ k,k<cp.length→L2.atI (cp.map oW) (k:Int)=some (oW (cp.getD k none)):=fun k hk=>atO hk
  have hcl:(cp.map oW).length=cp.length:=List.length_map ..
  obtain ⟨cw,hcw⟩:∃ cw,cw=cp.map oW:=⟨_,rfl⟩
  rw [← hcw] at hco hcl
  show Ok (f__law_comes_to [tI b,.tup (ms.map mW),.lst (bs.map blW),.tup (cp.map oW),.int hh]) fun v=>v=.bl true
  rw [← hbw,← hmw,← hcw]
  exists rpB,m__law_comes_to,hbl,d1,chks_no (noLs_ints b)
  refine ok_end (po_fors (fun j ρ=>∃ (a6:Sl),ρ = [.par (tI b),.par (.tup mw),.par (.lst bw),.par (.tup cw),.par (.int hh),.own ((vF b.length (endB ms (bs.take j) fun p=>b.getD p 0)).map W.int),a6,.un]) ⟨.un,by rw [List.take_zero]; show _ = [_,_,_,_,_,Sl.own ((vF b.length fun p=>b.getD p 0).map W.int),_,_]; rw [← tI_vF b]⟩ ?_ ?_)
  ·rintro j u ρ hu ⟨a4,rfl⟩
   rw [hbw,List.getElem?_map] at hu
   obtain ⟨⟨r,t⟩,hbl2,rfl⟩:=Option.map_eq_some_iff.mp hu
   obtain ⟨ho,he⟩:=goB_end bs _ j (r,t) hg hbl2
   rw [he]
   clear hf
   generalize endB ms (bs.take j) (fun p=>b.getD p 0)=s at *
   have k1:=kb s (r,t) ho
   have k1:f__law_is_block [.tup [lI (pz r),.int t],.int (ms.length:Int)]=.ok (.bl true):=k1
   have k2:=kg s r t ho
   have a0:L2.atI [lI (pz r),W.int t] 0=some (lI (pz r)):=rfl
   have a1:L2.atI [lI (pz r),W.int t] 1=some (.int t):=rfl
   have eb:blW (r,t)=.tup [lI (pz r),.int t]:=rfl
   generalize vF b.length s=sv at *
   generalize vF b.length (aftB ms s (r,t))=sv2 at *
   generalize pz r=rz at *
   refine ⟨_,rfl,?_⟩
   exists eb,hml,k1,a0,a1,k2
   exact ⟨_,rfl⟩
  ·rintro ρ ⟨a6,rfl⟩
   rw [hbl,List.take_length]
   have hsv:∀ p,p<b.length→L2.atI ((vF b.length (endB ms bs fun p=>b.getD p 0)).map W.int) (p:Int)=some (.int (endB ms bs (fun p=>b.getD p 0) p)):=fun p hp=>vF_at _ hp
   generalize vF b.length (endB ms bs fun p=>b.getD p 0)=sv at *
   generalize endB ms bs (fun p=>b.getD p 0)=ev at *
   exists hcl
   refine po_fors (fun j ρ=>∃ (a7:Sl),ρ = [.par (tI b),.par (.tup mw),.par (.lst bw),.par (.tup cw),.par (.int hh),.own (sv.map W.int),a6,a7]) ⟨_,rfl⟩ ?_ ?_
   ·rintro j u ρ hu ⟨a7,rfl⟩
    obtain ⟨hj,rfl⟩:=rng_at hu
    have q1:=hco j hj
    have q2:=hsv j (by omega)
    obtain ⟨f1,f2⟩:=hf j (by omega)
    refine ⟨_,rfl,?_⟩
    cases ho:cp.getD j none with
    | none=>
     rw [ho] at q1
     have eo:oW none=.non:=rfl
     have f2:hh≤ev j:=f2 ho
     have d2:decide (ev j<hh)=false:=decide_eq_false (by omega)
     exists q1,q2,eo,d2
     exact ⟨_,rfl⟩
    | some v=>
     rw [ho] at q1
     have eo:oW (some v)=.int v:=rfl
     have k3:fEq true (.int (ev j)) (.int v)=.ok (.bl false):=by rw [f1 v ho]; exact fEq_self (shp_int 8 v)
     exists q1,q2,eo,k3
     exact ⟨_,rfl⟩
   ·rintro ρ ⟨a7,rfl⟩
    exists rp18
 obtain ⟨v,e,rfl⟩:=fin
 exact e
theorem height_ok {ns:List Int} {k:Int} (h0:0≤k) (h1:k≤1000):Ok (f__law_height [.scr (ns.map W.int),.int k]) fun w=>∃ z:Int,w=.int z:=by
 obtain ⟨_,e2,d,rfl,hd0,hd1⟩:=draw_ok (ns:=ns) (k:=k) (m:=4) h0 h1 (by omega)
 obtain ⟨_,ek,q,rfl,hq0,hq1⟩:=draw_ok (ns:=ns) (k:=k) (m:=10) h0 h1 (by omega)
 obtain ⟨_,ec,c,rfl⟩:=cellm_ok (ns:=ns) (k:=k)
 exists rpB,m__law_height,e2
 refine ok_end (po_ifs (fun h=>?_) (fun h=>?_))
 ·exists rp18
  exact ⟨_,rfl⟩
 exists rp18
 refine po_ifs (fun h=>?_) (fun h=>?_)
 ·exists ec
  exact ⟨_,rfl⟩
 ·exists ek
  exact ⟨_,rfl⟩
noncomputable def rot (st:List Int) (f:Int):List Int:=cutI st (some f) none++cutI st none (some f)
theorem rot_len {st:List Int} {f:Int} (h0:0≤f):(rot st f).length=st.length:=by
 obtain ⟨n,rfl⟩:∃ n:Nat,f=(n:Int):=⟨f.toNat,by omega⟩
 unfold rot cutI
 rw [List.length_append,HT.sIx_nat,HT.sIx_none,HT.sIx_none,HT.sIx_nat,List.length_take,List.length_drop,List.length_take,List.length_drop]
 omega
theorem rot_nn {st:List Int} {f:Int} (h:nn st):nn (rot st f):=fun x hx=>by
 rcases List.mem_append.mp hx with q | q
 ·exact cutI_mem h x q
 ·exact cutI_mem h x q
theorem lturned_ok {st:List Int} {f:Int} (h6:st.length≤6):f__law_turned [lI st,.int f]=.ok (tI (rot st f)):=by
 have l1:=cutI_len st (some f) none
 have l2:=cutI_len st none (some f)
 exists rpB,m__law_turned
 rfl
theorem some_ok {ns:List Int} {k:Int} (h0:0≤k) (h1:k≤1000):Ok (f__law_some [.scr (ns.map W.int),.int k]) fun w=>∃ z:Int,w=.int z∧0≤z∧z≤1000000000:=by
 obtain ⟨_,e1,d,rfl,_,_⟩:=draw_ok (ns:=ns) (k:=59) (m:=2) (by omega) (by omega) (by omega)
 obtain ⟨_,e2,c,rfl⟩:=cellm_ok (ns:=ns) (k:=k)
 obtain ⟨_,e3,g,rfl,hg0,hg1⟩:=draw_ok (ns:=ns) (k:=k) (m:=3) (by omega) (by omega) (by omega)
 exists rpB,m__law_some,e1
 refine ok_end (po_ifs (fun h=>?_) (fun h=>?_))
 ·exists e2
  exact ⟨_,rfl,by omega,by omega⟩
 ·exists e3
  exact ⟨_,rfl,by omega,by omega⟩
noncomputable abbrev pW (m:Mv):W:=.tup [lI m.1,lI m.2]
noncomputable def okU (n:Nat) (m:Mv):Prop:=okN n m∧ub m.1∧ub m.2
theorem rot_k {n:Nat} {m:Mv} {f:Int} (h0:0≤f) (h:okU n m):okU n (rot m.1 f,rot m.2 f):=
 ⟨⟨by rw [rot_len h0]; exact h.1.1,by rw [rot_len h0]; exact h.1.2.1,rot_nn h.1.2.2.1,rot_nn h.1.2.2.2⟩,fun x hx=>by
  rcases List.mem_append.mp hx with q | q
  ·exact cutI_mem h.2.1 x q
  ·exact cutI_mem h.2.1 x q,fun x hx=>by
  rcases List.mem_append.mp hx with q | q
  ·exact cutI_mem h.2.2 x q
  ·exact cutI_mem h.2.2 x q⟩
theorem knot_rest {ns:List Int} {b:List Int} {n:Nat} {a1 a2 a5:Sl} {P:Rho→Prop} {f:Int} (e8:f__law_draw [.scr (ns.map W.int),.int 58,.int 3]=.ok (.int f)) (hf0:0≤f) (h1:1≤n) (h6:n≤6) (hb:b.length=n) (hbn:nn b) {ρ:Rho} (hρ:∃ qs:List Mv,ρ = [.par (.scr (ns.map W.int)),a1,a2,.own (b.map W.int),.own (qs.map pW),a5,.un]∧(∀ p∈qs,okU n p)∧qs.length≤5):Po ((mSeq (sF 6 (bA f__law_draw (aC (mVar .B 0) (aC (mC (.int 58)) (aC (mC (.int 3)) aN)))))
  (sRet (vTup (aC (bA f__law_turned (aC (mVar .B 3) (aC (mVar .B 6) aN))) (aC (bA (fTup true) (aC (vComp 9 (bS (mVar .B 4)) (gT 2 (gsCons (gN .U 7) (gsCons (gN .U 8) gsNil))) yes (vTup (aC (bA f__law_turned (aC (mVar .B 7) (aC (mVar .B 6) aN))) (aC (bA f__law_turned (aC (mVar .B 8) (aC (mVar .B 6) aN))) aN)))) aN)) aN))))) ρ) P fun w=>∃ (n:Nat) (b:List Int) (ms:List Mv),w=.tup [tI b,tM_ ms]∧1≤n∧n≤6∧b.length=n∧nn b∧(∀ m∈ms,okU n m)∧ms.length≤8:=by
 obtain ⟨qs,rfl,hq,hql⟩:=hρ
 have et:=lturned_ok (st:=b) (f:=f) (by omega)
 have ek:∀ N mg me ρ,(∀ p∈qs,∃ ρ1,mg (pW p) (ρ++List.replicate (N-ρ.length) Sl.un)=some ρ1∧me ρ1=.ok (mW (rot p.1 f,rot p.2 f)))→mComp N mg yes me (qs.map pW) ρ=.ok (.lst ((qs.map fun p=>(rot p.1 f,rot p.2 f)).map mW)):=fun N mg me ρ h=>by
  rw [mComp_all (fun p=>mW (rot p.1 f,rot p.2 f)) _ _ ρ (by omega) h,List.map_map]; rfl
 exists e8,et
 rw [ek]
 ·exists chkT_no (noLs_M (qs.map fun p=>(rot p.1 f,rot p.2 f))),chk_no (noL_tI (rot b f))
  refine ⟨n,rot b f,qs.map fun p=>(rot p.1 f,rot p.2 f),rfl,h1,h6,by rw [rot_len hf0]; exact hb,rot_nn hbn,fun m hm=>?_,by rw [List.length_map]; omega⟩
  obtain ⟨p,hp',rfl⟩:=List.mem_map.mp hm
  exact rot_k hf0 (hq p hp')
 ·intro p hp'
  obtain ⟨⟨x1,x2,_⟩,_⟩:=hq p hp'
  have k1:=lturned_ok (st:=p.1) (f:=f) (by omega)
  have k2:=lturned_ok (st:=p.2) (f:=f) (by omega)
  refine ⟨_,rfl,?_⟩
  exists k1,k2
theorem knot_if {ns:List Int} {b:List Int} {ps:List Mv} {n:Nat} {a1 a2 a5:Sl} {Q:W→Prop} {d7:Int} (hp:∀ p∈ps,okU n p) (hl:ps.length≤5):Po (ifS (R.ok (decide (d7=0))) (sF 4 (vRv true (mVar .C 4) (pS (b1 (fU gNeg) (mC (.int 1)))))) sNx [.par (.scr (ns.map W.int)),a1,a2,.own (b.map W.int),.own (ps.map pW),a5,.un]) (fun ρ=>∃ qs:List Mv,ρ = [.par (.scr (ns.map W.int)),a1,a2,.own (b.map W.int),.own (qs.map pW),a5,.un]∧(∀ p∈qs,okU n p)∧qs.length≤5) Q:=by
 refine po_if (fun q=>?_) (fun q=>?_)
 ·exists vRv_ap,Rrv_l
  exact ⟨ps.reverse,by rw [List.map_reverse],fun p hp'=>hp p (List.mem_reverse.mp hp'),by rw [List.length_reverse]; exact hl⟩
 ·exists rp18
  exact ⟨ps,rfl,hp,hl⟩
theorem okU3 {a b c d e f:Int} (h:(0≤a∧a≤1000000000)∧(0≤b∧b≤1000000000)∧(0≤c∧c≤1000000000)∧(0≤d∧d≤1000000000)∧(0≤e∧e≤1000000000)∧(0≤f∧f≤1000000000)):okU 3 ([a,b,c],[d,e,f]):=by
 have n3:∀ a b c:Int,0≤a→0≤b→0≤c→nn [a,b,c]:=fun a b c ha hb hc x hx=>by
  simp only [List.mem_cons,List.not_mem_nil,or_false] at hx
  rcases hx with rfl | rfl | rfl <;> assumption
 have u3:∀ a b c:Int,a≤1000000000→b≤1000000000→c≤1000000000→ub [a,b,c]:=fun a b c ha hb hc x hx=>by
  simp only [List.mem_cons,List.not_mem_nil,or_false] at hx
  rcases hx with rfl | rfl | rfl <;> omega
 exact ⟨⟨rfl,rfl,n3 _ _ _ h.1.1 h.2.1.1 h.2.2.1.1,n3 _ _ _ h.2.2.2.1.1 h.2.2.2.2.1.1 h.2.2.2.2.2.1⟩,u3 _ _ _ h.1.2 h.2.1.2 h.2.2.1.2,u3 _ _ _ h.2.2.2.1.2 h.2.2.2.2.1.2 h.2.2.2.2.2.2⟩
theorem knot_ok {ns:List Int}:Ok (f__law_knot [.scr (ns.map W.int)]) fun w=>∃ (n:Nat) (b:List Int) (ms:List Mv),w=.tup [tI b,tM_ ms]∧1≤n∧n≤6∧b.length=n∧nn b∧(∀ m∈ms,okU n m)∧ms.length≤8:=by
 obtain ⟨_,e0,s0,rfl,h00,h01⟩:=some_ok (ns:=ns) (k:=60) (by omega) (by omega)
 obtain ⟨_,e1,s1,rfl,h10,h11⟩:=some_ok (ns:=ns) (k:=61) (by omega) (by omega)
 obtain ⟨_,e2,s2,rfl,h20,h21⟩:=some_ok (ns:=ns) (k:=62) (by omega) (by omega)
 obtain ⟨_,e3,s3,rfl,h30,h31⟩:=some_ok (ns:=ns) (k:=63) (by omega) (by omega)
 obtain ⟨_,e4,s4,rfl,h40,h41⟩:=some_ok (ns:=ns) (k:=64) (by omega) (by omega)
 obtain ⟨_,e6,q,rfl,hq0,hq1⟩:=draw_ok (ns:=ns) (k:=56) (m:=3) (by omega) (by omega) (by omega)
 obtain ⟨_,e7,d7,rfl,_,_⟩:=draw_ok (ns:=ns) (k:=57) (m:=2) (by omega) (by omega) (by omega)
 obtain ⟨_,e8,f,rfl,hf0,hf1⟩:=draw_ok (ns:=ns) (k:=58) (m:=3) (by omega) (by omega) (by omega)
 have r0:fRep true (W.lst [W.int 0,W.int 0]) (W.int 0)=.ok (.lst []):=by rfl
 have r1:fRep true (W.lst [W.int 0,W.int 0]) (W.int 1)=.ok (.lst [.int 0,.int 0]):=by rfl
 have z01:decide ((0:Int)=1)=false:=rfl
 have z02:decide ((0:Int)=2)=false:=rfl
 have hc:q=0∨q=1∨q=2:=by omega
 have nn3:∀ a b c:Int,0≤a→0≤b→0≤c→nn [a,b,c]:=fun a b c ha hb hc x hx=>by
  simp only [List.mem_cons,List.not_mem_nil,or_false] at hx
  rcases hx with rfl | rfl | rfl <;> assumption
 rcases hc with rfl | rfl | rfl
 ·exists rpB,m__law_knot,e6,r0,e0,e1,e2,e3,e7,z01,z02
  refine ok_end (po_cut (fun ρ=>∃ qs:List Mv,ρ = [.par (.scr (ns.map W.int)),.val (.int 0),.own [],.own (([0,0,s0]:List Int).map W.int),.own (qs.map pW),.un,.un]∧(∀ p∈qs,okU 3 p)∧qs.length≤5) ?_ fun ρ h=>knot_rest (n:=3) e8 hf0 (by omega) (by omega) rfl (nn3 _ _ _ (by omega) (by omega) h00) h)
  refine knot_if (ns:=ns) (b:=[0,0,s0]) (n:=3) (d7:=d7) (ps:=[([0,0,s0],[0,s1,0]),([0,0,0],[s2,0,s3])]) (fun p hp=>?_) (by simp)
  simp only [List.mem_cons,List.not_mem_nil,or_false] at hp
  rcases hp with rfl | rfl
  ·exact okU3 (by omega)
  ·exact okU3 (by omega)
 ·obtain ⟨th,hth⟩:∃ th:Nat→Int,∀ k:Nat,k<6→f__law_draw [.scr (ns.map W.int),.int (64+(k:Int)),.int 3]=.ok (.int (th k))∧0≤th k∧th k<3:=by
   have key:∀ k:Nat,k<6→∃ z:Int,f__law_draw [.scr (ns.map W.int),.int (64+(k:Int)),.int 3]=.ok (.int z)∧0≤z∧z<3:=fun k hk=>by
    obtain ⟨_,e,z,rfl,z0,z1⟩:=draw_ok (ns:=ns) (k:=64+(k:Int)) (m:=3) (by omega) (by omega) (by omega)
    exact ⟨z,e,z0,z1⟩
   refine ⟨fun k=>if h:k<6 then Classical.choose (key k h) else 0,fun k hk=>?_⟩
   dsimp only
   rw [dif_pos hk]
   exact Classical.choose_spec (key k hk)
  have z11:decide ((1:Int)=1)=true:=rfl
  have z12:decide ((1:Int)=2)=false:=rfl
  have ek:∀ N mg me ρ (h:∀ k,k<6→∃ ρ1,mg (.int (k:Nat)) (ρ++List.replicate (N-ρ.length) Sl.un)=some ρ1∧me ρ1=.ok (.int (th k))),mComp N mg yes me ((List.range 6).map fun k=>W.int (k:Nat)) ρ=.ok (.lst [.int (th 0),.int (th 1),.int (th 2),.int (th 3),.int (th 4),.int (th 5)]):=fun N mg me ρ h=>by
   rw [mComp_all (fun k=>.int (th k)) _ _ ρ (by simp) (fun k hk=>h k (by simpa using hk))]; rfl
  exists rpB,m__law_knot,e6,r0,e0,e1,e2,e3,z11,z12
  rw [ek]
  rotate_left
  ·intro k hk
   have k1:=(hth k hk).1
   refine ⟨_,rfl,?_⟩
   exists k1
  have c3:cutW [W.int (th 0),W.int (th 1),W.int (th 2),W.int (th 3),W.int (th 4),W.int (th 5)] none (some 3) = [W.int (th 0),W.int (th 1),W.int (th 2)]:=rfl
  have c4:cutW [W.int (th 0),W.int (th 1),W.int (th 2),W.int (th 3),W.int (th 4),W.int (th 5)] (some 3) none = [W.int (th 3),W.int (th 4),W.int (th 5)]:=rfl
  exists c3,c4,e7,z12
  refine ok_end (po_cut (fun ρ=>∃ qs:List Mv,ρ = [.par (.scr (ns.map W.int)),.val (.int 1),.own [],.own (([0,0,s0]:List Int).map W.int),.own (qs.map pW),.own [.int (th 0),.int (th 1),.int (th 2),.int (th 3),.int (th 4),.int (th 5)],.un]∧(∀ p∈qs,okU 3 p)∧qs.length≤5) ?_ fun ρ h=>knot_rest (n:=3) e8 hf0 (by omega) (by omega) rfl (nn3 _ _ _ (by omega) (by omega) h00) h)
  refine knot_if (ns:=ns) (b:=[0,0,s0]) (n:=3) (d7:=d7) (ps:=[([0,0,s0],[0,s1,0]),([0,0,0],[s2,0,s3]),([th 0,th 1,th 2],[th 3,th 4,th 5])]) (fun p hp=>?_) (by simp)
  simp only [List.mem_cons,List.not_mem_nil,or_false] at hp
  rcases hp with rfl | rfl | rfl
  ·exact okU3 (by omega)
  ·exact okU3 (by omega)
  ·have t0:=(hth 0 (by omega)).2
   have t1:=(hth 1 (by omega)).2
   have t2:=(hth 2 (by omega)).2
   have t3:=(hth 3 (by omega)).2
   have t4:=(hth 4 (by omega)).2
   have t5:=(hth 5 (by omega)).2
   exact okU3 (by omega)
 ·have z21:decide ((2:Int)=1)=false:=rfl
  have z22:decide ((2:Int)=2)=true:=rfl
  exists rpB,m__law_knot,e6,r1,e0,e1,e2,e3,e4,e7,z21,z22
  have n5:∀ a b c d e:Int,(0≤a∧a≤1000000000)∧(0≤b∧b≤1000000000)∧(0≤c∧c≤1000000000)∧(0≤d∧d≤1000000000)∧(0≤e∧e≤1000000000)→nn [a,b,c,d,e]∧ub [a,b,c,d,e]:=fun a b c d e h=>⟨fun x hx=>by
   simp only [List.mem_cons,List.not_mem_nil,or_false] at hx
   rcases hx with rfl | rfl | rfl | rfl | rfl <;> omega,fun x hx=>by
   simp only [List.mem_cons,List.not_mem_nil,or_false] at hx
   rcases hx with rfl | rfl | rfl | rfl | rfl <;> omega⟩
  refine ok_end (po_cut (fun ρ=>∃ qs:List Mv,ρ = [.par (.scr (ns.map W.int)),.val (.int 2),.own [.int 0,.int 0],.own (([0,0,s0,0,1]:List Int).map W.int),.own (qs.map pW),.un,.un]∧(∀ p∈qs,okU 5 p)∧qs.length≤5) ?_ fun ρ h=>knot_rest (n:=5) e8 hf0 (by omega) (by omega) rfl (n5 _ _ _ _ _ (by omega)).1 h)
  refine knot_if (ns:=ns) (b:=[0,0,s0,0,1]) (n:=5) (d7:=d7) (ps:=[([0,0,s0,0,0],[0,s1,0,0,0]),([0,0,0,0,0],[s2,0,s3,0,0]),([0,s4,0,0,1],[0,0,0,1,0])]) (fun p hp=>?_) (by simp)
  simp only [List.mem_cons,List.not_mem_nil,or_false] at hp
  have mk:∀ p:Mv,p.1.length=5→p.2.length=5→nn p.1∧ub p.1→nn p.2∧ub p.2→okU 5 p:=fun p x1 x2 x3 x4=>⟨⟨x1,x2,x3.1,x4.1⟩,x3.2,x4.2⟩
  rcases hp with rfl | rfl | rfl
  ·exact mk _ rfl rfl (n5 _ _ _ _ _ (by omega)) (n5 _ _ _ _ _ (by omega))
  ·exact mk _ rfl rfl (n5 _ _ _ _ _ (by omega)) (n5 _ _ _ _ _ (by omega))
  ·exact mk _ rfl rfl (n5 _ _ _ _ _ (by omega)) (n5 _ _ _ _ _ (by omega))
theorem mB_ap (i:Nat) (f:List W→R W) (ma:Rho→R (List W)) (mt:Rho→R Bool) (ρ:Rho):mB i f ma mt ρ=if i<ρ.length then (ma ρ>>=fun ws=>f ws>>=mB2 i mt ρ) else .stuck:=rfl
theorem okZ_bl (bs:List Blk) (h:∀ b∈bs,b.1.length≤30):okZ (bs.map blW)=true:=by
 cases bs with
 | nil=>rfl
 | cons b bs=>
  show decide (((pz b.1).map W.int).length<1000)=true
  have:=h b List.mem_cons_self
  exact decide_eq_true (by rw [List.length_map,pz_len]; omega)
theorem goB_rows {n:Nat} {ms:List Mv}:∀ (bs:List Blk) (s:Nat→Int),goB n ms bs s→∀ b∈bs,b.1.length≤30
 | [],_,_,b,hb=>by cases hb
 | x::bs,s,h,b,hb=>by
  rcases List.mem_cons.mp hb with rfl | hb
  ·exact h.1.2.2.1
  ·exact goB_rows bs _ h.2 b hb
theorem law_pure (ns:List Int) (h:ns.length≤63):f_law [.scr (ns.map W.int)]=.ok (.bl true):=by
 have fin:Ok (f_law [.scr (ns.map W.int)]) fun v=>v=.bl true:=by
  obtain ⟨_,e0,b0,ms0,rfl,x1,x2,x3,x4,x5,x6⟩:=gmoor_ok (ns:=ns)
  obtain ⟨_,e1,n1,b1,ms1,rfl,y0,y1,y2,y3,y4,y5⟩:=knot_ok (ns:=ns)
  obtain ⟨_,f5,d5,rfl,_,_⟩:=draw_ok (ns:=ns) (k:=55) (m:=3) (by omega) (by omega) (by omega)
  exists rpB,m_law,e0,f5
  refine ok_end (po_cut (fun ρ=>∃ (b:List Int) (ms:List Mv),ρ = [.par (.scr (ns.map W.int)),.par (tI b),.par (tM_ ms),.un,.un,.un,.un,.un,.un,.un,.un]∧1≤b.length∧b.length≤6∧nn b∧(∀ m∈ms,okN b.length m)∧ms.length≤8∧∀ m∈ms,ub m.1∧ub m.2) ?_ ?_)
  ·refine po_if (fun q=>?_) (fun q=>?_)
   ·exists e1
    exact ⟨b1,ms1,rfl,by omega,by omega,y3,fun m hm=>by rw [y2]; exact (y4 m hm).1,y5,fun m hm=>(y4 m hm).2⟩
   ·exists rp18
    exact ⟨b0,ms0,rfl,x1,x2,x3,x4,x5,x6⟩
  rintro ρ ⟨b,ms,rfl,hb1,hb6,hbn,hok,hml,hmu⟩
  have hs:=small_of hok hmu
  obtain ⟨w,eg,hw⟩:=growth_ok (most:=30) hb6 hok hml (by omega) (by omega)
  have eg:f_growth [.tup [tI b,tM_ ms],.int 30]=.ok w:=eg
  rcases hw with rfl | ⟨es,rfl,hes,hK⟩
  ·exists eg
  ·have kc:∀ (i:Nat) (hh:Int),i≤es.length→Ok (f_climb [.tup [tI b,tM_ ms],.lst (rowsG (b.map some) es),.int (i:Int),.int hh]) fun w=>∃ bs:List Blk,w=.lst (bs.map blW)∧bs.length≤40∧ldB b.length ms (b.map some) (fun _=>0) bs (sC (b.map some) es i) (fun _=>hh):=fun i hh hi=>climb_ok hK hb1 hb6 hbn hok hs (by omega) hi
   have hfit:fitC b.length (b.map some) (fun _=>0) fun p=>b.getD p 0:=fun q hq=>by
    rw [som_at hq]
    exact ⟨fun v hv=>Option.some.inj hv,fun h=>by cases h⟩
   have kt:∀ (bs:List Blk) (cp:Cap) (hh:Int),bs.length≤40→cp.length=b.length→goB b.length ms bs (fun p=>b.getD p 0)→fitC b.length cp (fun _=>hh) (endB ms bs fun p=>b.getD p 0)→f__law_comes_to [tI b,tM_ ms,.lst (bs.map blW),tC cp,.int hh]=.ok (.bl true):=fun bs cp hh h1 h2 h3 h4=>comes_ok hb6 hok hs h1 h2 h3 h4
   have hcl:(b.map some).length=b.length:=List.length_map ..
   have hsl:∀ k,k≤es.length→(sC (b.map some) es k).length=b.length:=fun k hk'=>by rw [sC_len hK.len hk',hcl]
   have hrl:(rowsG (b.map some) es).length=es.length+1:=by simp
   have hsel:∀ k,k≤es.length→∃ x y:W,L2.atI (rowsG (b.map some) es) (k:Int)=some (.tup [tC (sC (b.map some) es k),x,y]):=fun k hk=>rowsG_at hk
   have hnl:=noLs_rowsG (b.map some) es
   have hself:fEq false (.lst (rowsG (b.map some) es)) (.lst (rowsG (b.map some) es))=.ok (.bl true):=by
    refine fEq_self ?_
    rw [rowsG_O]
    refine shps_map (rowGO (b.map some)) 7 (fun o=>?_) _
    cases o with
    | none=>
     show (shp 6 (tC (b.map some))&&(shp 6 W.non&&(shp 6 W.non&&true)))=true
     rw [shp_tC 5,shp_non]; rfl
    | some e=>
     show (shp 6 (tC e.1)&&(shp 6 (W.int (e.2.1:Int))&&(shp 6 (W.int (e.2.2:Int))&&true)))=true
     rw [shp_tC 5,shp_int,shp_int]; rfl
   obtain ⟨rw_,hrw⟩:∃ rw_,rw_=rowsG (b.map some) es:=⟨_,rfl⟩
   rw [← hrw] at eg kc hrl hsel hnl hself
   obtain ⟨pk,hpk⟩:∃ pk:Nat→Int,∀ k:Nat,k<4→f__law_draw [.scr (ns.map W.int),.int (40+(k:Int)),.int ((es.length+1:Nat):Int)]=.ok (.int (pk k))∧0≤pk k∧pk k<((es.length+1:Nat):Int):=by
    have key:∀ k:Nat,k<4→∃ z:Int,f__law_draw [.scr (ns.map W.int),.int (40+(k:Int)),.int ((es.length+1:Nat):Int)]=.ok (.int z)∧0≤z∧z<((es.length+1:Nat):Int):=fun k hk=>by
     obtain ⟨_,e,z,rfl,z0,z1⟩:=draw_ok (ns:=ns) (k:=40+(k:Int)) (m:=((es.length+1:Nat):Int)) (by omega) (by omega) (by omega)
     exact ⟨z,e,z0,z1⟩
    refine ⟨fun k=>if h:k<4 then Classical.choose (key k h) else 0,fun k hk=>?_⟩
    dsimp only
    rw [dif_pos hk]
    exact Classical.choose_spec (key k hk)
   have ekp:∀ N mg me ρ (h:∀ k,k<4→∃ ρ1,mg (.int (k:Nat)) (ρ++List.replicate (N-ρ.length) Sl.un)=some ρ1∧me ρ1=.ok (.int (pk k))),mComp N mg yes me ((List.range 4).map fun k=>W.int (k:Nat)) ρ=.ok (lI [pk 0,pk 1,pk 2,pk 3]):=fun N mg me ρ h=>by
    rw [mComp_all (fun k=>.int (pk k)) _ _ ρ (by simp) (fun k hk=>h k (by simpa using hk))]; rfl
   exists eg,chks_no hnl,hrl
   rw [ekp]
   rotate_left
   ·intro k hk
    have k1:=(hpk k hk).1
    refine ⟨_,rfl,?_⟩
    exists hrl,k1
   exists hrl
   obtain ⟨pl,hpl⟩:∃ pl:List W,pl = [W.int (pk 0),W.int (pk 1),W.int (pk 2),W.int (pk 3),W.int (((es.length+1:Nat):Int)-1)]:=⟨_,rfl⟩
   have hpick:∀ i:Nat,i<5→∃ p:Nat,p≤es.length∧L2.atI pl (i:Int)=some (.int (p:Int)):=fun i hi=>by
    have g:∀ (i:Nat) (z:Int),0≤z∧z<((es.length+1:Nat):Int)→pl[i]?=some (.int z)→∃ p:Nat,p≤es.length∧L2.atI pl (i:Int)=some (.int (p:Int)):=fun i z hz h=>⟨z.toNat,by omega,by rw [atW_of h,show ((z.toNat:Nat):Int)=z by omega]⟩
    have hi:i=0∨i=1∨i=2∨i=3∨i=4:=by omega
    rcases hi with rfl | rfl | rfl | rfl | rfl
    ·exact g 0 (pk 0) (hpk 0 (by omega)).2 (by rw [hpl]; rfl)
    ·exact g 1 (pk 1) (hpk 1 (by omega)).2 (by rw [hpl]; rfl)
    ·exact g 2 (pk 2) (hpk 2 (by omega)).2 (by rw [hpl]; rfl)
    ·exact g 3 (pk 3) (hpk 3 (by omega)).2 (by rw [hpl]; rfl)
    ·exact g 4 (((es.length+1:Nat):Int)-1) (by omega) (by rw [hpl]; rfl)
   rw [← hpl]
   refine po_fors (fun i ρ=>∃ a6 a7 a8 a9 a10:Sl,ρ = [.par (.scr (ns.map W.int)),.par (tI b),.par (tM_ ms),.own rw_,.own rw_,.own pl,a6,a7,a8,a9,a10]) ⟨_,_,_,_,_,rfl⟩ ?_ ?_
   ·rintro i u ρ hu ⟨a6,a7,a8,a9,a10,rfl⟩
    obtain ⟨hi,rfl⟩:=rng_at hu
    obtain ⟨p,hp,kp⟩:=hpick i hi
    obtain ⟨x,y,er⟩:=hsel p hp
    obtain ⟨_,eh,hh,rfl⟩:=height_ok (ns:=ns) (k:=50+(i:Int)) (by omega) (by omega)
    obtain ⟨_,ec,bs,rfl,hbs,hld⟩:=kc p hh hp
    obtain ⟨hgo,hft⟩:=hld _ hfit
    have k2:=kt bs _ hh hbs (hsl p hp) hgo hft
    have hoz:=okZ_bl bs (goB_rows bs _ hgo)
    have hbl:(bs.map blW).length<1000:=by rw [List.length_map]; omega
    obtain ⟨bw,hbw⟩:∃ bw,bw=bs.map blW:=⟨_,rfl⟩
    rw [← hbw] at ec k2 hoz hbl
    have b0:L2.atI [tC (sC (b.map some) es p),x,y] 0=some (tC (sC (b.map some) es p)):=rfl
    generalize sC (b.map some) es p=cp at *
    refine ⟨_,rfl,?_⟩
    exists kp,er,b0,eh
    refine po_for (fun j ρ=>∃ a9 a10:Sl,ρ = [.par (.scr (ns.map W.int)),.par (tI b),.par (tM_ ms),.own rw_,.own rw_,.own pl,.par (.int (i:Int)),.val (tC cp),.val (.int hh),a9,a10]) ⟨_,_,rfl⟩ ?_ ?_
    ·rintro j u ρ hu ⟨a9,a10,rfl⟩
     refine ⟨_,rfl,?_⟩
     rw [mB_ap,if_pos (by show 10<11; omega)]
     exists kp,ec
     have em:(tNot' (bTest (bA f__law_comes_to (aC (mVar .B 1) (aC (mVar .B 2) (aC (mVar .B 10) (aC (mVar .B 7) (aC (mVar .B 8) aN)))))))) [.par (.scr (ns.map W.int)),.par (tI b),.par (tM_ ms),.own rw_,.own rw_,.own pl,.par (.int (i:Int)),.val (tC cp),.val (.int hh),.par u,.own bw]=.ok false:=by
      exists k2
     show Po ((tNot' (bTest (bA f__law_comes_to (aC (mVar .B 1) (aC (mVar .B 2) (aC (mVar .B 10) (aC (mVar .B 7) (aC (mVar .B 8) aN)))))))) [.par (.scr (ns.map W.int)),.par (tI b),.par (tM_ ms),.own rw_,.own rw_,.own pl,.par (.int (i:Int)),.val (tC cp),.val (.int hh),.par u,.own bw]>>=fun b'=>if b'=true then .ok (.rt (.bl false)) else if okZ bw=true∧bw.length<1000 then .ok (.nx [.par (.scr (ns.map W.int)),.par (tI b),.par (tM_ ms),.own rw_,.own rw_,.own pl,.par (.int (i:Int)),.val (tC cp),.val (.int hh),.par u,.un]) else .stuck) _ _
     rw [em]
     show Po (if okZ bw=true∧bw.length<1000 then R.ok (Fl.nx [.par (.scr (ns.map W.int)),.par (tI b),.par (tM_ ms),.own rw_,.own rw_,.own pl,.par (.int (i:Int)),.val (tC cp),.val (.int hh),.par u,.un]) else .stuck) _ _
     rw [if_pos ⟨hoz,hbl⟩]
     exact ⟨_,_,rfl⟩
    ·rintro ρ ⟨a9,a10,rfl⟩
     exact ⟨_,_,_,_,_,rfl⟩
   ·rintro ρ ⟨a6,a7,a8,a9,a10,rfl⟩
    exists hself
 obtain ⟨v,e,rfl⟩:=fin
 exact e
end K43
set_option Elab.async false
set_option linter.all false
set_option maxRecDepth 100000
set_option maxHeartbeats 4000000
open PySem L2 TP
namespace K43
local macro_rules | `(tactic| trivial)=>`(tactic| first | exact Or.inl rfl | exact Or.inr rfl | exact Or.inr (Or.inl rfl) | exact Or.inr (Or.inr rfl) | assumption)
noncomputable def top (i:Nat):Stmt:=PySem.Challenge.pw_tokenmoor_k43_a_climb_goes.main.body.getD i (.Pass ⟨0,0,0,0⟩)
noncomputable abbrev schange:Stmt:=top 4
noncomputable abbrev ssource:Stmt:=top 6
noncomputable abbrev sleast_over:Stmt:=top 7
noncomputable abbrev sunder:Stmt:=top 9
noncomputable abbrev sunder_any:Stmt:=top 10
noncomputable abbrev scap_able:Stmt:=top 11
noncomputable abbrev scap_after:Stmt:=top 12
noncomputable abbrev sraised:Stmt:=top 13
noncomputable abbrev sgrowth:Stmt:=top 14
noncomputable abbrev sgrow:Stmt:=top 15
noncomputable abbrev sway_back:Stmt:=top 16
noncomputable abbrev shurdle:Stmt:=top 18
noncomputable abbrev ssum_of:Stmt:=top 19
noncomputable abbrev sshifted:Stmt:=top 20
noncomputable abbrev snoughts:Stmt:=top 21
noncomputable abbrev sway:Stmt:=top 23
noncomputable abbrev srow_between:Stmt:=top 24
noncomputable abbrev slifts_of:Stmt:=top 25
noncomputable abbrev sunraised:Stmt:=top 26
noncomputable abbrev sclimb:Stmt:=top 27
noncomputable abbrev stimes_for:Stmt:=top 28
noncomputable abbrev swanted_ahead:Stmt:=top 29
noncomputable abbrev s_law_cell_at:Stmt:=top 31
noncomputable abbrev s_law_draw:Stmt:=top 32
noncomputable abbrev s_law_numbers:Stmt:=top 33
noncomputable abbrev s_law_scale:Stmt:=top 34
noncomputable abbrev s_law_moor:Stmt:=top 35
noncomputable abbrev s_law_some:Stmt:=top 36
noncomputable abbrev s_law_turned:Stmt:=top 37
noncomputable abbrev s_law_knot:Stmt:=top 38
noncomputable abbrev s_law_whole:Stmt:=top 39
noncomputable abbrev s_law_is_block:Stmt:=top 40
noncomputable abbrev s_law_gone:Stmt:=top 41
noncomputable abbrev s_law_comes_to:Stmt:=top 42
noncomputable abbrev s_law_height:Stmt:=top 43
noncomputable abbrev slaw:Stmt:=top 44
structure Blt (mg:Str→Option Value):Prop where
 all_:mg "all" = none
 bool_:mg "bool" = none
 int_:mg "int" = none
 isinstance_:mg "isinstance" = none
 len_:mg "len" = none
 list_:mg "list" = none
 max_:mg "max" = none
 range_:mg "range" = none
 reversed_:mg "reversed" = none
 tuple_:mg "tuple" = none
 zip_:mg "zip" = none
theorem scchange:FnScope ["move"] ["move"] (defScope schange):=⟨rfl,rfl,rfl,by decide +kernel,rfl,by decide +kernel,by decide +kernel⟩
theorem scsource:FnScope ["stand", "move"] ["stand", "move"] (defScope ssource):=⟨rfl,rfl,rfl,by decide +kernel,rfl,by decide +kernel,by decide +kernel⟩
theorem scleast_over:FnScope ["stand", "other"] ["stand", "other"] (defScope sleast_over):=⟨rfl,rfl,rfl,by decide +kernel,rfl,by decide +kernel,by decide +kernel⟩
theorem scunder:FnScope ["cap", "other", "number", "bound"] ["cap", "other"] (defScope sunder):=⟨rfl,rfl,rfl,by decide +kernel,rfl,by decide +kernel,by decide +kernel⟩
theorem scunder_any:FnScope ["cap", "caps", "other"] ["cap", "caps"] (defScope sunder_any):=⟨rfl,rfl,rfl,by decide +kernel,rfl,by decide +kernel,by decide +kernel⟩
theorem sccap_able:FnScope ["cap", "move"] ["cap", "move"] (defScope scap_able):=⟨rfl,rfl,rfl,by decide +kernel,rfl,by decide +kernel,by decide +kernel⟩
theorem sccap_after:FnScope ["cap", "move"] ["cap", "move"] (defScope scap_after):=⟨rfl,rfl,rfl,by decide +kernel,rfl,by decide +kernel,by decide +kernel⟩
theorem scraised:FnScope ["cap", "elder"] ["cap", "elder"] (defScope sraised):=⟨rfl,rfl,rfl,by decide +kernel,rfl,by decide +kernel,by decide +kernel⟩
theorem scgrowth:FnScope ["moor", "most", "tree", "at", "number"] ["moor", "most"] (defScope sgrowth):=⟨rfl,rfl,rfl,by decide +kernel,rfl,by decide +kernel,by decide +kernel⟩
theorem scgrow:FnScope ["moor", "tree", "at", "number", "move", "cap", "elder"] ["moor", "tree", "at", "number"] (defScope sgrow):=⟨rfl,rfl,rfl,by decide +kernel,rfl,by decide +kernel,by decide +kernel⟩
theorem scway_back:FnScope ["tree", "number", "numbers", "at"] ["tree", "number"] (defScope sway_back):=⟨rfl,rfl,rfl,by decide +kernel,rfl,by decide +kernel,by decide +kernel⟩
theorem schurdle:FnScope ["moor", "row", "needed", "number"] ["moor", "row"] (defScope shurdle):=⟨rfl,rfl,rfl,by decide +kernel,rfl,by decide +kernel,by decide +kernel⟩
theorem scsum_of:FnScope ["moor", "row", "total", "number"] ["moor", "row"] (defScope ssum_of):=⟨rfl,rfl,rfl,by decide +kernel,rfl,by decide +kernel,by decide +kernel⟩
theorem scshifted:FnScope ["stand", "step", "times"] ["stand", "step", "times"] (defScope sshifted):=⟨rfl,rfl,rfl,by decide +kernel,rfl,by decide +kernel,by decide +kernel⟩
theorem scnoughts:FnScope ["moor"] ["moor"] (defScope snoughts):=⟨rfl,rfl,rfl,by decide +kernel,rfl,by decide +kernel,by decide +kernel⟩
theorem scway:FnScope ["tree", "number"] ["tree", "number"] (defScope sway):=⟨rfl,rfl,rfl,by decide +kernel,rfl,by decide +kernel,by decide +kernel⟩
theorem scrow_between:FnScope ["tree", "elder", "number", "path"] ["tree", "elder", "number"] (defScope srow_between):=⟨rfl,rfl,rfl,by decide +kernel,rfl,by decide +kernel,by decide +kernel⟩
theorem sclifts_of:FnScope ["moor", "tree", "number", "found", "cap", "elder", "higher", "places"] ["moor", "tree", "number"] (defScope slifts_of):=⟨rfl,rfl,rfl,by decide +kernel,rfl,by decide +kernel,by decide +kernel⟩
theorem scunraised:FnScope ["moor", "tree", "number", "row"] ["moor", "tree", "number"] (defScope sunraised):=⟨rfl,rfl,rfl,by decide +kernel,rfl,by decide +kernel,by decide +kernel⟩
theorem scclimb:FnScope ["moor", "tree", "number", "height", "wanted", "blocks", "at", "cap", "elder", "places", "row", "times"] ["moor", "tree", "number", "height"] (defScope sclimb):=⟨rfl,rfl,rfl,by decide +kernel,rfl,by decide +kernel,by decide +kernel⟩
theorem sctimes_for:FnScope ["cap", "step", "places", "wanted"] ["cap", "step", "places", "wanted"] (defScope stimes_for):=⟨rfl,rfl,rfl,by decide +kernel,rfl,by decide +kernel,by decide +kernel⟩
theorem scwanted_ahead:FnScope ["moor", "row", "times", "wanted", "needed", "step", "first_and_last"] ["moor", "row", "times", "wanted"] (defScope swanted_ahead):=⟨rfl,rfl,rfl,by decide +kernel,rfl,by decide +kernel,by decide +kernel⟩
theorem sc_law_cell_at:FnScope ["_law_script", "_law_k"] ["_law_script", "_law_k"] (defScope s_law_cell_at):=⟨rfl,rfl,rfl,by decide +kernel,rfl,by decide +kernel,by decide +kernel⟩
theorem sc_law_draw:FnScope ["_law_script", "_law_k", "_law_many"] ["_law_script", "_law_k", "_law_many"] (defScope s_law_draw):=⟨rfl,rfl,rfl,by decide +kernel,rfl,by decide +kernel,by decide +kernel⟩
theorem sc_law_numbers:FnScope ["_law_script", "_law_at", "_law_places", "_law_menu", "_law_scale_here", "_law_found", "_law_k", "_law_held"] ["_law_script", "_law_at", "_law_places", "_law_menu", "_law_scale_here"] (defScope s_law_numbers):=⟨rfl,rfl,rfl,by decide +kernel,rfl,by decide +kernel,by decide +kernel⟩
theorem sc_law_scale:FnScope ["_law_script", "_law_kind"] ["_law_script"] (defScope s_law_scale):=⟨rfl,rfl,rfl,by decide +kernel,rfl,by decide +kernel,by decide +kernel⟩
theorem sc_law_moor:FnScope ["_law_script", "_law_places", "_law_scale_here", "_law_moves", "_law_k", "_law_at", "_law_take", "_law_put", "_law_begin"] ["_law_script"] (defScope s_law_moor):=⟨rfl,rfl,rfl,by decide +kernel,rfl,by decide +kernel,by decide +kernel⟩
theorem sc_law_some:FnScope ["_law_script", "_law_k"] ["_law_script", "_law_k"] (defScope s_law_some):=⟨rfl,rfl,rfl,by decide +kernel,rfl,by decide +kernel,by decide +kernel⟩
theorem sc_law_turned:FnScope ["_law_stand", "_law_far"] ["_law_stand", "_law_far"] (defScope s_law_turned):=⟨rfl,rfl,rfl,by decide +kernel,rfl,by decide +kernel,by decide +kernel⟩
theorem sc_law_knot:FnScope ["_law_script", "_law_some_here", "_law_none", "_law_begin", "_law_moves", "_law_third", "_law_far"] ["_law_script"] (defScope s_law_knot):=⟨rfl,rfl,rfl,by decide +kernel,rfl,by decide +kernel,by decide +kernel⟩
theorem sc_law_whole:FnScope ["_law_found"] ["_law_found"] (defScope s_law_whole):=⟨rfl,rfl,rfl,by decide +kernel,rfl,by decide +kernel,by decide +kernel⟩
theorem sc_law_is_block:FnScope ["_law_block", "_law_count"] ["_law_block", "_law_count"] (defScope s_law_is_block):=⟨rfl,rfl,rfl,by decide +kernel,rfl,by decide +kernel,by decide +kernel⟩
theorem sc_law_gone:FnScope ["_law_stand", "_law_moves", "_law_row", "_law_times", "_law_low", "_law_total", "_law_number", "_law_take", "_law_put", "_law_k"] ["_law_stand", "_law_moves", "_law_row", "_law_times"] (defScope s_law_gone):=⟨rfl,rfl,rfl,by decide +kernel,rfl,by decide +kernel,by decide +kernel⟩
theorem sc_law_comes_to:FnScope ["_law_begin", "_law_moves", "_law_blocks", "_law_cap", "_law_height_here", "_law_stand", "_law_block", "_law_k"] ["_law_begin", "_law_moves", "_law_blocks", "_law_cap", "_law_height_here"] (defScope s_law_comes_to):=⟨rfl,rfl,rfl,by decide +kernel,rfl,by decide +kernel,by decide +kernel⟩
theorem sc_law_height:FnScope ["_law_script", "_law_k", "_law_kind"] ["_law_script", "_law_k"] (defScope s_law_height):=⟨rfl,rfl,rfl,by decide +kernel,rfl,by decide +kernel,by decide +kernel⟩
theorem sclaw:FnScope ["_law_script", "_law_begin", "_law_moves", "_law_tree", "_law_handed", "_law_picks", "_law_k", "_law_cap", "_law_height_here", "_law_again_or_not", "_law_blocks"] ["_law_script"] (defScope slaw):=⟨rfl,rfl,rfl,by decide +kernel,rfl,by decide +kernel,by decide +kernel⟩
section
variable {P:Program} {w:World} {K:PySem.W.Frag} {mg:Str→Option Value} {base:Heap}
theorem okchange {f:Addr} {fd:FuncData} (D:Def K mg "change" schange ["move"] f fd) (B:Blt mg):FnOk P w K mg base CX0 1 f fd ["move"] (spM K 1 .F (f_change)):=by
 refine D.F.ok scchange (fun vs H Q E h=>h.1) (fun cdv A outer s H vs Q E hr h=>?_)
 exact ⟨tSt K (fun _ _=>False) .F m_change,(q_last (q_ret (@q_ct _ _ _ _ _ _ _ _ _ _ _ _ _ _ K_tup (b_tup (c:=true)) (by rfl) B.tuple_ bt_tuple (q_acons (q_FC (@q_comp _ _ _ _ _ _ _ _ _ _ _ _ _ _ _ _ (show CompScope (defScope schange) _ ["move"] ["move", "take", "put"] from ⟨rfl,by decide +kernel,by decide +kernel,by decide +kernel,by decide +kernel,by decide,by decide +kernel,by decide +kernel⟩) rfl (@q_zipB _ _ _ _ _ _ _ _ _ _ _ (by rfl) B.zip_ (q_acons (q_UB (q_ixU (qv .B 0) q_int)) (q_acons (q_UB (q_ixU (qv .B 0) q_int)) q_anil)) (by rfl) (by rfl) (by rfl)) (fun _ _ _ _=>(@pg_tupK _ K _ _ _ _ 2 rfl (@pgs_cons _ _ _ _ _ (@pg_name _ _ 1 _ (by decide +kernel:(["move", "take", "put"]:List Str).Nodup) rfl (Or.inl rfl) (.inr rfl)) (@pgs_cons _ _ _ _ _ (@pg_name _ _ 2 _ (by decide +kernel:(["move", "take", "put"]:List Str).Nodup) rfl (Or.inl rfl) (.inr rfl)) pgs_nil (by rfl)) (by rfl)) (by rfl) (by rfl) (by rfl))) (gt_tup (.inr rfl) (gts_cons (.inr rfl) gt_U (gts_cons (.inr rfl) gt_U gts_nil))) (gk_tup (gk_cons (show 1≤1 by decide) (gk_cons (show 1≤2 by decide) gk_nil))) (fun _ _ _ _=>q_pifN) (fun _ _ _ _=>(q_op op_sub (o2_I0 (g:=gSub) (fun _ _=>rfl) (fun _ _ _=>.int)) (qv .B 2) (qv .B 1))) (by intro _; rfl))) q_anil) (by decide) (by decide) (by rfl) (by rfl)))),
  c_body (n:=1) (Nl:=["move"]) (.inl rfl) h⟩
theorem oksource {f:Addr} {fd:FuncData} (D:Def K mg "source" ssource ["stand", "move"] f fd) (B:Blt mg):FnOk P w K mg base CX0 1 f fd ["stand", "move"] (spM K 2 .F (f_source)):=by
 refine D.F.ok scsource (fun vs H Q E h=>h.1) (fun cdv A outer s H vs Q E hr h=>?_)
 exact ⟨tSt K (fun _ _=>False) .F m_source,(q_last (q_ret (@q_ct _ _ _ _ _ _ _ _ _ _ _ _ _ _ K_tup (b_tup (c:=true)) (by rfl) B.tuple_ bt_tuple (q_acons (q_FC (@q_comp _ _ _ _ _ _ _ _ _ _ _ _ _ _ _ _ (show CompScope (defScope ssource) _ ["stand", "move"] ["stand", "move", "number", "take", "put"] from ⟨rfl,by decide +kernel,by decide +kernel,by decide +kernel,by decide +kernel,by decide,by decide +kernel,by decide +kernel⟩) rfl (@q_zipB _ _ _ _ _ _ _ _ _ _ _ (by rfl) B.zip_ (q_acons (qv .B 0) (q_acons (q_UB (q_ixU (qv .B 1) q_int)) (q_acons (q_UB (q_ixU (qv .B 1) q_int)) q_anil))) (by rfl) (by rfl) (by rfl)) (fun _ _ _ _=>(@pg_tupK _ K _ _ _ _ 3 rfl (@pgs_cons _ _ _ _ _ (@pg_name _ _ 2 _ (by decide +kernel:(["stand", "move", "number", "take", "put"]:List Str).Nodup) rfl (Or.inl rfl) (.inr rfl)) (@pgs_cons _ _ _ _ _ (@pg_name _ _ 3 _ (by decide +kernel:(["stand", "move", "number", "take", "put"]:List Str).Nodup) rfl (Or.inl rfl) (.inr rfl)) (@pgs_cons _ _ _ _ _ (@pg_name _ _ 4 _ (by decide +kernel:(["stand", "move", "number", "take", "put"]:List Str).Nodup) rfl (Or.inl rfl) (.inr rfl)) pgs_nil (by rfl)) (by rfl)) (by rfl)) (by rfl) (by rfl) (by rfl))) (gt_tup (.inr rfl) (gts_cons (.inr rfl) gt_U (gts_cons (.inr rfl) gt_U (gts_cons (.inr rfl) gt_U gts_nil)))) (gk_tup (gk_cons (show 2≤2 by decide) (gk_cons (show 2≤3 by decide) (gk_cons (show 2≤4 by decide) gk_nil)))) (fun _ _ _ _=>q_pifN) (fun _ _ _ _=>(@q_cb _ _ _ _ _ _ _ _ _ _ _ _ _ _ (call_max2 rfl) (b_2 (g:=gMax)) (by rfl) B.max_ bt_max (q_acons (qv .B 3) (q_acons (q_op op_add (o2_I0 (g:=gAdd) (fun _ _=>rfl) (fun _ _ _=>.int)) (q_op op_sub (o2_I0 (g:=gSub) (fun _ _=>rfl) (fun _ _ _=>.int)) (qv .B 2) (qv .B 4)) (qv .B 3)) q_anil)) (by decide) (by decide) (by rfl) (by rfl))) (by intro _; rfl))) q_anil) (by decide) (by decide) (by rfl) (by rfl)))),
  c_body (n:=2) (Nl:=["stand", "move"]) (.inl rfl) h⟩
theorem okleast_over {f:Addr} {fd:FuncData} (D:Def K mg "least_over" sleast_over ["stand", "other"] f fd) (B:Blt mg):FnOk P w K mg base CX0 1 f fd ["stand", "other"] (spM K 2 .F (f_least_over)):=by
 refine D.F.ok scleast_over (fun vs H Q E h=>h.1) (fun cdv A outer s H vs Q E hr h=>?_)
 exact ⟨tSt K (fun _ _=>False) .F m_least_over,(q_last (q_ret (@q_ct _ _ _ _ _ _ _ _ _ _ _ _ _ _ K_tup (b_tup (c:=true)) (by rfl) B.tuple_ bt_tuple (q_acons (q_FC (@q_comp _ _ _ _ _ _ _ _ _ _ _ _ _ _ _ _ (show CompScope (defScope sleast_over) _ ["stand", "other"] ["stand", "other", "number", "wanted"] from ⟨rfl,by decide +kernel,by decide +kernel,by decide +kernel,by decide +kernel,by decide,by decide +kernel,by decide +kernel⟩) rfl (@q_zipB _ _ _ _ _ _ _ _ _ _ _ (by rfl) B.zip_ (q_acons (qv .B 0) (q_acons (qv .B 1) q_anil)) (by rfl) (by rfl) (by rfl)) (fun _ _ _ _=>(@pg_tupK _ K _ _ _ _ 2 rfl (@pgs_cons _ _ _ _ _ (@pg_name _ _ 2 _ (by decide +kernel:(["stand", "other", "number", "wanted"]:List Str).Nodup) rfl (Or.inl rfl) (.inr rfl)) (@pgs_cons _ _ _ _ _ (@pg_name _ _ 3 _ (by decide +kernel:(["stand", "other", "number", "wanted"]:List Str).Nodup) rfl (Or.inl rfl) (.inr rfl)) pgs_nil (by rfl)) (by rfl)) (by rfl) (by rfl) (by rfl))) (gt_tup (.inr rfl) (gts_cons (.inr rfl) gt_U (gts_cons (.inr rfl) gt_U gts_nil))) (gk_tup (gk_cons (show 2≤2 by decide) (gk_cons (show 2≤3 by decide) gk_nil))) (fun _ _ _ _=>q_pifN) (fun _ _ _ _=>(@q_cb _ _ _ _ _ _ _ _ _ _ _ _ _ _ (call_max2 rfl) (b_2 (g:=gMax)) (by rfl) B.max_ bt_max (q_acons (qv .B 2) (q_acons (qv .B 3) q_anil)) (by decide) (by decide) (by rfl) (by rfl))) (by intro _; rfl))) q_anil) (by decide) (by decide) (by rfl) (by rfl)))),
  c_body (n:=2) (Nl:=["stand", "other"]) (.inl rfl) h⟩
theorem okunder {f:Addr} {fd:FuncData} (D:Def K mg "under" sunder ["cap", "other"] f fd) (B:Blt mg):FnOk P w K mg base CX0 1 f fd ["cap", "other"] (spM K 2 .F (f_under)):=by
 refine D.F.ok scunder (fun vs H Q E h=>h.1) (fun cdv A outer s H vs Q E hr h=>?_)
 exact ⟨tSt K (fun _ _=>False) .F m_under,(q_cons (@q_for _ _ _ _ _ _ _ _ _ _ _ _ _ PassesOwn.never rfl (@q_zipU _ _ _ _ _ _ _ _ _ _ _ (by rfl) B.zip_ (q_acons (qv .U 0) (q_acons (qv .U 1) q_anil)) (by rfl) (by rfl) (by rfl)) (@pg_tupK _ K _ _ _ _ 2 rfl (@pgs_cons _ _ _ _ _ (@pg_name _ _ 2 _ scunder.nd rfl (by trivial) (by trivial)) (@pgs_cons _ _ _ _ _ (@pg_name _ _ 3 _ scunder.nd rfl (by trivial) (by trivial)) pgs_nil (by rfl)) (by rfl)) (by rfl) (by rfl) (by rfl)) (gt_tup (.inr rfl) (gts_cons (.inr rfl) gt_U (gts_cons (.inr rfl) gt_U gts_nil))) (q_last (q_if_ (PW.pt (q_tand (@q_tcmp _ _ _ _ _ _ _ _ _ _ _ _ op_notN o2_notN (qv .B 3) q_non (by first | exact nomark _ | rfl)) (q_tand1 (PW.pt (q_tor (@q_tcmp _ _ _ _ _ _ _ _ _ _ _ _ op_isN o2_isN (qv .B 2) q_non (by first | exact nomark _ | rfl)) (q_tor1 (@q_tcmp _ _ _ _ _ _ _ _ _ _ _ _ op_gt (o2_I0 (g:=gGt) (fun _ _=>rfl) (fun _ _ _=>.bl)) (qv .B 2) (qv .B 3) (by first | exact nomark _ | rfl)))))))) (q_last (q_ret q_bl)) q_nil)) (by intro _; rfl)) (q_last (q_ret q_bl))),
  c_body (n:=2) (Nl:=["cap", "other", "number", "bound"]) (.inl rfl) h⟩
theorem okunder_any {f:Addr} {fd:FuncData} (D:Def K mg "under_any" sunder_any ["cap", "caps"] f fd) (B:Blt mg) {funder:Addr} {fdunder:FuncData} (Dunder:Def K mg "under" sunder ["cap", "other"] funder fdunder) (Gunder:FnOk P w K mg base CX0 1 funder fdunder ["cap", "other"] (spM K 2 .F (f_under))):FnOk P w K mg base CX0 2 f fd ["cap", "caps"] (spM K 2 .F (f_under_any)):=by
 refine D.F.ok scunder_any (fun vs H Q E h=>h.1) (fun cdv A outer s H vs Q E hr h=>?_)
 exact ⟨tSt K (fun _ _=>False) .F m_under_any,(q_cons (@q_for _ _ _ _ _ _ _ _ _ _ _ _ _ PassesOwn.never rfl (@q_iSqU _ _ _ _ _ _ (qv .U 1) (by rfl)) (@pg_name _ _ 2 _ scunder_any.nd rfl (by trivial) (by trivial)) gt_U (q_last (q_if_ (@q_val _ _ _ _ _ (q_CB (q_FC (@q_call _ _ _ _ _ _ _ _ _ _ _ _ _ _ _ _ Gunder (.inl rfl) (by exact hr.mono (by decide)) (by rfl) Dunder.m Dunder.F.kp Dunder.b (q_acons (qv .B 0) (q_acons (qv .B 2) q_anil)) (by decide) (by rfl) (by rfl)))) (by intro _; rfl)) (q_last (q_ret q_bl)) q_nil)) (by intro _; rfl)) (q_last (q_ret q_bl))),
  c_body (n:=2) (Nl:=["cap", "caps", "other"]) (.inl rfl) h⟩
theorem okcap_able {f:Addr} {fd:FuncData} (D:Def K mg "cap_able" scap_able ["cap", "move"] f fd) (B:Blt mg) {funder:Addr} {fdunder:FuncData} (Dunder:Def K mg "under" sunder ["cap", "other"] funder fdunder) (Gunder:FnOk P w K mg base CX0 1 funder fdunder ["cap", "other"] (spM K 2 .F (f_under))):FnOk P w K mg base CX0 2 f fd ["cap", "move"] (spM K 2 .F (f_cap_able)):=by
 refine D.F.ok sccap_able (fun vs H Q E h=>h.1) (fun cdv A outer s H vs Q E hr h=>?_)
 exact ⟨tSt K (fun _ _=>False) .F m_cap_able,(q_last (q_ret (@q_call _ _ _ _ _ _ _ _ _ _ _ _ _ _ _ _ Gunder (.inl rfl) (by exact hr.mono (by decide)) (by rfl) Dunder.m Dunder.F.kp Dunder.b (q_acons (q_UB (q_ixU (qv .B 1) q_int)) (q_acons (qv .B 0) q_anil)) (by decide) (by rfl) (by rfl)))),
  c_body (n:=2) (Nl:=["cap", "move"]) (.inl rfl) h⟩
theorem okcap_after {f:Addr} {fd:FuncData} (D:Def K mg "cap_after" scap_after ["cap", "move"] f fd) (B:Blt mg) {fcap_able:Addr} {fdcap_able:FuncData} (Dcap_able:Def K mg "cap_able" scap_able ["cap", "move"] fcap_able fdcap_able) (Gcap_able:FnOk P w K mg base CX0 2 fcap_able fdcap_able ["cap", "move"] (spM K 2 .F (f_cap_able))) {fchange:Addr} {fdchange:FuncData} (Dchange:Def K mg "change" schange ["move"] fchange fdchange) (Gchange:FnOk P w K mg base CX0 1 fchange fdchange ["move"] (spM K 1 .F (f_change))):FnOk P w K mg base CX0 3 f fd ["cap", "move"] (spM K 2 .F (f_cap_after)):=by
 refine D.F.ok sccap_after (fun vs H Q E h=>h.1) (fun cdv A outer s H vs Q E hr h=>?_)
 exact ⟨tSt K (fun _ _=>False) .F m_cap_after,(q_cons (q_if_ (q_tnot (@q_val _ _ _ _ _ (q_CB (q_FC (@q_call _ _ _ _ _ _ _ _ _ _ _ _ _ _ _ _ Gcap_able (.inl rfl) (by exact hr.mono (by decide)) (by rfl) Dcap_able.m Dcap_able.F.kp Dcap_able.b (q_acons (qv .B 0) (q_acons (qv .B 1) q_anil)) (by decide) (by rfl) (by rfl)))) (by intro _; rfl))) (q_last q_never) q_nil) (q_last (q_ret (@q_ct _ _ _ _ _ _ _ _ _ _ _ _ _ _ K_tup (b_tup (c:=true)) (by rfl) B.tuple_ bt_tuple (q_acons (q_FC (@q_comp _ _ _ _ _ _ _ _ _ _ _ _ _ _ _ _ (show CompScope (defScope scap_after) _ ["cap", "move"] ["cap", "move", "number", "step"] from ⟨rfl,by decide +kernel,by decide +kernel,by decide +kernel,by decide +kernel,by decide,by decide +kernel,by decide +kernel⟩) rfl (@q_zipB _ _ _ _ _ _ _ _ _ _ _ (by rfl) B.zip_ (q_acons (qv .B 0) (q_acons (q_CB (q_FC (@q_call _ _ _ _ _ _ _ _ _ _ _ _ _ _ _ _ Gchange (.inl rfl) (by exact hr.mono (by decide)) (by rfl) Dchange.m Dchange.F.kp Dchange.b (q_acons (qv .B 1) q_anil) (by decide) (by rfl) (by rfl)))) q_anil)) (by rfl) (by rfl) (by rfl)) (fun _ _ _ _=>(@pg_tupK _ K _ _ _ _ 2 rfl (@pgs_cons _ _ _ _ _ (@pg_name _ _ 2 _ (by decide +kernel:(["cap", "move", "number", "step"]:List Str).Nodup) rfl (Or.inl rfl) (.inr rfl)) (@pgs_cons _ _ _ _ _ (@pg_name _ _ 3 _ (by decide +kernel:(["cap", "move", "number", "step"]:List Str).Nodup) rfl (Or.inl rfl) (.inr rfl)) pgs_nil (by rfl)) (by rfl)) (by rfl) (by rfl) (by rfl))) (gt_tup (.inr rfl) (gts_cons (.inr rfl) gt_U (gts_cons (.inr rfl) gt_U gts_nil))) (gk_tup (gk_cons (show 2≤2 by decide) (gk_cons (show 2≤3 by decide) gk_nil))) (fun _ _ _ _=>q_pifN) (fun _ _ _ _=>(q_if (@q_tcmp _ _ _ _ _ _ _ _ _ _ _ _ op_isN o2_isN (qv .B 2) q_non (by first | exact nomark _ | rfl)) q_non (q_op op_add (o2_I0 (g:=gAdd) (fun _ _=>rfl) (fun _ _ _=>.int)) (qv .B 2) (qv .B 3)))) (by intro _; rfl))) q_anil) (by decide) (by decide) (by rfl) (by rfl))))),
  c_body (n:=2) (Nl:=["cap", "move"]) (.inl rfl) h⟩
theorem okraised {f:Addr} {fd:FuncData} (D:Def K mg "raised" sraised ["cap", "elder"] f fd) (B:Blt mg) {funder:Addr} {fdunder:FuncData} (Dunder:Def K mg "under" sunder ["cap", "other"] funder fdunder) (Gunder:FnOk P w K mg base CX0 1 funder fdunder ["cap", "other"] (spM K 2 .F (f_under))):FnOk P w K mg base CX0 2 f fd ["cap", "elder"] (spM K 2 .F (f_raised)):=by
 refine D.F.ok scraised (fun vs H Q E h=>h.1) (fun cdv A outer s H vs Q E hr h=>?_)
 exact ⟨tSt K (fun _ _=>False) .F m_raised,(q_cons (q_if_ (q_tnot (@q_val _ _ _ _ _ (q_CB (q_FC (@q_call _ _ _ _ _ _ _ _ _ _ _ _ _ _ _ _ Gunder (.inl rfl) (by exact hr.mono (by decide)) (by rfl) Dunder.m Dunder.F.kp Dunder.b (q_acons (qv .B 1) (q_acons (qv .B 0) q_anil)) (by decide) (by rfl) (by rfl)))) (by intro _; rfl))) (q_last (@q_retv _ _ _ _ _ 0 _ _ (.inl rfl) (by rfl) (by trivial) (by decide) (by decide))) q_nil) (q_last (q_ret (@q_ct _ _ _ _ _ _ _ _ _ _ _ _ _ _ K_tup (b_tup (c:=true)) (by rfl) B.tuple_ bt_tuple (q_acons (q_FC (@q_comp _ _ _ _ _ _ _ _ _ _ _ _ _ _ _ _ (show CompScope (defScope sraised) _ ["cap", "elder"] ["cap", "elder", "number", "old"] from ⟨rfl,by decide +kernel,by decide +kernel,by decide +kernel,by decide +kernel,by decide,by decide +kernel,by decide +kernel⟩) rfl (@q_zipB _ _ _ _ _ _ _ _ _ _ _ (by rfl) B.zip_ (q_acons (qv .B 0) (q_acons (qv .B 1) q_anil)) (by rfl) (by rfl) (by rfl)) (fun _ _ _ _=>(@pg_tupK _ K _ _ _ _ 2 rfl (@pgs_cons _ _ _ _ _ (@pg_name _ _ 2 _ (by decide +kernel:(["cap", "elder", "number", "old"]:List Str).Nodup) rfl (Or.inl rfl) (.inr rfl)) (@pgs_cons _ _ _ _ _ (@pg_name _ _ 3 _ (by decide +kernel:(["cap", "elder", "number", "old"]:List Str).Nodup) rfl (Or.inl rfl) (.inr rfl)) pgs_nil (by rfl)) (by rfl)) (by rfl) (by rfl) (by rfl))) (gt_tup (.inr rfl) (gts_cons (.inr rfl) gt_U (gts_cons (.inr rfl) gt_U gts_nil))) (gk_tup (gk_cons (show 2≤2 by decide) (gk_cons (show 2≤3 by decide) gk_nil))) (fun _ _ _ _=>q_pifN) (fun _ _ _ _=>(q_if (@q_tcmp _ _ _ _ _ _ _ _ _ _ _ _ (op_eqD (hu64 hr)) (o2_eqD (neg:=false)) (qv .B 2) (qv .B 3) (by first | exact nomark _ | rfl)) (qv .V 2) q_non)) (by intro _; rfl))) q_anil) (by decide) (by decide) (by rfl) (by rfl))))),
  c_body (n:=2) (Nl:=["cap", "elder"]) (.inl rfl) h⟩
theorem okway_back {f:Addr} {fd:FuncData} (D:Def K mg "way_back" sway_back ["tree", "number"] f fd) (B:Blt mg):FnOk P w K mg base CX0 1 f fd ["tree", "number"] (spM K 2 .F (f_way_back)):=by
 refine D.F.ok scway_back (fun vs H Q E h=>h.1) (fun cdv A outer s H vs Q E hr h=>?_)
 exact ⟨tSt K (fun _ _=>False) .F m_way_back,(q_cons (@q_setF _ _ _ _ _ _ _ 2 _ _ scway_back.nd rfl (by trivial) (q_lst q_anil) (by rfl) (by trivial)) (q_cons (@q_setV _ _ _ _ _ _ _ 3 _ _ scway_back.nd rfl (by trivial) (qv .V 1) (by rfl) (by trivial)) (q_cons (q_while PassesOwn.never (@q_tcmp _ _ _ _ _ _ _ _ _ _ _ _ op_notN o2_notN (qv .B 3) q_non (by first | exact nomark _ | rfl)) (q_cons (@q_app _ _ _ _ _ _ _ 2 _ _ _ _ rfl (by trivial) (qv .V 3) (by decide) (by decide) (by rfl) (by rfl) (by rfl) (by rfl) (by rfl)) (q_last (@q_setU _ _ _ _ _ _ _ 3 _ _ scway_back.nd rfl (by trivial) (q_ixU (q_UB (q_ixU (qv .B 0) (qv .B 3))) q_int) (by rfl) (by trivial))))) (q_last (@q_retv _ _ _ _ _ 2 _ _ (.inl rfl) (by rfl) (by trivial) (by decide) (by decide)))))),
  c_body (n:=2) (Nl:=["tree", "number", "numbers", "at"]) (.inl rfl) h⟩
theorem okgrow {f:Addr} {fd:FuncData} (D:Def K mg "grow" sgrow ["moor", "tree", "at", "number"] f fd) (B:Blt mg) {fcap_after:Addr} {fdcap_after:FuncData} (Dcap_after:Def K mg "cap_after" scap_after ["cap", "move"] fcap_after fdcap_after) (Gcap_after:FnOk P w K mg base CX0 3 fcap_after fdcap_after ["cap", "move"] (spM K 2 .F (f_cap_after))) {fway_back:Addr} {fdway_back:FuncData} (Dway_back:Def K mg "way_back" sway_back ["tree", "number"] fway_back fdway_back) (Gway_back:FnOk P w K mg base CX0 1 fway_back fdway_back ["tree", "number"] (spM K 2 .F (f_way_back))) {fcap_able:Addr} {fdcap_able:FuncData} (Dcap_able:Def K mg "cap_able" scap_able ["cap", "move"] fcap_able fdcap_able) (Gcap_able:FnOk P w K mg base CX0 2 fcap_able fdcap_able ["cap", "move"] (spM K 2 .F (f_cap_able))) {fraised:Addr} {fdraised:FuncData} (Draised:Def K mg "raised" sraised ["cap", "elder"] fraised fdraised) (Graised:FnOk P w K mg base CX0 2 fraised fdraised ["cap", "elder"] (spM K 2 .F (f_raised))) {funder_any:Addr} {fdunder_any:FuncData} (Dunder_any:Def K mg "under_any" sunder_any ["cap", "caps"] funder_any fdunder_any) (Gunder_any:FnOk P w K mg base CX0 2 funder_any fdunder_any ["cap", "caps"] (spM K 2 .F (f_under_any))):FnOk P w K mg base CX0 4 f fd ["moor", "tree", "at", "number"] (spIO K 4 (f_grow)):=by
 refine D.F.ok scgrow (fun vs H Q E h=>h.1) (fun cdv A outer s H vs Q E hr h=>?_)
 obtain ⟨p,hb⟩:=c_bodyI (n:=4) (Nl:=["moor", "tree", "at", "number", "move", "cap", "elder"]) h
 exact ⟨tStI K (fun _ _=>False) p (m_grow p),(q_consI (@q_i _ _ _ .F _ _ _ (@q_setU _ _ _ _ _ _ _ 4 _ _ scgrow.nd rfl (by trivial) (q_ixU (q_UB (q_ixU (qv .B 0) q_int)) (qv .B 3)) (by rfl) (by trivial))) (q_consI (q_ifI (q_tnot (@q_val _ _ _ _ _ (q_CB (q_FC (@q_call _ _ _ _ _ _ _ _ _ _ _ _ _ _ _ _ Gcap_able (.inl rfl) (by exact hr.mono (by decide)) (by rfl) Dcap_able.m Dcap_able.F.kp Dcap_able.b (q_acons (q_UB (q_ixU (q_UB (q_ixU (qv .B 1) (qv .B 2))) q_int)) (q_acons (qv .B 4) q_anil)) (by decide) (by rfl) (by rfl)))) (by intro _; rfl))) (q_lastI q_retI) (@q_is _ _ _ .F _ _ _ q_nil)) (q_consI (@q_i _ _ _ .F _ _ _ (@q_setF _ _ _ _ _ _ _ 5 _ _ scgrow.nd rfl (by trivial) (@q_call _ _ _ _ _ _ _ _ _ _ _ _ _ _ _ _ Gcap_after (.inl rfl) (by exact hr.mono (by decide)) (by rfl) Dcap_after.m Dcap_after.F.kp Dcap_after.b (q_acons (q_UB (q_ixU (q_UB (q_ixU (qv .B 1) (qv .B 2))) q_int)) (q_acons (qv .B 4) q_anil)) (by decide) (by rfl) (by rfl)) (by rfl) (by trivial))) (q_consI (@q_i _ _ _ .F _ _ _ (@q_for _ _ _ _ _ _ _ _ _ _ _ _ _ PassesOwn.never rfl (@q_iSqU _ _ _ _ _ _ (q_VU (q_FV (@q_call _ _ _ _ _ _ _ _ _ _ _ _ _ _ _ _ Gway_back (.inl rfl) (by exact hr.mono (by decide)) (by rfl) Dway_back.m Dway_back.F.kp Dway_back.b (q_acons (qv .B 1) (q_acons (qv .B 2) q_anil)) (by decide) (by rfl) (by rfl)))) (by rfl)) (@pg_name _ _ 6 _ scgrow.nd rfl (by trivial) (by trivial)) gt_U (q_last (@q_setF _ _ _ _ _ _ _ 5 _ _ scgrow.nd rfl (by trivial) (@q_call _ _ _ _ _ _ _ _ _ _ _ _ _ _ _ _ Graised (.inl rfl) (by exact hr.mono (by decide)) (by rfl) Draised.m Draised.F.kp Draised.b (q_acons (qv .B 5) (q_acons (q_UB (q_ixU (q_UB (q_ixU (qv .B 1) (qv .B 6))) q_int)) q_anil)) (by decide) (by rfl) (by rfl)) (by rfl) (by trivial))) (by intro _; rfl))) (q_lastI (q_ifI (q_tnot (@q_val _ _ _ _ _ (q_CB (q_FC (@q_call _ _ _ _ _ _ _ _ _ _ _ _ _ _ _ _ Gunder_any (.inl rfl) (by exact hr.mono (by decide)) (by rfl) Dunder_any.m Dunder_any.F.kp Dunder_any.b (q_acons (qv .B 5) (q_acons (q_CB (q_FC (@q_comp _ _ _ _ _ _ _ _ _ _ _ _ _ _ _ _ (show CompScope (defScope sgrow) _ ["moor", "tree", "at", "number", "move", "cap", "elder"] ["moor", "tree", "at", "number", "move", "cap", "elder", "row"] from ⟨rfl,by decide +kernel,by decide +kernel,by decide +kernel,by decide +kernel,by decide,by decide +kernel,by decide +kernel⟩) rfl (@q_iSqB _ _ _ _ _ _ (qv .B 1) (by rfl)) (fun _ _ _ _=>(@pg_name _ _ 7 _ (by decide +kernel:(["moor", "tree", "at", "number", "move", "cap", "elder", "row"]:List Str).Nodup) rfl (Or.inl rfl) (.inr rfl))) gt_U (gk_name (show 7≤7 by decide)) (fun _ _ _ _=>q_pifN) (fun _ _ _ _=>(q_chkV (q_ixU (qv .B 7) q_int))) (by intro _; rfl)))) q_anil)) (by decide) (by rfl) (by rfl)))) (by intro _; rfl))) (q_lastI (@q_appI _ _ _ _ _ _ _ 1 _ _ _ _ rfl (by trivial) (q_FV (q_tup (q_acons (qv .V 5) (q_acons (qv .V 2) (q_acons (qv .V 3) q_anil))))) (by decide) (by decide) (by rfl) (by rfl) (by rfl) (by rfl) (by rfl))) (@q_is _ _ _ .F _ _ _ q_nil))))))),hb⟩
theorem okgrowth {f:Addr} {fd:FuncData} (D:Def K mg "growth" sgrowth ["moor", "most"] f fd) (B:Blt mg) {fgrow:Addr} {fdgrow:FuncData} (Dgrow:Def K mg "grow" sgrow ["moor", "tree", "at", "number"] fgrow fdgrow) (Ggrow:FnOk P w K mg base CX0 4 fgrow fdgrow ["moor", "tree", "at", "number"] (spIO K 4 (f_grow))):FnOk P w K mg base CX0 5 f fd ["moor", "most"] (spM K 2 .F (f_growth)):=by
 refine D.F.ok scgrowth (fun vs H Q E h=>h.1) (fun cdv A outer s H vs Q E hr h=>?_)
 exact ⟨tSt K (fun _ _=>False) .F m_growth,(q_cons (@q_setF _ _ _ _ _ _ _ 2 _ _ scgrowth.nd rfl (by trivial) (q_lst (q_acons (q_FV (q_tup (q_acons (q_chkV (q_ixU (qv .B 0) q_int)) (q_acons q_non (q_acons q_non q_anil))))) q_anil)) (by rfl) (by trivial)) (q_cons (@q_setV _ _ _ _ _ _ _ 3 _ _ scgrowth.nd rfl (by trivial) q_int (by rfl) (by trivial)) (q_cons (q_while PassesOwn.never (@q_tcmp _ _ _ _ _ _ _ _ _ _ _ _ op_lt (o2_I0 (g:=gLt) (fun _ _=>rfl) (fun _ _ _=>.bl)) (qv .B 3) (@q_cb _ _ _ _ _ _ _ _ _ _ _ _ _ _ K_len b_len (by rfl) B.len_ PySem.boot_len (q_acons (qv .B 2) q_anil) (by decide) (by decide) (by rfl) (by rfl)) (by first | exact nomark _ | rfl)) (q_cons (@q_for _ _ _ _ _ _ _ _ _ _ _ _ _ PassesOwn.never rfl (@q_rng1 _ _ _ _ _ _ _ _ _ (by rfl) B.range_ (q_acons (@q_cb _ _ _ _ _ _ _ _ _ _ _ _ _ _ K_len b_len (by rfl) B.len_ PySem.boot_len (q_acons (q_UB (q_ixU (qv .B 0) q_int)) q_anil) (by decide) (by decide) (by rfl) (by rfl)) q_anil) (by rfl)) (@pg_name _ _ 4 _ scgrowth.nd rfl (by trivial) (by trivial)) gt_U (q_last (@q_callI _ _ _ _ _ _ _ _ 2 _ _ _ _ _ _ _ _ _ _ _ _ rfl (by trivial) Ggrow (by exact hr.mono (by decide)) (by rfl) Dgrow.m Dgrow.F.kp Dgrow.b (qv .B 0) (q_acons (qv .B 3) (q_acons (qv .B 4) q_anil)) (by decide) (by decide) (by decide) (by rfl) (by rfl) (by rfl) (by rfl))) (by intro _; rfl)) (q_cons (q_if_ (@q_tcmp _ _ _ _ _ _ _ _ _ _ _ _ op_gt (o2_I0 (g:=gGt) (fun _ _=>rfl) (fun _ _ _=>.bl)) (@q_cb _ _ _ _ _ _ _ _ _ _ _ _ _ _ K_len b_len (by rfl) B.len_ PySem.boot_len (q_acons (qv .B 2) q_anil) (by decide) (by decide) (by rfl) (by rfl)) (qv .B 1) (by first | exact nomark _ | rfl)) (q_last (q_ret q_non)) q_nil) (q_last (@q_aug _ _ _ _ _ _ _ 3 _ _ _ _ scgrowth.nd rfl (by trivial) q_int ip_add (by trivial)))))) (q_last (@q_retv _ _ _ _ _ 2 _ _ (.inl rfl) (by rfl) (by trivial) (by decide) (by decide)))))),
  c_body (n:=2) (Nl:=["moor", "most", "tree", "at", "number"]) (.inl rfl) h⟩
theorem oknoughts {f:Addr} {fd:FuncData} (D:Def K mg "noughts" snoughts ["moor"] f fd) (B:Blt mg):FnOk P w K mg base CX0 1 f fd ["moor"] (spM K 1 .F (f_noughts)):=by
 refine D.F.ok scnoughts (fun vs H Q E h=>h.1) (fun cdv A outer s H vs Q E hr h=>?_)
 exact ⟨tSt K (fun _ _=>False) .F m_noughts,(q_last (q_ret (q_op op_repT o2_repT (q_FC (q_tup (q_acons q_int q_anil))) (@q_cb _ _ _ _ _ _ _ _ _ _ _ _ _ _ K_len b_len (by rfl) B.len_ PySem.boot_len (q_acons (q_UB (q_ixU (qv .B 0) q_int)) q_anil) (by decide) (by decide) (by rfl) (by rfl))))),
  c_body (n:=1) (Nl:=["moor"]) (.inl rfl) h⟩
theorem okhurdle {f:Addr} {fd:FuncData} (D:Def K mg "hurdle" shurdle ["moor", "row"] f fd) (B:Blt mg) {fnoughts:Addr} {fdnoughts:FuncData} (Dnoughts:Def K mg "noughts" snoughts ["moor"] fnoughts fdnoughts) (Gnoughts:FnOk P w K mg base CX0 1 fnoughts fdnoughts ["moor"] (spM K 1 .F (f_noughts))) {fsource:Addr} {fdsource:FuncData} (Dsource:Def K mg "source" ssource ["stand", "move"] fsource fdsource) (Gsource:FnOk P w K mg base CX0 1 fsource fdsource ["stand", "move"] (spM K 2 .F (f_source))):FnOk P w K mg base CX0 2 f fd ["moor", "row"] (spM K 2 .F (f_hurdle)):=by
 refine D.F.ok schurdle (fun vs H Q E h=>h.1) (fun cdv A outer s H vs Q E hr h=>?_)
 exact ⟨tSt K (fun _ _=>False) .F m_hurdle,(q_cons (@q_setF _ _ _ _ _ _ _ 2 _ _ schurdle.nd rfl (by trivial) (@q_call _ _ _ _ _ _ _ _ _ _ _ _ _ _ _ _ Gnoughts (.inl rfl) (by exact hr.mono (by decide)) (by rfl) Dnoughts.m Dnoughts.F.kp Dnoughts.b (q_acons (qv .B 0) q_anil) (by decide) (by rfl) (by rfl)) (by rfl) (by trivial)) (q_cons (@q_for _ _ _ _ _ _ _ _ _ _ _ _ _ PassesOwn.never rfl (@q_rvU _ _ _ _ _ _ _ _ (by rfl) B.reversed_ (q_acons (qv .U 1) q_anil) (by rfl) (by rfl)) (@pg_name _ _ 3 _ schurdle.nd rfl (by trivial) (by trivial)) gt_U (q_last (@q_setF _ _ _ _ _ _ _ 2 _ _ schurdle.nd rfl (by trivial) (@q_call _ _ _ _ _ _ _ _ _ _ _ _ _ _ _ _ Gsource (.inl rfl) (by exact hr.mono (by decide)) (by rfl) Dsource.m Dsource.F.kp Dsource.b (q_acons (qv .B 2) (q_acons (q_UB (q_ixU (q_UB (q_ixU (qv .B 0) q_int)) (qv .B 3))) q_anil)) (by decide) (by rfl) (by rfl)) (by rfl) (by trivial))) (by intro _; rfl)) (q_last (@q_retv _ _ _ _ _ 2 _ _ (.inl rfl) (by rfl) (by trivial) (by decide) (by decide))))),
  c_body (n:=2) (Nl:=["moor", "row", "needed", "number"]) (.inl rfl) h⟩
theorem okshifted {f:Addr} {fd:FuncData} (D:Def K mg "shifted" sshifted ["stand", "step", "times"] f fd) (B:Blt mg):FnOk P w K mg base CX0 1 f fd ["stand", "step", "times"] (spM K 3 .F (f_shifted)):=by
 refine D.F.ok scshifted (fun vs H Q E h=>h.1) (fun cdv A outer s H vs Q E hr h=>?_)
 exact ⟨tSt K (fun _ _=>False) .F m_shifted,(q_last (q_ret (@q_ct _ _ _ _ _ _ _ _ _ _ _ _ _ _ K_tup (b_tup (c:=true)) (by rfl) B.tuple_ bt_tuple (q_acons (q_FC (@q_comp _ _ _ _ _ _ _ _ _ _ _ _ _ _ _ _ (show CompScope (defScope sshifted) _ ["stand", "step", "times"] ["stand", "step", "times", "number", "by"] from ⟨rfl,by decide +kernel,by decide +kernel,by decide +kernel,by decide +kernel,by decide,by decide +kernel,by decide +kernel⟩) rfl (@q_zipB _ _ _ _ _ _ _ _ _ _ _ (by rfl) B.zip_ (q_acons (qv .B 0) (q_acons (qv .B 1) q_anil)) (by rfl) (by rfl) (by rfl)) (fun _ _ _ _=>(@pg_tupK _ K _ _ _ _ 2 rfl (@pgs_cons _ _ _ _ _ (@pg_name _ _ 3 _ (by decide +kernel:(["stand", "step", "times", "number", "by"]:List Str).Nodup) rfl (Or.inl rfl) (.inr rfl)) (@pgs_cons _ _ _ _ _ (@pg_name _ _ 4 _ (by decide +kernel:(["stand", "step", "times", "number", "by"]:List Str).Nodup) rfl (Or.inl rfl) (.inr rfl)) pgs_nil (by rfl)) (by rfl)) (by rfl) (by rfl) (by rfl))) (gt_tup (.inr rfl) (gts_cons (.inr rfl) gt_U (gts_cons (.inr rfl) gt_U gts_nil))) (gk_tup (gk_cons (show 3≤3 by decide) (gk_cons (show 3≤4 by decide) gk_nil))) (fun _ _ _ _=>q_pifN) (fun _ _ _ _=>(q_op op_add (o2_I0 (g:=gAdd) (fun _ _=>rfl) (fun _ _ _=>.int)) (qv .B 3) (q_op op_mul (o2_I (C:=CMul) (g:=gMul) (fun _ _=>rfl) (fun _ _ _=>.int)) (qv .B 2) (qv .B 4)))) (by intro _; rfl))) q_anil) (by decide) (by decide) (by rfl) (by rfl)))),
  c_body (n:=3) (Nl:=["stand", "step", "times"]) (.inl rfl) h⟩
theorem oksum_of {f:Addr} {fd:FuncData} (D:Def K mg "sum_of" ssum_of ["moor", "row"] f fd) (B:Blt mg) {fnoughts:Addr} {fdnoughts:FuncData} (Dnoughts:Def K mg "noughts" snoughts ["moor"] fnoughts fdnoughts) (Gnoughts:FnOk P w K mg base CX0 1 fnoughts fdnoughts ["moor"] (spM K 1 .F (f_noughts))) {fshifted:Addr} {fdshifted:FuncData} (Dshifted:Def K mg "shifted" sshifted ["stand", "step", "times"] fshifted fdshifted) (Gshifted:FnOk P w K mg base CX0 1 fshifted fdshifted ["stand", "step", "times"] (spM K 3 .F (f_shifted))) {fchange:Addr} {fdchange:FuncData} (Dchange:Def K mg "change" schange ["move"] fchange fdchange) (Gchange:FnOk P w K mg base CX0 1 fchange fdchange ["move"] (spM K 1 .F (f_change))):FnOk P w K mg base CX0 2 f fd ["moor", "row"] (spM K 2 .F (f_sum_of)):=by
 refine D.F.ok scsum_of (fun vs H Q E h=>h.1) (fun cdv A outer s H vs Q E hr h=>?_)
 exact ⟨tSt K (fun _ _=>False) .F m_sum_of,(q_cons (@q_setF _ _ _ _ _ _ _ 2 _ _ scsum_of.nd rfl (by trivial) (@q_call _ _ _ _ _ _ _ _ _ _ _ _ _ _ _ _ Gnoughts (.inl rfl) (by exact hr.mono (by decide)) (by rfl) Dnoughts.m Dnoughts.F.kp Dnoughts.b (q_acons (qv .B 0) q_anil) (by decide) (by rfl) (by rfl)) (by rfl) (by trivial)) (q_cons (@q_for _ _ _ _ _ _ _ _ _ _ _ _ _ PassesOwn.never rfl (@q_iSqU _ _ _ _ _ _ (qv .U 1) (by rfl)) (@pg_name _ _ 3 _ scsum_of.nd rfl (by trivial) (by trivial)) gt_U (q_last (@q_setF _ _ _ _ _ _ _ 2 _ _ scsum_of.nd rfl (by trivial) (@q_call _ _ _ _ _ _ _ _ _ _ _ _ _ _ _ _ Gshifted (.inl rfl) (by exact hr.mono (by decide)) (by rfl) Dshifted.m Dshifted.F.kp Dshifted.b (q_acons (qv .B 2) (q_acons (q_CB (q_FC (@q_call _ _ _ _ _ _ _ _ _ _ _ _ _ _ _ _ Gchange (.inl rfl) (by exact hr.mono (by decide)) (by rfl) Dchange.m Dchange.F.kp Dchange.b (q_acons (q_UB (q_ixU (q_UB (q_ixU (qv .B 0) q_int)) (qv .B 3))) q_anil) (by decide) (by rfl) (by rfl)))) (q_acons q_int q_anil))) (by decide) (by rfl) (by rfl)) (by rfl) (by trivial))) (by intro _; rfl)) (q_last (@q_retv _ _ _ _ _ 2 _ _ (.inl rfl) (by rfl) (by trivial) (by decide) (by decide))))),
  c_body (n:=2) (Nl:=["moor", "row", "total", "number"]) (.inl rfl) h⟩
theorem okway {f:Addr} {fd:FuncData} (D:Def K mg "way" sway ["tree", "number"] f fd) (B:Blt mg) {fway_back:Addr} {fdway_back:FuncData} (Dway_back:Def K mg "way_back" sway_back ["tree", "number"] fway_back fdway_back) (Gway_back:FnOk P w K mg base CX0 1 fway_back fdway_back ["tree", "number"] (spM K 2 .F (f_way_back))):FnOk P w K mg base CX0 2 f fd ["tree", "number"] (spM K 2 .F (f_way)):=by
 refine D.F.ok scway (fun vs H Q E h=>h.1) (fun cdv A outer s H vs Q E hr h=>?_)
 exact ⟨tSt K (fun _ _=>False) .F m_way,(q_last (q_ret (@q_lrev _ _ _ _ _ _ _ _ _ rfl (by rfl) B.list_ (by rfl) B.reversed_ (q_acons (q_CB (q_FC (@q_call _ _ _ _ _ _ _ _ _ _ _ _ _ _ _ _ Gway_back (.inl rfl) (by exact hr.mono (by decide)) (by rfl) Dway_back.m Dway_back.F.kp Dway_back.b (q_acons (qv .B 0) (q_acons (qv .B 1) q_anil)) (by decide) (by rfl) (by rfl)))) q_anil) (by rfl) (by rfl) (by rfl)))),
  c_body (n:=2) (Nl:=["tree", "number"]) (.inl rfl) h⟩
theorem okrow_between {f:Addr} {fd:FuncData} (D:Def K mg "row_between" srow_between ["tree", "elder", "number"] f fd) (B:Blt mg) {fway:Addr} {fdway:FuncData} (Dway:Def K mg "way" sway ["tree", "number"] fway fdway) (Gway:FnOk P w K mg base CX0 2 fway fdway ["tree", "number"] (spM K 2 .F (f_way))):FnOk P w K mg base CX0 3 f fd ["tree", "elder", "number"] (spM K 3 .F (f_row_between)):=by
 refine D.F.ok scrow_between (fun vs H Q E h=>h.1) (fun cdv A outer s H vs Q E hr h=>?_)
 exact ⟨tSt K (fun _ _=>False) .F m_row_between,(q_cons (@q_setF _ _ _ _ _ _ _ 3 _ _ scrow_between.nd rfl (by trivial) (@q_call _ _ _ _ _ _ _ _ _ _ _ _ _ _ _ _ Gway (.inl rfl) (by exact hr.mono (by decide)) (by rfl) Dway.m Dway.F.kp Dway.b (q_acons (qv .B 0) (q_acons (qv .B 2) q_anil)) (by decide) (by rfl) (by rfl)) (by rfl) (by trivial)) (q_last (q_ret (@q_comp _ _ _ _ _ _ _ _ _ _ _ _ _ _ _ _ (show CompScope (defScope srow_between) _ ["tree", "elder", "number", "path"] ["tree", "elder", "number", "path", "at"] from ⟨rfl,by decide +kernel,by decide +kernel,by decide +kernel,by decide +kernel,by decide,by decide +kernel,by decide +kernel⟩) rfl (@q_iSqB _ _ _ _ _ _ (q_CB (q_FC (@q_sl _ _ _ _ _ _ true _ _ _ _ _ (qv .C 3) (q_pS (q_op op_add (o2_I0 (g:=gAdd) (fun _ _=>rfl) (fun _ _ _=>.int)) (@q_index _ _ _ _ _ _ _ _ _ _ (hu64 hr) (qv .B 3) (qv .B 1) (by rfl) (by rfl) (by rfl) (by rfl) (by rfl) (by rfl)) q_int)) q_pN (by rfl)))) (by rfl)) (fun _ _ _ _=>(@pg_name _ _ 4 _ (by decide +kernel:(["tree", "elder", "number", "path", "at"]:List Str).Nodup) rfl (Or.inl rfl) (.inr rfl))) gt_U (gk_name (show 4≤4 by decide)) (fun _ _ _ _=>q_pifN) (fun _ _ _ _=>(q_chkV (q_ixU (q_UB (q_ixU (qv .B 0) (qv .B 4))) q_int))) (by intro _; rfl))))),
  c_body (n:=3) (Nl:=["tree", "elder", "number", "path"]) (.inl rfl) h⟩
theorem okunraised {f:Addr} {fd:FuncData} (D:Def K mg "unraised" sunraised ["moor", "tree", "number"] f fd) (B:Blt mg) {fcap_after:Addr} {fdcap_after:FuncData} (Dcap_after:Def K mg "cap_after" scap_after ["cap", "move"] fcap_after fdcap_after) (Gcap_after:FnOk P w K mg base CX0 3 fcap_after fdcap_after ["cap", "move"] (spM K 2 .F (f_cap_after))):FnOk P w K mg base CX0 4 f fd ["moor", "tree", "number"] (spM K 3 .F (f_unraised)):=by
 refine D.F.ok scunraised (fun vs H Q E h=>h.1) (fun cdv A outer s H vs Q E hr h=>?_)
 exact ⟨tSt K (fun _ _=>False) .F m_unraised,(q_cons (@q_setU _ _ _ _ _ _ _ 3 _ _ scunraised.nd rfl (by trivial) (q_ixU (qv .B 1) (qv .B 2)) (by rfl) (by trivial)) (q_last (q_ret (@q_call _ _ _ _ _ _ _ _ _ _ _ _ _ _ _ _ Gcap_after (.inl rfl) (by exact hr.mono (by decide)) (by rfl) Dcap_after.m Dcap_after.F.kp Dcap_after.b (q_acons (q_UB (q_ixU (q_UB (q_ixU (qv .B 1) (q_UB (q_ixU (qv .B 3) q_int)))) q_int)) (q_acons (q_UB (q_ixU (q_UB (q_ixU (qv .B 0) q_int)) (q_UB (q_ixU (qv .B 3) q_int)))) q_anil)) (by decide) (by rfl) (by rfl))))),
  c_body (n:=3) (Nl:=["moor", "tree", "number", "row"]) (.inl rfl) h⟩
theorem oklifts_of {f:Addr} {fd:FuncData} (D:Def K mg "lifts_of" slifts_of ["moor", "tree", "number"] f fd) (B:Blt mg) {funraised:Addr} {fdunraised:FuncData} (Dunraised:Def K mg "unraised" sunraised ["moor", "tree", "number"] funraised fdunraised) (Gunraised:FnOk P w K mg base CX0 4 funraised fdunraised ["moor", "tree", "number"] (spM K 3 .F (f_unraised))) {fway_back:Addr} {fdway_back:FuncData} (Dway_back:Def K mg "way_back" sway_back ["tree", "number"] fway_back fdway_back) (Gway_back:FnOk P w K mg base CX0 1 fway_back fdway_back ["tree", "number"] (spM K 2 .F (f_way_back))) {fraised:Addr} {fdraised:FuncData} (Draised:Def K mg "raised" sraised ["cap", "elder"] fraised fdraised) (Graised:FnOk P w K mg base CX0 2 fraised fdraised ["cap", "elder"] (spM K 2 .F (f_raised))):FnOk P w K mg base CX0 5 f fd ["moor", "tree", "number"] (spM K 3 .F (f_lifts_of)):=by
 refine D.F.ok sclifts_of (fun vs H Q E h=>h.1) (fun cdv A outer s H vs Q E hr h=>?_)
 exact ⟨tSt K (fun _ _=>False) .F m_lifts_of,(q_cons (q_if_ (@q_tcmp _ _ _ _ _ _ _ _ _ _ _ _ op_eq o2_eqS (qv .B 2) q_int (by first | exact nomark _ | rfl)) (q_last (q_ret (q_lst q_anil))) q_nil) (q_cons (@q_setF _ _ _ _ _ _ _ 3 _ _ sclifts_of.nd rfl (by trivial) (q_lst q_anil) (by rfl) (by trivial)) (q_cons (@q_setF _ _ _ _ _ _ _ 4 _ _ sclifts_of.nd rfl (by trivial) (@q_call _ _ _ _ _ _ _ _ _ _ _ _ _ _ _ _ Gunraised (.inl rfl) (by exact hr.mono (by decide)) (by rfl) Dunraised.m Dunraised.F.kp Dunraised.b (q_acons (qv .B 0) (q_acons (qv .B 1) (q_acons (qv .B 2) q_anil))) (by decide) (by rfl) (by rfl)) (by rfl) (by trivial)) (q_cons (@q_for _ _ _ _ _ _ _ _ _ _ _ _ _ PassesOwn.never rfl (@q_iSqU _ _ _ _ _ _ (q_VU (q_FV (@q_sl _ _ _ _ _ _ true _ _ _ _ _ (q_FC (@q_call _ _ _ _ _ _ _ _ _ _ _ _ _ _ _ _ Gway_back (.inl rfl) (by exact hr.mono (by decide)) (by rfl) Dway_back.m Dway_back.F.kp Dway_back.b (q_acons (qv .B 1) (q_acons (qv .B 2) q_anil)) (by decide) (by rfl) (by rfl))) (q_pS q_int) q_pN (by rfl)))) (by rfl)) (@pg_name _ _ 5 _ sclifts_of.nd rfl (by trivial) (by trivial)) gt_U (q_cons (@q_setF _ _ _ _ _ _ _ 6 _ _ sclifts_of.nd rfl (by trivial) (@q_call _ _ _ _ _ _ _ _ _ _ _ _ _ _ _ _ Graised (.inl rfl) (by exact hr.mono (by decide)) (by rfl) Draised.m Draised.F.kp Draised.b (q_acons (qv .B 4) (q_acons (q_UB (q_ixU (q_UB (q_ixU (qv .B 1) (qv .B 5))) q_int)) q_anil)) (by decide) (by rfl) (by rfl)) (by rfl) (by trivial)) (q_cons (@q_setF _ _ _ _ _ _ _ 7 _ _ sclifts_of.nd rfl (by trivial) (@q_ct _ _ _ _ _ _ _ _ _ _ _ _ _ _ K_tup (b_tup (c:=true)) (by rfl) B.tuple_ bt_tuple (q_acons (q_FC (@q_comp _ _ _ _ _ _ _ _ _ _ _ _ _ _ _ _ (show CompScope (defScope slifts_of) _ ["moor", "tree", "number", "found", "cap", "elder", "higher", "places"] ["moor", "tree", "number", "found", "cap", "elder", "higher", "places", "place"] from ⟨rfl,by decide +kernel,by decide +kernel,by decide +kernel,by decide +kernel,by decide,by decide +kernel,by decide +kernel⟩) rfl (@q_rng1 _ _ _ _ _ _ _ _ _ (by rfl) B.range_ (q_acons (@q_cb _ _ _ _ _ _ _ _ _ _ _ _ _ _ K_len b_len (by rfl) B.len_ PySem.boot_len (q_acons (qv .B 4) q_anil) (by decide) (by decide) (by rfl) (by rfl)) q_anil) (by rfl)) (fun _ _ _ _=>(@pg_name _ _ 8 _ (by decide +kernel:(["moor", "tree", "number", "found", "cap", "elder", "higher", "places", "place"]:List Str).Nodup) rfl (Or.inl rfl) (.inr rfl))) gt_U (gk_name (show 8≤8 by decide)) (fun _ _ _ _=>(q_pif1 (@q_tcmp _ _ _ _ _ _ _ _ _ _ _ _ (op_neD (hu64 hr)) (o2_eqD (neg:=true)) (q_UB (q_ixU (qv .B 6) (qv .B 8))) (q_UB (q_ixU (qv .B 4) (qv .B 8))) (by first | exact nomark _ | rfl)))) (fun _ _ _ _=>(qv .V 8)) (by intro _; rfl))) q_anil) (by decide) (by decide) (by rfl) (by rfl)) (by rfl) (by trivial)) (q_cons (q_if_ (@q_tcmp _ _ _ _ _ _ _ _ _ _ _ _ op_gt (o2_I0 (g:=gGt) (fun _ _=>rfl) (fun _ _ _=>.bl)) (@q_cb _ _ _ _ _ _ _ _ _ _ _ _ _ _ K_len b_len (by rfl) B.len_ PySem.boot_len (q_acons (qv .B 7) q_anil) (by decide) (by decide) (by rfl) (by rfl)) q_int (by first | exact nomark _ | rfl)) (q_last (@q_app _ _ _ _ _ _ _ 3 _ _ _ _ rfl (by trivial) (q_FV (q_tup (q_acons (qv .V 5) (q_acons (qv .V 7) q_anil)))) (by decide) (by decide) (by rfl) (by rfl) (by rfl) (by rfl) (by rfl))) q_nil) (q_last (q_frz (@q_setV _ _ _ _ _ _ _ 4 _ _ sclifts_of.nd rfl (by trivial) (qv .V 6) (by rfl) (by trivial))))))) (by intro _; rfl)) (q_last (@q_retv _ _ _ _ _ 3 _ _ (.inl rfl) (by rfl) (by trivial) (by decide) (by decide))))))),
  c_body (n:=3) (Nl:=["moor", "tree", "number", "found", "cap", "elder", "higher", "places"]) (.inl rfl) h⟩
theorem okwanted_ahead {f:Addr} {fd:FuncData} (D:Def K mg "wanted_ahead" swanted_ahead ["moor", "row", "times", "wanted"] f fd) (B:Blt mg) {fhurdle:Addr} {fdhurdle:FuncData} (Dhurdle:Def K mg "hurdle" shurdle ["moor", "row"] fhurdle fdhurdle) (Ghurdle:FnOk P w K mg base CX0 2 fhurdle fdhurdle ["moor", "row"] (spM K 2 .F (f_hurdle))) {fsum_of:Addr} {fdsum_of:FuncData} (Dsum_of:Def K mg "sum_of" ssum_of ["moor", "row"] fsum_of fdsum_of) (Gsum_of:FnOk P w K mg base CX0 2 fsum_of fdsum_of ["moor", "row"] (spM K 2 .F (f_sum_of))) {fleast_over:Addr} {fdleast_over:FuncData} (Dleast_over:Def K mg "least_over" sleast_over ["stand", "other"] fleast_over fdleast_over) (Gleast_over:FnOk P w K mg base CX0 1 fleast_over fdleast_over ["stand", "other"] (spM K 2 .F (f_least_over))) {fshifted:Addr} {fdshifted:FuncData} (Dshifted:Def K mg "shifted" sshifted ["stand", "step", "times"] fshifted fdshifted) (Gshifted:FnOk P w K mg base CX0 1 fshifted fdshifted ["stand", "step", "times"] (spM K 3 .F (f_shifted))):FnOk P w K mg base CX0 3 f fd ["moor", "row", "times", "wanted"] (spM K 4 .F (f_wanted_ahead)):=by
 refine D.F.ok scwanted_ahead (fun vs H Q E h=>h.1) (fun cdv A outer s H vs Q E hr h=>?_)
 exact ⟨tSt K (fun _ _=>False) .F m_wanted_ahead,(q_cons (@q_setF _ _ _ _ _ _ _ 4 _ _ scwanted_ahead.nd rfl (by trivial) (@q_call _ _ _ _ _ _ _ _ _ _ _ _ _ _ _ _ Ghurdle (.inl rfl) (by exact hr.mono (by decide)) (by rfl) Dhurdle.m Dhurdle.F.kp Dhurdle.b (q_acons (qv .B 0) (q_acons (qv .B 1) q_anil)) (by decide) (by rfl) (by rfl)) (by rfl) (by trivial)) (q_cons (@q_setF _ _ _ _ _ _ _ 5 _ _ scwanted_ahead.nd rfl (by trivial) (@q_call _ _ _ _ _ _ _ _ _ _ _ _ _ _ _ _ Gsum_of (.inl rfl) (by exact hr.mono (by decide)) (by rfl) Dsum_of.m Dsum_of.F.kp Dsum_of.b (q_acons (qv .B 0) (q_acons (qv .B 1) q_anil)) (by decide) (by rfl) (by rfl)) (by rfl) (by trivial)) (q_cons (@q_setF _ _ _ _ _ _ _ 6 _ _ scwanted_ahead.nd rfl (by trivial) (@q_call _ _ _ _ _ _ _ _ _ _ _ _ _ _ _ _ Gleast_over (.inl rfl) (by exact hr.mono (by decide)) (by rfl) Dleast_over.m Dleast_over.F.kp Dleast_over.b (q_acons (qv .B 4) (q_acons (q_CB (q_FC (@q_call _ _ _ _ _ _ _ _ _ _ _ _ _ _ _ _ Gshifted (.inl rfl) (by exact hr.mono (by decide)) (by rfl) Dshifted.m Dshifted.F.kp Dshifted.b (q_acons (qv .B 4) (q_acons (qv .B 5) (q_acons (q_op op_sub (o2_I0 (g:=gSub) (fun _ _=>rfl) (fun _ _ _=>.int)) q_int (qv .B 2)) q_anil))) (by decide) (by rfl) (by rfl)))) q_anil)) (by decide) (by rfl) (by rfl)) (by rfl) (by trivial)) (q_last (q_ret (@q_call _ _ _ _ _ _ _ _ _ _ _ _ _ _ _ _ Gleast_over (.inl rfl) (by exact hr.mono (by decide)) (by rfl) Dleast_over.m Dleast_over.F.kp Dleast_over.b (q_acons (qv .B 6) (q_acons (q_CB (q_FC (@q_call _ _ _ _ _ _ _ _ _ _ _ _ _ _ _ _ Gshifted (.inl rfl) (by exact hr.mono (by decide)) (by rfl) Dshifted.m Dshifted.F.kp Dshifted.b (q_acons (qv .B 3) (q_acons (qv .B 5) (q_acons (q_un un_neg (o1_U (g:=gNeg) (fun _=>rfl) (fun _ _=>.int)) (qv .B 2)) q_anil))) (by decide) (by rfl) (by rfl)))) q_anil)) (by decide) (by rfl) (by rfl))))))),
  c_body (n:=4) (Nl:=["moor", "row", "times", "wanted", "needed", "step", "first_and_last"]) (.inl rfl) h⟩
theorem oktimes_for {f:Addr} {fd:FuncData} (D:Def K mg "times_for" stimes_for ["cap", "step", "places", "wanted"] f fd) (B:Blt mg):FnOk P w K mg base CX0 1 f fd ["cap", "step", "places", "wanted"] (spM K 4 .F (f_times_for)):=by
 refine D.F.ok sctimes_for (fun vs H Q E h=>h.1) (fun cdv A outer s H vs Q E hr h=>?_)
 exact ⟨tSt K (fun _ _=>False) .F m_times_for,(q_last (q_ret (@q_cb _ _ _ _ _ _ _ _ _ _ _ _ _ _ (call_maxQ rfl) (b_best (g:=maxL)) (by rfl) B.max_ bt_max (q_acons (q_CB (q_FC (q_op op_cat (o2_cat (c:=true)) (q_FC (q_lst (q_acons q_int q_anil))) (q_FC (@q_comp _ _ _ _ _ _ _ _ _ _ _ _ _ _ _ _ (show CompScope (defScope stimes_for) _ ["cap", "step", "places", "wanted"] ["cap", "step", "places", "wanted", "place"] from ⟨rfl,by decide +kernel,by decide +kernel,by decide +kernel,by decide +kernel,by decide,by decide +kernel,by decide +kernel⟩) rfl (@q_iSqB _ _ _ _ _ _ (qv .B 2) (by rfl)) (fun _ _ _ _=>(@pg_name _ _ 4 _ (by decide +kernel:(["cap", "step", "places", "wanted", "place"]:List Str).Nodup) rfl (Or.inl rfl) (.inr rfl))) gt_U (gk_name (show 4≤4 by decide)) (fun _ _ _ _=>q_pifN) (fun _ _ _ _=>(q_un un_neg (o1_U (g:=gNeg) (fun _=>rfl) (fun _ _=>.int)) (q_op op_fdivL (o2_I (C:=CDivL) (g:=gDiv) (fun _ _=>rfl) (fun _ _ _=>.int)) (q_op op_sub (o2_I0 (g:=gSub) (fun _ _=>rfl) (fun _ _ _=>.int)) (q_UB (q_ixU (qv .B 0) (qv .B 4))) (q_UB (q_ixU (qv .B 3) (qv .B 4)))) (q_UB (q_ixU (qv .B 1) (qv .B 4)))))) (by intro _; rfl)))))) q_anil) (by decide) (by decide) (by rfl) (by rfl)))),
  c_body (n:=4) (Nl:=["cap", "step", "places", "wanted"]) (.inl rfl) h⟩
theorem okclimb {f:Addr} {fd:FuncData} (D:Def K mg "climb" sclimb ["moor", "tree", "number", "height"] f fd) (B:Blt mg) {fway_back:Addr} {fdway_back:FuncData} (Dway_back:Def K mg "way_back" sway_back ["tree", "number"] fway_back fdway_back) (Gway_back:FnOk P w K mg base CX0 1 fway_back fdway_back ["tree", "number"] (spM K 2 .F (f_way_back))) {funraised:Addr} {fdunraised:FuncData} (Dunraised:Def K mg "unraised" sunraised ["moor", "tree", "number"] funraised fdunraised) (Gunraised:FnOk P w K mg base CX0 4 funraised fdunraised ["moor", "tree", "number"] (spM K 3 .F (f_unraised))) {fwanted_ahead:Addr} {fdwanted_ahead:FuncData} (Dwanted_ahead:Def K mg "wanted_ahead" swanted_ahead ["moor", "row", "times", "wanted"] fwanted_ahead fdwanted_ahead) (Gwanted_ahead:FnOk P w K mg base CX0 3 fwanted_ahead fdwanted_ahead ["moor", "row", "times", "wanted"] (spM K 4 .F (f_wanted_ahead))) {flifts_of:Addr} {fdlifts_of:FuncData} (Dlifts_of:Def K mg "lifts_of" slifts_of ["moor", "tree", "number"] flifts_of fdlifts_of) (Glifts_of:FnOk P w K mg base CX0 5 flifts_of fdlifts_of ["moor", "tree", "number"] (spM K 3 .F (f_lifts_of))) {frow_between:Addr} {fdrow_between:FuncData} (Drow_between:Def K mg "row_between" srow_between ["tree", "elder", "number"] frow_between fdrow_between) (Grow_between:FnOk P w K mg base CX0 3 frow_between fdrow_between ["tree", "elder", "number"] (spM K 3 .F (f_row_between))) {ftimes_for:Addr} {fdtimes_for:FuncData} (Dtimes_for:Def K mg "times_for" stimes_for ["cap", "step", "places", "wanted"] ftimes_for fdtimes_for) (Gtimes_for:FnOk P w K mg base CX0 1 ftimes_for fdtimes_for ["cap", "step", "places", "wanted"] (spM K 4 .F (f_times_for))) {fsum_of:Addr} {fdsum_of:FuncData} (Dsum_of:Def K mg "sum_of" ssum_of ["moor", "row"] fsum_of fdsum_of) (Gsum_of:FnOk P w K mg base CX0 2 fsum_of fdsum_of ["moor", "row"] (spM K 2 .F (f_sum_of))):FnOk P w K mg base CX0 6 f fd ["moor", "tree", "number", "height"] (spM K 4 .F (f_climb)):=by
 refine D.F.ok scclimb (fun vs H Q E h=>h.1) (fun cdv A outer s H vs Q E hr h=>?_)
 exact ⟨tSt K (fun _ _=>False) .F m_climb,(q_cons (@q_setF _ _ _ _ _ _ _ 4 _ _ scclimb.nd rfl (by trivial) (@q_ct _ _ _ _ _ _ _ _ _ _ _ _ _ _ K_tup (b_tup (c:=true)) (by rfl) B.tuple_ bt_tuple (q_acons (q_FC (@q_comp _ _ _ _ _ _ _ _ _ _ _ _ _ _ _ _ (show CompScope (defScope sclimb) _ ["moor", "tree", "number", "height", "wanted", "blocks", "at", "cap", "elder", "places", "row", "times"] ["moor", "tree", "number", "height", "wanted", "blocks", "at", "cap", "elder", "places", "row", "times", "bound"] from ⟨rfl,by decide +kernel,by decide +kernel,by decide +kernel,by decide +kernel,by decide,by decide +kernel,by decide +kernel⟩) rfl (@q_iSqB _ _ _ _ _ _ (q_UB (q_ixU (q_UB (q_ixU (qv .B 1) (qv .B 2))) q_int)) (by rfl)) (fun _ _ _ _=>(@pg_name _ _ 12 _ (by decide +kernel:(["moor", "tree", "number", "height", "wanted", "blocks", "at", "cap", "elder", "places", "row", "times", "bound"]:List Str).Nodup) rfl (Or.inl rfl) (.inr rfl))) gt_U (gk_name (show 12≤12 by decide)) (fun _ _ _ _=>q_pifN) (fun _ _ _ _=>(q_if (@q_tcmp _ _ _ _ _ _ _ _ _ _ _ _ op_isN o2_isN (qv .B 12) q_non (by first | exact nomark _ | rfl)) (qv .V 3) (qv .V 12))) (by intro _; rfl))) q_anil) (by decide) (by decide) (by rfl) (by rfl)) (by rfl) (by trivial)) (q_cons (@q_setF _ _ _ _ _ _ _ 5 _ _ scclimb.nd rfl (by trivial) (q_lst q_anil) (by rfl) (by trivial)) (q_cons (@q_for _ _ _ _ _ _ _ _ _ _ _ _ _ PassesOwn.never rfl (@q_iSqU _ _ _ _ _ _ (q_VU (q_FV (@q_sl _ _ _ _ _ _ true _ _ _ _ _ (q_FC (@q_call _ _ _ _ _ _ _ _ _ _ _ _ _ _ _ _ Gway_back (.inl rfl) (by exact hr.mono (by decide)) (by rfl) Dway_back.m Dway_back.F.kp Dway_back.b (q_acons (qv .B 1) (q_acons (qv .B 2) q_anil)) (by decide) (by rfl) (by rfl))) q_pN (q_pS (q_un un_neg (o1_U (g:=gNeg) (fun _=>rfl) (fun _ _=>.int)) q_int)) (by rfl)))) (by rfl)) (@pg_name _ _ 6 _ scclimb.nd rfl (by trivial) (by trivial)) gt_U (q_cons (@q_setF _ _ _ _ _ _ _ 7 _ _ scclimb.nd rfl (by trivial) (@q_call _ _ _ _ _ _ _ _ _ _ _ _ _ _ _ _ Gunraised (.inl rfl) (by exact hr.mono (by decide)) (by rfl) Dunraised.m Dunraised.F.kp Dunraised.b (q_acons (qv .B 0) (q_acons (qv .B 1) (q_acons (qv .B 6) q_anil))) (by decide) (by rfl) (by rfl)) (by rfl) (by trivial)) (q_cons (@q_for _ _ _ _ _ _ _ _ _ _ _ _ _ PassesOwn.never rfl (@q_rvU _ _ _ _ _ _ _ _ (by rfl) B.reversed_ (q_acons (q_VU (q_FV (@q_call _ _ _ _ _ _ _ _ _ _ _ _ _ _ _ _ Glifts_of (.inl rfl) (by exact hr.mono (by decide)) (by rfl) Dlifts_of.m Dlifts_of.F.kp Dlifts_of.b (q_acons (qv .B 0) (q_acons (qv .B 1) (q_acons (qv .B 6) q_anil))) (by decide) (by rfl) (by rfl)))) q_anil) (by rfl) (by rfl)) (@pg_tupK _ K _ _ _ _ 2 rfl (@pgs_cons _ _ _ _ _ (@pg_name _ _ 8 _ scclimb.nd rfl (by trivial) (by trivial)) (@pgs_cons _ _ _ _ _ (@pg_name _ _ 9 _ scclimb.nd rfl (by trivial) (by trivial)) pgs_nil (by rfl)) (by rfl)) (by rfl) (by rfl) (by rfl)) (gt_tup (.inr rfl) (gts_cons (.inr rfl) gt_U (gts_cons (.inr rfl) gt_U gts_nil))) (q_cons (@q_setF _ _ _ _ _ _ _ 10 _ _ scclimb.nd rfl (by trivial) (@q_call _ _ _ _ _ _ _ _ _ _ _ _ _ _ _ _ Grow_between (.inl rfl) (by exact hr.mono (by decide)) (by rfl) Drow_between.m Drow_between.F.kp Drow_between.b (q_acons (qv .B 1) (q_acons (qv .B 8) (q_acons (qv .B 6) q_anil))) (by decide) (by rfl) (by rfl)) (by rfl) (by trivial)) (q_cons (@q_setF _ _ _ _ _ _ _ 11 _ _ scclimb.nd rfl (by trivial) (@q_call _ _ _ _ _ _ _ _ _ _ _ _ _ _ _ _ Gtimes_for (.inl rfl) (by exact hr.mono (by decide)) (by rfl) Dtimes_for.m Dtimes_for.F.kp Dtimes_for.b (q_acons (qv .B 7) (q_acons (q_CB (q_FC (@q_call _ _ _ _ _ _ _ _ _ _ _ _ _ _ _ _ Gsum_of (.inl rfl) (by exact hr.mono (by decide)) (by rfl) Dsum_of.m Dsum_of.F.kp Dsum_of.b (q_acons (qv .B 0) (q_acons (qv .B 10) q_anil)) (by decide) (by rfl) (by rfl)))) (q_acons (qv .B 9) (q_acons (qv .B 4) q_anil)))) (by decide) (by rfl) (by rfl)) (by rfl) (by trivial)) (q_last (q_if_ (@q_tcmp _ _ _ _ _ _ _ _ _ _ _ _ op_gt (o2_I0 (g:=gGt) (fun _ _=>rfl) (fun _ _ _=>.bl)) (qv .B 11) q_int (by first | exact nomark _ | rfl)) (q_cons (q_frz (q_frz (@q_app _ _ _ _ _ _ _ 5 _ _ _ _ rfl (by trivial) (q_FV (q_tup (q_acons (qv .V 10) (q_acons (qv .V 11) q_anil)))) (by decide) (by decide) (by rfl) (by rfl) (by rfl) (by rfl) (by rfl)))) (q_last (@q_setF _ _ _ _ _ _ _ 4 _ _ scclimb.nd rfl (by trivial) (@q_call _ _ _ _ _ _ _ _ _ _ _ _ _ _ _ _ Gwanted_ahead (.inl rfl) (by exact hr.mono (by decide)) (by rfl) Dwanted_ahead.m Dwanted_ahead.F.kp Dwanted_ahead.b (q_acons (qv .B 0) (q_acons (qv .B 10) (q_acons (qv .B 11) (q_acons (qv .B 4) q_anil)))) (by decide) (by rfl) (by rfl)) (by rfl) (by trivial)))) q_nil)))) (by intro _; rfl)) (q_cons (@q_app _ _ _ _ _ _ _ 5 _ _ _ _ rfl (by trivial) (q_FV (q_tup (q_acons (q_FV (q_lst (q_acons (q_chkV (q_ixU (q_UB (q_ixU (qv .B 1) (qv .B 6))) q_int)) q_anil))) (q_acons q_int q_anil)))) (by decide) (by decide) (by rfl) (by rfl) (by rfl) (by rfl) (by rfl)) (q_last (@q_setF _ _ _ _ _ _ _ 4 _ _ scclimb.nd rfl (by trivial) (@q_call _ _ _ _ _ _ _ _ _ _ _ _ _ _ _ _ Gwanted_ahead (.inl rfl) (by exact hr.mono (by decide)) (by rfl) Dwanted_ahead.m Dwanted_ahead.F.kp Dwanted_ahead.b (q_acons (qv .B 0) (q_acons (q_CB (q_FC (q_lst (q_acons (q_chkV (q_ixU (q_UB (q_ixU (qv .B 1) (qv .B 6))) q_int)) q_anil)))) (q_acons q_int (q_acons (qv .B 4) q_anil)))) (by decide) (by rfl) (by rfl)) (by rfl) (by trivial)))))) (by intro _; rfl)) (q_cons (@q_rev _ _ _ _ _ 5 _ _ _ _ rfl (by trivial) (by rfl) (by decide) (by decide) (by rfl) (by rfl) (by rfl)) (q_last (@q_retv _ _ _ _ _ 5 _ _ (.inl rfl) (by rfl) (by trivial) (by decide) (by decide))))))),
  c_body (n:=4) (Nl:=["moor", "tree", "number", "height", "wanted", "blocks", "at", "cap", "elder", "places", "row", "times"]) (.inl rfl) h⟩
theorem ok_law_cell_at {f:Addr} {fd:FuncData} (D:Def K mg "_law_cell_at" s_law_cell_at ["_law_script", "_law_k"] f fd) (B:Blt mg):FnOk P w K mg base CX0 1 f fd ["_law_script", "_law_k"] (spM K 2 .F (f__law_cell_at)):=by
 refine D.F.ok sc_law_cell_at (fun vs H Q E h=>h.1) (fun cdv A outer s H vs Q E hr h=>?_)
 exact ⟨tSt K (fun _ _=>False) .F m__law_cell_at,(q_cons (q_if_ (@q_tcmp _ _ _ _ _ _ _ _ _ _ _ _ op_gt (o2_I0 (g:=gGt) (fun _ _=>rfl) (fun _ _ _=>.bl)) (@q_cb _ _ _ _ _ _ _ _ _ _ _ _ _ _ K_len b_len (by rfl) B.len_ PySem.boot_len (q_acons (qv .B 0) q_anil) (by decide) (by decide) (by rfl) (by rfl)) q_int (by first | exact nomark _ | rfl)) (q_last (q_ret (q_chkF (q_ixU (qv .B 0) (q_op op_mod (o2_I (C:=cMod) (g:=gMod) (fun _ _=>rfl) (fun _ _ _=>.int)) (qv .B 1) (@q_cb _ _ _ _ _ _ _ _ _ _ _ _ _ _ K_len b_len (by rfl) B.len_ PySem.boot_len (q_acons (qv .B 0) q_anil) (by decide) (by decide) (by rfl) (by rfl))))))) q_nil) (q_last (q_ret q_int))),
  c_body (n:=2) (Nl:=["_law_script", "_law_k"]) (.inl rfl) h⟩
theorem ok_law_draw {f:Addr} {fd:FuncData} (D:Def K mg "_law_draw" s_law_draw ["_law_script", "_law_k", "_law_many"] f fd) (B:Blt mg) {f_law_cell_at:Addr} {fd_law_cell_at:FuncData} (D_law_cell_at:Def K mg "_law_cell_at" s_law_cell_at ["_law_script", "_law_k"] f_law_cell_at fd_law_cell_at) (G_law_cell_at:FnOk P w K mg base CX0 1 f_law_cell_at fd_law_cell_at ["_law_script", "_law_k"] (spM K 2 .F (f__law_cell_at))):FnOk P w K mg base CX0 2 f fd ["_law_script", "_law_k", "_law_many"] (spM K 3 .F (f__law_draw)):=by
 refine D.F.ok sc_law_draw (fun vs H Q E h=>h.1) (fun cdv A outer s H vs Q E hr h=>?_)
 exact ⟨tSt K (fun _ _=>False) .F m__law_draw,(q_last (q_ret (q_op op_mod (o2_I (C:=cMod) (g:=gMod) (fun _ _=>rfl) (fun _ _ _=>.int)) (q_op op_fdiv (o2_I (C:=CDiv) (g:=gDiv) (fun _ _=>rfl) (fun _ _ _=>.int)) (q_op op_mod (o2_I (C:=cMod) (g:=gMod) (fun _ _=>rfl) (fun _ _ _=>.int)) (q_op op_mul (o2_I (C:=CMul) (g:=gMul) (fun _ _=>rfl) (fun _ _ _=>.int)) (q_op op_add (o2_I0 (g:=gAdd) (fun _ _=>rfl) (fun _ _ _=>.int)) (q_CB (q_FC (@q_call _ _ _ _ _ _ _ _ _ _ _ _ _ _ _ _ G_law_cell_at (.inl rfl) (by exact hr.mono (by decide)) (by rfl) D_law_cell_at.m D_law_cell_at.F.kp D_law_cell_at.b (q_acons (qv .B 0) (q_acons (qv .B 1) q_anil)) (by decide) (by rfl) (by rfl)))) q_int) (q_op op_add (o2_I0 (g:=gAdd) (fun _ _=>rfl) (fun _ _ _=>.int)) (q_op op_add (o2_I0 (g:=gAdd) (fun _ _=>rfl) (fun _ _ _=>.int)) (q_op op_mul (o2_I (C:=CMul) (g:=gMul) (fun _ _=>rfl) (fun _ _ _=>.int)) (qv .B 1) (qv .B 1)) (q_op op_mul (o2_I (C:=CMul) (g:=gMul) (fun _ _=>rfl) (fun _ _ _=>.int)) q_int (qv .B 1))) q_int)) q_int) q_int) (qv .B 2)))),
  c_body (n:=3) (Nl:=["_law_script", "_law_k", "_law_many"]) (.inl rfl) h⟩
theorem ok_law_numbers {f:Addr} {fd:FuncData} (D:Def K mg "_law_numbers" s_law_numbers ["_law_script", "_law_at", "_law_places", "_law_menu", "_law_scale_here"] f fd) (B:Blt mg) {f_law_draw:Addr} {fd_law_draw:FuncData} (D_law_draw:Def K mg "_law_draw" s_law_draw ["_law_script", "_law_k", "_law_many"] f_law_draw fd_law_draw) (G_law_draw:FnOk P w K mg base CX0 2 f_law_draw fd_law_draw ["_law_script", "_law_k", "_law_many"] (spM K 3 .F (f__law_draw))) {f_law_cell_at:Addr} {fd_law_cell_at:FuncData} (D_law_cell_at:Def K mg "_law_cell_at" s_law_cell_at ["_law_script", "_law_k"] f_law_cell_at fd_law_cell_at) (G_law_cell_at:FnOk P w K mg base CX0 1 f_law_cell_at fd_law_cell_at ["_law_script", "_law_k"] (spM K 2 .F (f__law_cell_at))):FnOk P w K mg base CX0 3 f fd ["_law_script", "_law_at", "_law_places", "_law_menu", "_law_scale_here"] (spM K 5 .F (f__law_numbers)):=by
 refine D.F.ok sc_law_numbers (fun vs H Q E h=>h.1) (fun cdv A outer s H vs Q E hr h=>?_)
 exact ⟨tSt K (fun _ _=>False) .F m__law_numbers,(q_cons (@q_setF _ _ _ _ _ _ _ 5 _ _ sc_law_numbers.nd rfl (by trivial) (q_lst q_anil) (by rfl) (by trivial)) (q_cons (@q_for _ _ _ _ _ _ _ _ _ _ _ _ _ PassesOwn.never rfl (@q_rng1 _ _ _ _ _ _ _ _ _ (by rfl) B.range_ (q_acons (qv .B 2) q_anil) (by rfl)) (@pg_name _ _ 6 _ sc_law_numbers.nd rfl (by trivial) (by trivial)) gt_U (q_cons (@q_setU _ _ _ _ _ _ _ 7 _ _ sc_law_numbers.nd rfl (by trivial) (q_ixU (qv .B 3) (q_CB (q_FC (@q_call _ _ _ _ _ _ _ _ _ _ _ _ _ _ _ _ G_law_draw (.inl rfl) (by exact hr.mono (by decide)) (by rfl) D_law_draw.m D_law_draw.F.kp D_law_draw.b (q_acons (qv .B 0) (q_acons (q_op op_add (o2_I0 (g:=gAdd) (fun _ _=>rfl) (fun _ _ _=>.int)) (qv .B 1) (qv .B 6)) (q_acons (@q_cb _ _ _ _ _ _ _ _ _ _ _ _ _ _ K_len b_len (by rfl) B.len_ PySem.boot_len (q_acons (qv .B 3) q_anil) (by decide) (by decide) (by rfl) (by rfl)) q_anil))) (by decide) (by rfl) (by rfl))))) (by rfl) (by trivial)) (q_cons (q_if_ (PW.pt (q_tand (@q_tcmp _ _ _ _ _ _ _ _ _ _ _ _ op_eq o2_eqS (qv .B 4) q_int (by first | exact nomark _ | rfl)) (q_tand1 (@q_tcmp _ _ _ _ _ _ _ _ _ _ _ _ op_gt (o2_I0 (g:=gGt) (fun _ _=>rfl) (fun _ _ _=>.bl)) (qv .B 7) q_int (by first | exact nomark _ | rfl))))) (q_last (@q_setV _ _ _ _ _ _ _ 7 _ _ sc_law_numbers.nd rfl (by trivial) (q_op op_mod (o2_I (C:=cMod) (g:=gMod) (fun _ _=>rfl) (fun _ _ _=>.int)) (q_op op_mul (o2_I (C:=CMul) (g:=gMul) (fun _ _=>rfl) (fun _ _ _=>.int)) (q_op op_add (o2_I0 (g:=gAdd) (fun _ _=>rfl) (fun _ _ _=>.int)) (q_CB (q_FC (@q_call _ _ _ _ _ _ _ _ _ _ _ _ _ _ _ _ G_law_cell_at (.inl rfl) (by exact hr.mono (by decide)) (by rfl) D_law_cell_at.m D_law_cell_at.F.kp D_law_cell_at.b (q_acons (qv .B 0) (q_acons (q_op op_add (o2_I0 (g:=gAdd) (fun _ _=>rfl) (fun _ _ _=>.int)) (qv .B 1) (qv .B 6)) q_anil)) (by decide) (by rfl) (by rfl)))) (qv .B 6)) q_int) (q_op op_add (o2_I0 (g:=gAdd) (fun _ _=>rfl) (fun _ _ _=>.int)) (q_op op_pow (o2_I (C:=CPow) (g:=gPow) (fun _ _=>rfl) (fun _ _ _=>.int)) q_int q_int) q_int)) (by rfl) (by trivial))) (q_last (@q_setV _ _ _ _ _ _ _ 7 _ _ sc_law_numbers.nd rfl (by trivial) (q_op op_mul (o2_I (C:=CMul) (g:=gMul) (fun _ _=>rfl) (fun _ _ _=>.int)) (qv .B 7) (qv .B 4)) (by rfl) (by trivial)))) (q_last (@q_app _ _ _ _ _ _ _ 5 _ _ _ _ rfl (by trivial) (qv .V 7) (by decide) (by decide) (by rfl) (by rfl) (by rfl) (by rfl) (by rfl))))) (by intro _; rfl)) (q_last (q_ret (@q_ct _ _ _ _ _ _ _ _ _ _ _ _ _ _ K_tup (b_tup (c:=true)) (by rfl) B.tuple_ bt_tuple (q_acons (qv .C 5) q_anil) (by decide) (by decide) (by rfl) (by rfl)))))),
  c_body (n:=5) (Nl:=["_law_script", "_law_at", "_law_places", "_law_menu", "_law_scale_here", "_law_found", "_law_k", "_law_held"]) (.inl rfl) h⟩
theorem ok_law_scale {f:Addr} {fd:FuncData} (D:Def K mg "_law_scale" s_law_scale ["_law_script"] f fd) (B:Blt mg) {f_law_draw:Addr} {fd_law_draw:FuncData} (D_law_draw:Def K mg "_law_draw" s_law_draw ["_law_script", "_law_k", "_law_many"] f_law_draw fd_law_draw) (G_law_draw:FnOk P w K mg base CX0 2 f_law_draw fd_law_draw ["_law_script", "_law_k", "_law_many"] (spM K 3 .F (f__law_draw))) {f_law_cell_at:Addr} {fd_law_cell_at:FuncData} (D_law_cell_at:Def K mg "_law_cell_at" s_law_cell_at ["_law_script", "_law_k"] f_law_cell_at fd_law_cell_at) (G_law_cell_at:FnOk P w K mg base CX0 1 f_law_cell_at fd_law_cell_at ["_law_script", "_law_k"] (spM K 2 .F (f__law_cell_at))):FnOk P w K mg base CX0 3 f fd ["_law_script"] (spM K 1 .F (f__law_scale)):=by
 refine D.F.ok sc_law_scale (fun vs H Q E h=>h.1) (fun cdv A outer s H vs Q E hr h=>?_)
 exact ⟨tSt K (fun _ _=>False) .F m__law_scale,(q_cons (@q_setF _ _ _ _ _ _ _ 1 _ _ sc_law_scale.nd rfl (by trivial) (@q_call _ _ _ _ _ _ _ _ _ _ _ _ _ _ _ _ G_law_draw (.inl rfl) (by exact hr.mono (by decide)) (by rfl) D_law_draw.m D_law_draw.F.kp D_law_draw.b (q_acons (qv .B 0) (q_acons q_int (q_acons q_int q_anil))) (by decide) (by rfl) (by rfl)) (by rfl) (by trivial)) (q_cons (q_if_ (@q_tcmp _ _ _ _ _ _ _ _ _ _ _ _ op_eq o2_eqS (qv .B 1) q_int (by first | exact nomark _ | rfl)) (q_last (q_ret q_int)) q_nil) (q_cons (q_if_ (@q_tcmp _ _ _ _ _ _ _ _ _ _ _ _ op_gt (o2_I0 (g:=gGt) (fun _ _=>rfl) (fun _ _ _=>.bl)) (qv .B 1) q_int (by first | exact nomark _ | rfl)) (q_last (q_ret (q_op op_add (o2_I0 (g:=gAdd) (fun _ _=>rfl) (fun _ _ _=>.int)) q_int (q_op op_mod (o2_I (C:=cMod) (g:=gMod) (fun _ _=>rfl) (fun _ _ _=>.int)) (q_op op_mul (o2_I (C:=CMul) (g:=gMul) (fun _ _=>rfl) (fun _ _ _=>.int)) (q_CB (q_FC (@q_call _ _ _ _ _ _ _ _ _ _ _ _ _ _ _ _ G_law_cell_at (.inl rfl) (by exact hr.mono (by decide)) (by rfl) D_law_cell_at.m D_law_cell_at.F.kp D_law_cell_at.b (q_acons (qv .B 0) (q_acons q_int q_anil)) (by decide) (by rfl) (by rfl)))) q_int) (q_op op_pow (o2_I (C:=CPow) (g:=gPow) (fun _ _=>rfl) (fun _ _ _=>.int)) q_int q_int))))) q_nil) (q_last (q_ret q_int))))),
  c_body (n:=1) (Nl:=["_law_script", "_law_kind"]) (.inl rfl) h⟩
theorem ok_law_moor {f:Addr} {fd:FuncData} (D:Def K mg "_law_moor" s_law_moor ["_law_script"] f fd) (B:Blt mg) {f_law_scale:Addr} {fd_law_scale:FuncData} (D_law_scale:Def K mg "_law_scale" s_law_scale ["_law_script"] f_law_scale fd_law_scale) (G_law_scale:FnOk P w K mg base CX0 3 f_law_scale fd_law_scale ["_law_script"] (spM K 1 .F (f__law_scale))) {f_law_draw:Addr} {fd_law_draw:FuncData} (D_law_draw:Def K mg "_law_draw" s_law_draw ["_law_script", "_law_k", "_law_many"] f_law_draw fd_law_draw) (G_law_draw:FnOk P w K mg base CX0 2 f_law_draw fd_law_draw ["_law_script", "_law_k", "_law_many"] (spM K 3 .F (f__law_draw))) {f_law_numbers:Addr} {fd_law_numbers:FuncData} (D_law_numbers:Def K mg "_law_numbers" s_law_numbers ["_law_script", "_law_at", "_law_places", "_law_menu", "_law_scale_here"] f_law_numbers fd_law_numbers) (G_law_numbers:FnOk P w K mg base CX0 3 f_law_numbers fd_law_numbers ["_law_script", "_law_at", "_law_places", "_law_menu", "_law_scale_here"] (spM K 5 .F (f__law_numbers))) {f_law_cell_at:Addr} {fd_law_cell_at:FuncData} (D_law_cell_at:Def K mg "_law_cell_at" s_law_cell_at ["_law_script", "_law_k"] f_law_cell_at fd_law_cell_at) (G_law_cell_at:FnOk P w K mg base CX0 1 f_law_cell_at fd_law_cell_at ["_law_script", "_law_k"] (spM K 2 .F (f__law_cell_at))):FnOk P w K mg base CX0 4 f fd ["_law_script"] (spM K 1 .F (f__law_moor)):=by
 refine D.F.ok sc_law_moor (fun vs H Q E h=>h.1) (fun cdv A outer s H vs Q E hr h=>?_)
 exact ⟨tSt K (fun _ _=>False) .F m__law_moor,(@q_cons _ _ _ _ _ _ _ _ (@q_setV _ _ _ _ _ _ _ 1 _ _ sc_law_moor.nd rfl (by trivial) (@q_ixV _ _ _ _ _ _ _ _ (@q_FC _ _ _ _ _ (@q_lst _ _ _ _ _ _ (@q_acons _ _ _ _ _ _ _ _ (@q_int _ _ _ _ _ _ _) (@q_acons _ _ _ _ _ _ _ _ (@q_int _ _ _ _ _ _ _) (@q_acons _ _ _ _ _ _ _ _ (@q_int _ _ _ _ _ _ _) (@q_acons _ _ _ _ _ _ _ _ (@q_int _ _ _ _ _ _ _) (@q_acons _ _ _ _ _ _ _ _ (@q_int _ _ _ _ _ _ _) (@q_acons _ _ _ _ _ _ _ _ (@q_int _ _ _ _ _ _ _) (@q_acons _ _ _ _ _ _ _ _ (@q_int _ _ _ _ _ _ _) (@q_acons _ _ _ _ _ _ _ _ (@q_int _ _ _ _ _ _ _) (@q_anil _ _ _ _) (by rfl)) (by rfl)) (by rfl)) (by rfl)) (by rfl)) (by rfl)) (by rfl)) (by rfl)))) (@q_FC _ _ _ _ _ (@q_call _ _ _ _ _ _ _ _ _ _ _ _ _ _ _ _ G_law_draw (.inl rfl) (by exact hr.mono (by decide)) (by rfl) D_law_draw.m D_law_draw.F.kp D_law_draw.b (@q_acons _ _ _ _ _ _ _ _ (@qv _ _ _ _ .B 0 _ (by rfl) (by trivial) (by decide) (by decide)) (@q_acons _ _ _ _ _ _ _ _ (@q_int _ _ _ _ _ _ _) (@q_acons _ _ _ _ _ _ _ _ (@q_int _ _ _ _ _ _ _) (@q_anil _ _ _ _) (by rfl)) (by rfl)) (by rfl)) (by decide) (by rfl) (by rfl))) (by exact fun _ _=>rfl) (by rfl)) (by rfl) (by trivial)) (@q_cons _ _ _ _ _ _ _ _ (@q_setF _ _ _ _ _ _ _ 2 _ _ sc_law_moor.nd rfl (by trivial) (@q_call _ _ _ _ _ _ _ _ _ _ _ _ _ _ _ _ G_law_scale (.inl rfl) (by exact hr.mono (by decide)) (by rfl) D_law_scale.m D_law_scale.F.kp D_law_scale.b (@q_acons _ _ _ _ _ _ _ _ (@qv _ _ _ _ .B 0 _ (by rfl) (by trivial) (by decide) (by decide)) (@q_anil _ _ _ _) (by rfl)) (by decide) (by rfl) (by rfl)) (by rfl) (by trivial)) (@q_cons _ _ _ _ _ _ _ _ (@q_setF _ _ _ _ _ _ _ 3 _ _ sc_law_moor.nd rfl (by trivial) (@q_lst _ _ _ _ _ _ (@q_anil _ _ _ _)) (by rfl) (by trivial)) (@q_cons _ _ _ _ _ _ _ _ (@q_for _ _ _ _ _ _ _ _ _ _ _ _ _ PassesOwn.never rfl (@q_rng1 _ _ _ _ _ _ _ _ _ (by rfl) B.range_ (@q_acons _ _ _ _ _ _ _ _ (@q_UB _ _ _ _ _ (@q_ixU _ _ _ _ _ _ _ _ (@q_CB _ _ _ _ _ (@q_FC _ _ _ _ _ (@q_lst _ _ _ _ _ _ (@q_acons _ _ _ _ _ _ _ _ (@q_int _ _ _ _ _ _ _) (@q_acons _ _ _ _ _ _ _ _ (@q_int _ _ _ _ _ _ _) (@q_acons _ _ _ _ _ _ _ _ (@q_int _ _ _ _ _ _ _) (@q_acons _ _ _ _ _ _ _ _ (@q_int _ _ _ _ _ _ _) (@q_acons _ _ _ _ _ _ _ _ (@q_int _ _ _ _ _ _ _) (@q_acons _ _ _ _ _ _ _ _ (@q_int _ _ _ _ _ _ _) (@q_acons _ _ _ _ _ _ _ _ (@q_int _ _ _ _ _ _ _) (@q_acons _ _ _ _ _ _ _ _ (@q_int _ _ _ _ _ _ _) (@q_acons _ _ _ _ _ _ _ _ (@q_int _ _ _ _ _ _ _) (@q_acons _ _ _ _ _ _ _ _ (@q_int _ _ _ _ _ _ _) (@q_acons _ _ _ _ _ _ _ _ (@q_int _ _ _ _ _ _ _) (@q_anil _ _ _ _) (by rfl)) (by rfl)) (by rfl)) (by rfl)) (by rfl)) (by rfl)) (by rfl)) (by rfl)) (by rfl)) (by rfl)) (by rfl))))) (@q_CB _ _ _ _ _ (@q_FC _ _ _ _ _ (@q_call _ _ _ _ _ _ _ _ _ _ _ _ _ _ _ _ G_law_draw (.inl rfl) (by exact hr.mono (by decide)) (by rfl) D_law_draw.m D_law_draw.F.kp D_law_draw.b (@q_acons _ _ _ _ _ _ _ _ (@qv _ _ _ _ .B 0 _ (by rfl) (by trivial) (by decide) (by decide)) (@q_acons _ _ _ _ _ _ _ _ (@q_int _ _ _ _ _ _ _) (@q_acons _ _ _ _ _ _ _ _ (@q_int _ _ _ _ _ _ _) (@q_anil _ _ _ _) (by rfl)) (by rfl)) (by rfl)) (by decide) (by rfl) (by rfl)))) (by exact fun _ _=>rfl) (by rfl))) (@q_anil _ _ _ _) (by rfl)) (by rfl)) (@pg_name _ _ 4 _ sc_law_moor.nd rfl (by trivial) (by trivial)) (@gt_U _ _) (@q_cons _ _ _ _ _ _ _ _ (@q_setV _ _ _ _ _ _ _ 5 _ _ sc_law_moor.nd rfl (by trivial) (@q_op _ _ _ _ _ _ _ _ _ _ _ _ _ op_add (o2_I0 (g:=gAdd) (fun _ _=>rfl) (fun _ _ _=>.int)) (@q_int _ _ _ _ _ _ _) (@q_op _ _ _ _ _ _ _ _ _ _ _ _ _ op_mul (o2_I (C:=CMul) (g:=gMul) (fun _ _=>rfl) (fun _ _ _=>.int)) (@qv _ _ _ _ .B 1 _ (by rfl) (by trivial) (by decide) (by decide)) (@q_op _ _ _ _ _ _ _ _ _ _ _ _ _ op_add (o2_I0 (g:=gAdd) (fun _ _=>rfl) (fun _ _ _=>.int)) (@q_op _ _ _ _ _ _ _ _ _ _ _ _ _ op_mul (o2_I (C:=CMul) (g:=gMul) (fun _ _=>rfl) (fun _ _ _=>.int)) (@q_int _ _ _ _ _ _ _) (@qv _ _ _ _ .B 4 _ (by rfl) (by trivial) (by decide) (by decide))) (@q_int _ _ _ _ _ _ _)))) (by rfl) (by trivial)) (@q_cons _ _ _ _ _ _ _ _ (@q_setF _ _ _ _ _ _ _ 6 _ _ sc_law_moor.nd rfl (by trivial) (@q_call _ _ _ _ _ _ _ _ _ _ _ _ _ _ _ _ G_law_numbers (.inl rfl) (by exact hr.mono (by decide)) (by rfl) D_law_numbers.m D_law_numbers.F.kp D_law_numbers.b (@q_acons _ _ _ _ _ _ _ _ (@qv _ _ _ _ .B 0 _ (by rfl) (by trivial) (by decide) (by decide)) (@q_acons _ _ _ _ _ _ _ _ (@qv _ _ _ _ .B 5 _ (by rfl) (by trivial) (by decide) (by decide)) (@q_acons _ _ _ _ _ _ _ _ (@qv _ _ _ _ .B 1 _ (by rfl) (by trivial) (by decide) (by decide)) (@q_acons _ _ _ _ _ _ _ _ (@q_CB _ _ _ _ _ (@q_FC _ _ _ _ _ (@q_lst _ _ _ _ _ _ (@q_acons _ _ _ _ _ _ _ _ (@q_int _ _ _ _ _ _ _) (@q_acons _ _ _ _ _ _ _ _ (@q_int _ _ _ _ _ _ _) (@q_acons _ _ _ _ _ _ _ _ (@q_int _ _ _ _ _ _ _) (@q_acons _ _ _ _ _ _ _ _ (@q_int _ _ _ _ _ _ _) (@q_acons _ _ _ _ _ _ _ _ (@q_int _ _ _ _ _ _ _) (@q_acons _ _ _ _ _ _ _ _ (@q_int _ _ _ _ _ _ _) (@q_anil _ _ _ _) (by rfl)) (by rfl)) (by rfl)) (by rfl)) (by rfl)) (by rfl))))) (@q_acons _ _ _ _ _ _ _ _ (@qv _ _ _ _ .B 2 _ (by rfl) (by trivial) (by decide) (by decide)) (@q_anil _ _ _ _) (by rfl)) (by rfl)) (by rfl)) (by rfl)) (by rfl)) (by decide) (by rfl) (by rfl)) (by rfl) (by trivial)) (@q_cons _ _ _ _ _ _ _ _ (@q_setF _ _ _ _ _ _ _ 7 _ _ sc_law_moor.nd rfl (by trivial) (@q_call _ _ _ _ _ _ _ _ _ _ _ _ _ _ _ _ G_law_numbers (.inl rfl) (by exact hr.mono (by decide)) (by rfl) D_law_numbers.m D_law_numbers.F.kp D_law_numbers.b (@q_acons _ _ _ _ _ _ _ _ (@qv _ _ _ _ .B 0 _ (by rfl) (by trivial) (by decide) (by decide)) (@q_acons _ _ _ _ _ _ _ _ (@q_op _ _ _ _ _ _ _ _ _ _ _ _ _ op_add (o2_I0 (g:=gAdd) (fun _ _=>rfl) (fun _ _ _=>.int)) (@qv _ _ _ _ .B 5 _ (by rfl) (by trivial) (by decide) (by decide)) (@qv _ _ _ _ .B 1 _ (by rfl) (by trivial) (by decide) (by decide))) (@q_acons _ _ _ _ _ _ _ _ (@qv _ _ _ _ .B 1 _ (by rfl) (by trivial) (by decide) (by decide)) (@q_acons _ _ _ _ _ _ _ _ (@q_CB _ _ _ _ _ (@q_FC _ _ _ _ _ (@q_lst _ _ _ _ _ _ (@q_acons _ _ _ _ _ _ _ _ (@q_int _ _ _ _ _ _ _) (@q_acons _ _ _ _ _ _ _ _ (@q_int _ _ _ _ _ _ _) (@q_acons _ _ _ _ _ _ _ _ (@q_int _ _ _ _ _ _ _) (@q_acons _ _ _ _ _ _ _ _ (@q_int _ _ _ _ _ _ _) (@q_acons _ _ _ _ _ _ _ _ (@q_int _ _ _ _ _ _ _) (@q_acons _ _ _ _ _ _ _ _ (@q_int _ _ _ _ _ _ _) (@q_anil _ _ _ _) (by rfl)) (by rfl)) (by rfl)) (by rfl)) (by rfl)) (by rfl))))) (@q_acons _ _ _ _ _ _ _ _ (@qv _ _ _ _ .B 2 _ (by rfl) (by trivial) (by decide) (by decide)) (@q_anil _ _ _ _) (by rfl)) (by rfl)) (by rfl)) (by rfl)) (by rfl)) (by decide) (by rfl) (by rfl)) (by rfl) (by trivial)) (@q_last _ _ _ _ _ _ (@q_frz _ _ _ _ _ _ _ (@q_frz _ _ _ _ _ _ _ (@q_app _ _ _ _ _ _ _ 3 _ _ _ _ rfl (by trivial) (@q_FV _ _ _ _ _ (@q_tup _ _ _ _ _ _ _ (@q_acons _ _ _ _ _ _ _ _ (@qv _ _ _ _ .V 6 _ (by rfl) (by trivial) (by decide) (by decide)) (@q_acons _ _ _ _ _ _ _ _ (@qv _ _ _ _ .V 7 _ (by rfl) (by trivial) (by decide) (by decide)) (@q_anil _ _ _ _) (by rfl)) (by rfl)))) (by decide) (by decide) (by rfl) (by rfl) (by rfl) (by rfl) (by rfl)))))))) (by intro _; rfl)) (@q_cons _ _ _ _ _ _ _ _ (@q_setF _ _ _ _ _ _ _ 8 _ _ sc_law_moor.nd rfl (by trivial) (@q_ct _ _ _ _ _ _ _ _ _ _ _ _ _ _ K_list (b_list (c:=true)) (by rfl) B.list_ bt_list (@q_acons _ _ _ _ _ _ _ _ (@q_FC _ _ _ _ _ (@q_call _ _ _ _ _ _ _ _ _ _ _ _ _ _ _ _ G_law_numbers (.inl rfl) (by exact hr.mono (by decide)) (by rfl) D_law_numbers.m D_law_numbers.F.kp D_law_numbers.b (@q_acons _ _ _ _ _ _ _ _ (@qv _ _ _ _ .B 0 _ (by rfl) (by trivial) (by decide) (by decide)) (@q_acons _ _ _ _ _ _ _ _ (@q_int _ _ _ _ _ _ _) (@q_acons _ _ _ _ _ _ _ _ (@qv _ _ _ _ .B 1 _ (by rfl) (by trivial) (by decide) (by decide)) (@q_acons _ _ _ _ _ _ _ _ (@q_CB _ _ _ _ _ (@q_FC _ _ _ _ _ (@q_lst _ _ _ _ _ _ (@q_acons _ _ _ _ _ _ _ _ (@q_int _ _ _ _ _ _ _) (@q_acons _ _ _ _ _ _ _ _ (@q_int _ _ _ _ _ _ _) (@q_acons _ _ _ _ _ _ _ _ (@q_int _ _ _ _ _ _ _) (@q_acons _ _ _ _ _ _ _ _ (@q_int _ _ _ _ _ _ _) (@q_acons _ _ _ _ _ _ _ _ (@q_int _ _ _ _ _ _ _) (@q_acons _ _ _ _ _ _ _ _ (@q_int _ _ _ _ _ _ _) (@q_anil _ _ _ _) (by rfl)) (by rfl)) (by rfl)) (by rfl)) (by rfl)) (by rfl))))) (@q_acons _ _ _ _ _ _ _ _ (@qv _ _ _ _ .B 2 _ (by rfl) (by trivial) (by decide) (by decide)) (@q_anil _ _ _ _) (by rfl)) (by rfl)) (by rfl)) (by rfl)) (by rfl)) (by decide) (by rfl) (by rfl))) (@q_anil _ _ _ _) (by rfl)) (by decide) (by decide) (by rfl) (by rfl)) (by rfl) (by trivial)) (@q_cons _ _ _ _ _ _ _ _ (@q_if_ _ _ _ _ _ _ _ _ _ _ _ (@q_tcmp _ _ _ _ _ _ _ _ _ _ _ _ op_eq o2_eqS (@q_CB _ _ _ _ _ (@q_FC _ _ _ _ _ (@q_call _ _ _ _ _ _ _ _ _ _ _ _ _ _ _ _ G_law_draw (.inl rfl) (by exact hr.mono (by decide)) (by rfl) D_law_draw.m D_law_draw.F.kp D_law_draw.b (@q_acons _ _ _ _ _ _ _ _ (@qv _ _ _ _ .B 0 _ (by rfl) (by trivial) (by decide) (by decide)) (@q_acons _ _ _ _ _ _ _ _ (@q_int _ _ _ _ _ _ _) (@q_acons _ _ _ _ _ _ _ _ (@q_int _ _ _ _ _ _ _) (@q_anil _ _ _ _) (by rfl)) (by rfl)) (by rfl)) (by decide) (by rfl) (by rfl)))) (@q_int _ _ _ _ _ _ _) (by first | exact nomark _ | rfl)) (@q_last _ _ _ _ _ _ (@q_set _ _ _ _ _ _ _ _ 8 _ _ _ _ rfl (by trivial) (@q_CB _ _ _ _ _ (@q_FC _ _ _ _ _ (@q_call _ _ _ _ _ _ _ _ _ _ _ _ _ _ _ _ G_law_draw (.inl rfl) (by exact hr.mono (by decide)) (by rfl) D_law_draw.m D_law_draw.F.kp D_law_draw.b (@q_acons _ _ _ _ _ _ _ _ (@qv _ _ _ _ .B 0 _ (by rfl) (by trivial) (by decide) (by decide)) (@q_acons _ _ _ _ _ _ _ _ (@q_int _ _ _ _ _ _ _) (@q_acons _ _ _ _ _ _ _ _ (@qv _ _ _ _ .B 1 _ (by rfl) (by trivial) (by decide) (by decide)) (@q_anil _ _ _ _) (by rfl)) (by rfl)) (by rfl)) (by decide) (by rfl) (by rfl)))) (@q_op _ _ _ _ _ _ _ _ _ _ _ _ _ op_mod (o2_I (C:=cMod) (g:=gMod) (fun _ _=>rfl) (fun _ _ _=>.int)) (@q_op _ _ _ _ _ _ _ _ _ _ _ _ _ op_mul (o2_I (C:=CMul) (g:=gMul) (fun _ _=>rfl) (fun _ _ _=>.int)) (@q_CB _ _ _ _ _ (@q_FC _ _ _ _ _ (@q_call _ _ _ _ _ _ _ _ _ _ _ _ _ _ _ _ G_law_cell_at (.inl rfl) (by exact hr.mono (by decide)) (by rfl) D_law_cell_at.m D_law_cell_at.F.kp D_law_cell_at.b (@q_acons _ _ _ _ _ _ _ _ (@qv _ _ _ _ .B 0 _ (by rfl) (by trivial) (by decide) (by decide)) (@q_acons _ _ _ _ _ _ _ _ (@q_int _ _ _ _ _ _ _) (@q_anil _ _ _ _) (by rfl)) (by rfl)) (by decide) (by rfl) (by rfl)))) (@q_int _ _ _ _ _ _ _)) (@q_op _ _ _ _ _ _ _ _ _ _ _ _ _ op_pow (o2_I (C:=CPow) (g:=gPow) (fun _ _=>rfl) (fun _ _ _=>.int)) (@q_int _ _ _ _ _ _ _) (@q_int _ _ _ _ _ _ _))) (by decide) (by decide) (@pg_sub _ _ _ _ _ _ _ (@pv _ 8 _ _ (by rfl) (by trivial) (by decide) (by decide)) (@q_CB _ _ _ _ _ (@q_FC _ _ _ _ _ (@q_call _ _ _ _ _ _ _ _ _ _ _ _ _ _ _ _ G_law_draw (.inl rfl) (by exact hr.mono (by decide)) (by rfl) D_law_draw.m D_law_draw.F.kp D_law_draw.b (@q_acons _ _ _ _ _ _ _ _ (@qv _ _ _ _ .B 0 _ (by rfl) (by trivial) (by decide) (by decide)) (@q_acons _ _ _ _ _ _ _ _ (@q_int _ _ _ _ _ _ _) (@q_acons _ _ _ _ _ _ _ _ (@qv _ _ _ _ .B 1 _ (by rfl) (by trivial) (by decide) (by decide)) (@q_anil _ _ _ _) (by rfl)) (by rfl)) (by rfl)) (by decide) (by rfl) (by rfl)))) set_list (by intro _; rfl)) (by rfl) (by rfl))) (@q_nil _ _ _ _)) (@q_last _ _ _ _ _ _ (@q_ret _ _ _ _ _ _ _ (@q_tup _ _ _ _ _ _ _ (@q_acons _ _ _ _ _ _ _ _ (@q_FV _ _ _ _ _ (@q_ct _ _ _ _ _ _ _ _ _ _ _ _ _ _ K_tup (b_tup (c:=true)) (by rfl) B.tuple_ bt_tuple (@q_acons _ _ _ _ _ _ _ _ (@qv _ _ _ _ .C 8 _ (by rfl) (by trivial) (by decide) (by decide)) (@q_anil _ _ _ _) (by rfl)) (by decide) (by decide) (by rfl) (by rfl))) (@q_acons _ _ _ _ _ _ _ _ (@q_FV _ _ _ _ _ (@q_ct _ _ _ _ _ _ _ _ _ _ _ _ _ _ K_tup (b_tup (c:=true)) (by rfl) B.tuple_ bt_tuple (@q_acons _ _ _ _ _ _ _ _ (@qv _ _ _ _ .C 3 _ (by rfl) (by trivial) (by decide) (by decide)) (@q_anil _ _ _ _) (by rfl)) (by decide) (by decide) (by rfl) (by rfl))) (@q_anil _ _ _ _) (by rfl)) (by rfl))))))))))),
  c_body (n:=1) (Nl:=["_law_script", "_law_places", "_law_scale_here", "_law_moves", "_law_k", "_law_at", "_law_take", "_law_put", "_law_begin"]) (.inl rfl) h⟩
theorem ok_law_some {f:Addr} {fd:FuncData} (D:Def K mg "_law_some" s_law_some ["_law_script", "_law_k"] f fd) (B:Blt mg) {f_law_draw:Addr} {fd_law_draw:FuncData} (D_law_draw:Def K mg "_law_draw" s_law_draw ["_law_script", "_law_k", "_law_many"] f_law_draw fd_law_draw) (G_law_draw:FnOk P w K mg base CX0 2 f_law_draw fd_law_draw ["_law_script", "_law_k", "_law_many"] (spM K 3 .F (f__law_draw))) {f_law_cell_at:Addr} {fd_law_cell_at:FuncData} (D_law_cell_at:Def K mg "_law_cell_at" s_law_cell_at ["_law_script", "_law_k"] f_law_cell_at fd_law_cell_at) (G_law_cell_at:FnOk P w K mg base CX0 1 f_law_cell_at fd_law_cell_at ["_law_script", "_law_k"] (spM K 2 .F (f__law_cell_at))):FnOk P w K mg base CX0 3 f fd ["_law_script", "_law_k"] (spM K 2 .F (f__law_some)):=by
 refine D.F.ok sc_law_some (fun vs H Q E h=>h.1) (fun cdv A outer s H vs Q E hr h=>?_)
 exact ⟨tSt K (fun _ _=>False) .F m__law_some,(q_cons (q_if_ (@q_tcmp _ _ _ _ _ _ _ _ _ _ _ _ op_eq o2_eqS (q_CB (q_FC (@q_call _ _ _ _ _ _ _ _ _ _ _ _ _ _ _ _ G_law_draw (.inl rfl) (by exact hr.mono (by decide)) (by rfl) D_law_draw.m D_law_draw.F.kp D_law_draw.b (q_acons (qv .B 0) (q_acons q_int (q_acons q_int q_anil))) (by decide) (by rfl) (by rfl)))) q_int (by first | exact nomark _ | rfl)) (q_last (q_ret (q_op op_add (o2_I0 (g:=gAdd) (fun _ _=>rfl) (fun _ _ _=>.int)) q_int (q_op op_mod (o2_I (C:=cMod) (g:=gMod) (fun _ _=>rfl) (fun _ _ _=>.int)) (q_op op_mul (o2_I (C:=CMul) (g:=gMul) (fun _ _=>rfl) (fun _ _ _=>.int)) (q_CB (q_FC (@q_call _ _ _ _ _ _ _ _ _ _ _ _ _ _ _ _ G_law_cell_at (.inl rfl) (by exact hr.mono (by decide)) (by rfl) D_law_cell_at.m D_law_cell_at.F.kp D_law_cell_at.b (q_acons (qv .B 0) (q_acons (qv .B 1) q_anil)) (by decide) (by rfl) (by rfl)))) q_int) (q_op op_pow (o2_I (C:=CPow) (g:=gPow) (fun _ _=>rfl) (fun _ _ _=>.int)) q_int q_int))))) q_nil) (q_last (q_ret (q_op op_add (o2_I0 (g:=gAdd) (fun _ _=>rfl) (fun _ _ _=>.int)) q_int (q_CB (q_FC (@q_call _ _ _ _ _ _ _ _ _ _ _ _ _ _ _ _ G_law_draw (.inl rfl) (by exact hr.mono (by decide)) (by rfl) D_law_draw.m D_law_draw.F.kp D_law_draw.b (q_acons (qv .B 0) (q_acons (qv .B 1) (q_acons q_int q_anil))) (by decide) (by rfl) (by rfl)))))))),
  c_body (n:=2) (Nl:=["_law_script", "_law_k"]) (.inl rfl) h⟩
theorem ok_law_turned {f:Addr} {fd:FuncData} (D:Def K mg "_law_turned" s_law_turned ["_law_stand", "_law_far"] f fd) (B:Blt mg):FnOk P w K mg base CX0 1 f fd ["_law_stand", "_law_far"] (spM K 2 .F (f__law_turned)):=by
 refine D.F.ok sc_law_turned (fun vs H Q E h=>h.1) (fun cdv A outer s H vs Q E hr h=>?_)
 exact ⟨tSt K (fun _ _=>False) .F m__law_turned,(q_last (q_ret (@q_ct _ _ _ _ _ _ _ _ _ _ _ _ _ _ K_tup (b_tup (c:=true)) (by rfl) B.tuple_ bt_tuple (q_acons (q_FC (q_op op_cat (o2_cat (c:=false)) (q_CB (q_FC (@q_sl _ _ _ _ _ _ false _ _ _ _ _ (qv .B 0) (q_pS (qv .B 1)) q_pN (by rfl)))) (q_CB (q_FC (@q_sl _ _ _ _ _ _ false _ _ _ _ _ (qv .B 0) q_pN (q_pS (qv .B 1)) (by rfl)))))) q_anil) (by decide) (by decide) (by rfl) (by rfl)))),
  c_body (n:=2) (Nl:=["_law_stand", "_law_far"]) (.inl rfl) h⟩
theorem ok_law_knot {f:Addr} {fd:FuncData} (D:Def K mg "_law_knot" s_law_knot ["_law_script"] f fd) (B:Blt mg) {f_law_draw:Addr} {fd_law_draw:FuncData} (D_law_draw:Def K mg "_law_draw" s_law_draw ["_law_script", "_law_k", "_law_many"] f_law_draw fd_law_draw) (G_law_draw:FnOk P w K mg base CX0 2 f_law_draw fd_law_draw ["_law_script", "_law_k", "_law_many"] (spM K 3 .F (f__law_draw))) {f_law_some:Addr} {fd_law_some:FuncData} (D_law_some:Def K mg "_law_some" s_law_some ["_law_script", "_law_k"] f_law_some fd_law_some) (G_law_some:FnOk P w K mg base CX0 3 f_law_some fd_law_some ["_law_script", "_law_k"] (spM K 2 .F (f__law_some))) {f_law_turned:Addr} {fd_law_turned:FuncData} (D_law_turned:Def K mg "_law_turned" s_law_turned ["_law_stand", "_law_far"] f_law_turned fd_law_turned) (G_law_turned:FnOk P w K mg base CX0 1 f_law_turned fd_law_turned ["_law_stand", "_law_far"] (spM K 2 .F (f__law_turned))):FnOk P w K mg base CX0 4 f fd ["_law_script"] (spM K 1 .F (f__law_knot)):=by
 refine D.F.ok sc_law_knot (fun vs H Q E h=>h.1) (fun cdv A outer s H vs Q E hr h=>?_)
 exact ⟨tSt K (fun _ _=>False) .F m__law_knot,(q_cons (@q_setF _ _ _ _ _ _ _ 1 _ _ sc_law_knot.nd rfl (by trivial) (@q_call _ _ _ _ _ _ _ _ _ _ _ _ _ _ _ _ G_law_draw (.inl rfl) (by exact hr.mono (by decide)) (by rfl) D_law_draw.m D_law_draw.F.kp D_law_draw.b (q_acons (qv .B 0) (q_acons q_int (q_acons q_int q_anil))) (by decide) (by rfl) (by rfl)) (by rfl) (by trivial)) (q_cons (@q_setF _ _ _ _ _ _ _ 2 _ _ sc_law_knot.nd rfl (by trivial) (q_op op_rep (o2_rep (c:=true)) (q_FC (q_lst (q_acons q_int (q_acons q_int q_anil)))) (@q_ct _ _ _ _ _ _ _ _ _ _ _ _ _ _ call_int1 b_int (by rfl) B.int_ bt_int (q_acons (@q_cmp _ _ _ _ _ _ _ _ _ _ _ _ _ op_eq o2_eqS (qv .B 1) q_int (by first | exact nomark _ | rfl)) q_anil) (by decide) (by decide) (by rfl) (by rfl))) (by rfl) (by trivial)) (q_cons (@q_setF _ _ _ _ _ _ _ 3 _ _ sc_law_knot.nd rfl (by trivial) (q_lst (q_acons q_int (q_acons q_int (q_acons (q_FV (@q_call _ _ _ _ _ _ _ _ _ _ _ _ _ _ _ _ G_law_some (.inl rfl) (by exact hr.mono (by decide)) (by rfl) D_law_some.m D_law_some.F.kp D_law_some.b (q_acons (qv .B 0) (q_acons q_int q_anil)) (by decide) (by rfl) (by rfl))) q_anil)))) (by rfl) (by trivial)) (q_cons (@q_setF _ _ _ _ _ _ _ 4 _ _ sc_law_knot.nd rfl (by trivial) (q_lst (q_acons (q_FV (q_tup (q_acons (q_FV (q_op op_cat (o2_cat (c:=true)) (qv .C 3) (qv .C 2))) (q_acons (q_FV (q_op op_cat (o2_cat (c:=true)) (q_FC (q_lst (q_acons q_int (q_acons (q_FV (@q_call _ _ _ _ _ _ _ _ _ _ _ _ _ _ _ _ G_law_some (.inl rfl) (by exact hr.mono (by decide)) (by rfl) D_law_some.m D_law_some.F.kp D_law_some.b (q_acons (qv .B 0) (q_acons q_int q_anil)) (by decide) (by rfl) (by rfl))) (q_acons q_int q_anil))))) (qv .C 2))) q_anil)))) q_anil)) (by rfl) (by trivial)) (q_cons (@q_app _ _ _ _ _ _ _ 4 _ _ _ _ rfl (by trivial) (q_FV (q_tup (q_acons (q_FV (q_op op_cat (o2_cat (c:=true)) (q_FC (q_lst (q_acons q_int (q_acons q_int (q_acons q_int q_anil))))) (qv .C 2))) (q_acons (q_FV (q_op op_cat (o2_cat (c:=true)) (q_FC (q_lst (q_acons (q_FV (@q_call _ _ _ _ _ _ _ _ _ _ _ _ _ _ _ _ G_law_some (.inl rfl) (by exact hr.mono (by decide)) (by rfl) D_law_some.m D_law_some.F.kp D_law_some.b (q_acons (qv .B 0) (q_acons q_int q_anil)) (by decide) (by rfl) (by rfl))) (q_acons q_int (q_acons (q_FV (@q_call _ _ _ _ _ _ _ _ _ _ _ _ _ _ _ _ G_law_some (.inl rfl) (by exact hr.mono (by decide)) (by rfl) D_law_some.m D_law_some.F.kp D_law_some.b (q_acons (qv .B 0) (q_acons q_int q_anil)) (by decide) (by rfl) (by rfl))) q_anil))))) (qv .C 2))) q_anil)))) (by decide) (by decide) (by rfl) (by rfl) (by rfl) (by rfl) (by rfl)) (q_cons (q_if_ (@q_tcmp _ _ _ _ _ _ _ _ _ _ _ _ op_eq o2_eqS (qv .B 1) q_int (by first | exact nomark _ | rfl)) (q_cons (@q_setc _ _ _ _ _ _ _ 5 _ _ _ _ _ _ _ _ _ _ _ _ _ (show CompScope (defScope s_law_knot) _ ["_law_script", "_law_some_here", "_law_none", "_law_begin", "_law_moves", "_law_third", "_law_far"] ["_law_script", "_law_some_here", "_law_none", "_law_begin", "_law_moves", "_law_third", "_law_far", "_law_k"] from ⟨rfl,by decide +kernel,by decide +kernel,by decide +kernel,by decide +kernel,by decide,by decide +kernel,by decide +kernel⟩) rfl (@q_rng1 _ _ _ _ _ _ _ _ _ (by rfl) B.range_ (q_acons q_int q_anil) (by rfl)) (fun _ _ _ _=>(@pg_name _ _ 7 _ (by decide +kernel:(["_law_script", "_law_some_here", "_law_none", "_law_begin", "_law_moves", "_law_third", "_law_far", "_law_k"]:List Str).Nodup) rfl (Or.inl rfl) (.inr rfl))) gt_U (gk_name (show 7≤7 by decide)) (fun _ _ _ _=>q_pifN) (fun _ _ _ _=>(q_FV (@q_call _ _ _ _ _ _ _ _ _ _ _ _ _ _ _ _ G_law_draw (.inl rfl) (by exact hr.mono (by decide)) (by rfl) D_law_draw.m D_law_draw.F.kp D_law_draw.b (q_acons (qv .B 0) (q_acons (q_op op_add (o2_I0 (g:=gAdd) (fun _ _=>rfl) (fun _ _ _=>.int)) q_int (qv .B 7)) (q_acons q_int q_anil))) (by decide) (by rfl) (by rfl)))) sc_law_knot.nd rfl (by trivial) (by rfl) (by trivial) (by intro _; rfl)) (q_last (@q_app _ _ _ _ _ _ _ 4 _ _ _ _ rfl (by trivial) (q_FV (q_tup (q_acons (q_FV (@q_sl _ _ _ _ _ _ true _ _ _ _ _ (qv .C 5) q_pN (q_pS q_int) (by rfl))) (q_acons (q_FV (@q_sl _ _ _ _ _ _ true _ _ _ _ _ (qv .C 5) (q_pS q_int) q_pN (by rfl))) q_anil)))) (by decide) (by decide) (by rfl) (by rfl) (by rfl) (by rfl) (by rfl)))) q_nil) (q_cons (q_if_ (@q_tcmp _ _ _ _ _ _ _ _ _ _ _ _ op_eq o2_eqS (qv .B 1) q_int (by first | exact nomark _ | rfl)) (q_cons (@q_app _ _ _ _ _ _ _ 4 _ _ _ _ rfl (by trivial) (q_FV (q_tup (q_acons (q_FV (q_lst (q_acons q_int (q_acons (q_FV (@q_call _ _ _ _ _ _ _ _ _ _ _ _ _ _ _ _ G_law_some (.inl rfl) (by exact hr.mono (by decide)) (by rfl) D_law_some.m D_law_some.F.kp D_law_some.b (q_acons (qv .B 0) (q_acons q_int q_anil)) (by decide) (by rfl) (by rfl))) (q_acons q_int (q_acons q_int (q_acons q_int q_anil))))))) (q_acons (q_FV (q_lst (q_acons q_int (q_acons q_int (q_acons q_int (q_acons q_int (q_acons q_int q_anil))))))) q_anil)))) (by decide) (by decide) (by rfl) (by rfl) (by rfl) (by rfl) (by rfl)) (q_last (@q_setF _ _ _ _ _ _ _ 3 _ _ sc_law_knot.nd rfl (by trivial) (q_op op_cat (o2_cat (c:=true)) (qv .C 3) (q_FC (q_lst (q_acons q_int (q_acons q_int q_anil))))) (by rfl) (by trivial)))) q_nil) (q_cons (q_if_ (@q_tcmp _ _ _ _ _ _ _ _ _ _ _ _ op_eq o2_eqS (q_CB (q_FC (@q_call _ _ _ _ _ _ _ _ _ _ _ _ _ _ _ _ G_law_draw (.inl rfl) (by exact hr.mono (by decide)) (by rfl) D_law_draw.m D_law_draw.F.kp D_law_draw.b (q_acons (qv .B 0) (q_acons q_int (q_acons q_int q_anil))) (by decide) (by rfl) (by rfl)))) q_int (by first | exact nomark _ | rfl)) (q_last (@q_setF _ _ _ _ _ _ _ 4 _ _ sc_law_knot.nd rfl (by trivial) (@q_rv3 _ _ _ _ _ _ true _ _ _ (qv .C 4) (q_pS (q_un un_neg (o1_U (g:=gNeg) (fun _=>rfl) (fun _ _=>.int)) q_int)) (by rfl)) (by rfl) (by trivial))) q_nil) (q_cons (@q_setF _ _ _ _ _ _ _ 6 _ _ sc_law_knot.nd rfl (by trivial) (@q_call _ _ _ _ _ _ _ _ _ _ _ _ _ _ _ _ G_law_draw (.inl rfl) (by exact hr.mono (by decide)) (by rfl) D_law_draw.m D_law_draw.F.kp D_law_draw.b (q_acons (qv .B 0) (q_acons q_int (q_acons q_int q_anil))) (by decide) (by rfl) (by rfl)) (by rfl) (by trivial)) (q_last (q_ret (q_tup (q_acons (q_FV (@q_call _ _ _ _ _ _ _ _ _ _ _ _ _ _ _ _ G_law_turned (.inl rfl) (by exact hr.mono (by decide)) (by rfl) D_law_turned.m D_law_turned.F.kp D_law_turned.b (q_acons (qv .B 3) (q_acons (qv .B 6) q_anil)) (by decide) (by rfl) (by rfl))) (q_acons (q_FV (@q_ct _ _ _ _ _ _ _ _ _ _ _ _ _ _ K_tup (b_tup (c:=true)) (by rfl) B.tuple_ bt_tuple (q_acons (q_FC (@q_comp _ _ _ _ _ _ _ _ _ _ _ _ _ _ _ _ (show CompScope (defScope s_law_knot) _ ["_law_script", "_law_some_here", "_law_none", "_law_begin", "_law_moves", "_law_third", "_law_far"] ["_law_script", "_law_some_here", "_law_none", "_law_begin", "_law_moves", "_law_third", "_law_far", "_law_take", "_law_put"] from ⟨rfl,by decide +kernel,by decide +kernel,by decide +kernel,by decide +kernel,by decide,by decide +kernel,by decide +kernel⟩) rfl (@q_iSqB _ _ _ _ _ _ (qv .B 4) (by rfl)) (fun _ _ _ _=>(@pg_tupK _ K _ _ _ _ 2 rfl (@pgs_cons _ _ _ _ _ (@pg_name _ _ 7 _ (by decide +kernel:(["_law_script", "_law_some_here", "_law_none", "_law_begin", "_law_moves", "_law_third", "_law_far", "_law_take", "_law_put"]:List Str).Nodup) rfl (Or.inl rfl) (.inr rfl)) (@pgs_cons _ _ _ _ _ (@pg_name _ _ 8 _ (by decide +kernel:(["_law_script", "_law_some_here", "_law_none", "_law_begin", "_law_moves", "_law_third", "_law_far", "_law_take", "_law_put"]:List Str).Nodup) rfl (Or.inl rfl) (.inr rfl)) pgs_nil (by rfl)) (by rfl)) (by rfl) (by rfl) (by rfl))) (gt_tup (.inr rfl) (gts_cons (.inr rfl) gt_U (gts_cons (.inr rfl) gt_U gts_nil))) (gk_tup (gk_cons (show 7≤7 by decide) (gk_cons (show 7≤8 by decide) gk_nil))) (fun _ _ _ _=>q_pifN) (fun _ _ _ _=>(q_FV (q_tup (q_acons (q_FV (@q_call _ _ _ _ _ _ _ _ _ _ _ _ _ _ _ _ G_law_turned (.inl rfl) (by exact hr.mono (by decide)) (by rfl) D_law_turned.m D_law_turned.F.kp D_law_turned.b (q_acons (qv .B 7) (q_acons (qv .B 6) q_anil)) (by decide) (by rfl) (by rfl))) (q_acons (q_FV (@q_call _ _ _ _ _ _ _ _ _ _ _ _ _ _ _ _ G_law_turned (.inl rfl) (by exact hr.mono (by decide)) (by rfl) D_law_turned.m D_law_turned.F.kp D_law_turned.b (q_acons (qv .B 8) (q_acons (qv .B 6) q_anil)) (by decide) (by rfl) (by rfl))) q_anil))))) (by intro _; rfl))) q_anil) (by decide) (by decide) (by rfl) (by rfl))) q_anil)))))))))))))),
  c_body (n:=1) (Nl:=["_law_script", "_law_some_here", "_law_none", "_law_begin", "_law_moves", "_law_third", "_law_far"]) (.inl rfl) h⟩
theorem ok_law_whole {f:Addr} {fd:FuncData} (D:Def K mg "_law_whole" s_law_whole ["_law_found"] f fd) (B:Blt mg):FnOk P w K mg base CX0 1 f fd ["_law_found"] (spM K 1 .F (f__law_whole)):=by
 refine D.F.ok sc_law_whole (fun vs H Q E h=>h.1) (fun cdv A outer s H vs Q E hr h=>?_)
 exact ⟨tSt K (fun _ _=>False) .F m__law_whole,(q_last (q_ret (q_and (@q_cb _ _ _ _ _ _ _ _ _ _ _ _ _ _ call_isi b_isi (by rfl) B.isinstance_ PyProof.Rows.boot_isinstance (q_acons (qv .B 0) (q_acons (@q_ty _ _ _ _ _ _ _ (by rfl) B.int_ bt_int (by decide) (by decide)) q_anil)) (by decide) (by decide) (by rfl) (by rfl)) (q_one (q_not (@q_cb _ _ _ _ _ _ _ _ _ _ _ _ _ _ call_isi b_isi (by rfl) B.isinstance_ PyProof.Rows.boot_isinstance (q_acons (qv .B 0) (q_acons (@q_ty _ _ _ _ _ _ _ (by rfl) B.bool_ bt_bool (by decide) (by decide)) q_anil)) (by decide) (by decide) (by rfl) (by rfl))))))),
  c_body (n:=1) (Nl:=["_law_found"]) (.inl rfl) h⟩
theorem ok_law_is_block {f:Addr} {fd:FuncData} (D:Def K mg "_law_is_block" s_law_is_block ["_law_block", "_law_count"] f fd) (B:Blt mg) {f_law_whole:Addr} {fd_law_whole:FuncData} (D_law_whole:Def K mg "_law_whole" s_law_whole ["_law_found"] f_law_whole fd_law_whole) (G_law_whole:FnOk P w K mg base CX0 1 f_law_whole fd_law_whole ["_law_found"] (spM K 1 .F (f__law_whole))):FnOk P w K mg base CX0 2 f fd ["_law_block", "_law_count"] (spM K 2 .F (f__law_is_block)):=by
 refine D.F.ok sc_law_is_block (fun vs H Q E h=>h.1) (fun cdv A outer s H vs Q E hr h=>?_)
 exact ⟨tSt K (fun _ _=>False) .F m__law_is_block,(q_cons (q_if_ (PW.pt (q_tor (q_tnot (@q_val _ _ _ _ _ (@q_cb _ _ _ _ _ _ _ _ _ _ _ _ _ _ call_isi b_isi (by rfl) B.isinstance_ PyProof.Rows.boot_isinstance (q_acons (qv .B 0) (q_acons (@q_ty _ _ _ _ _ _ _ (by rfl) B.tuple_ bt_tuple (by decide) (by decide)) q_anil)) (by decide) (by decide) (by rfl) (by rfl)) (by intro _; rfl))) (q_tor (@q_tcmp _ _ _ _ _ _ _ _ _ _ _ _ op_ne o2_neS (@q_cb _ _ _ _ _ _ _ _ _ _ _ _ _ _ K_len b_len (by rfl) B.len_ PySem.boot_len (q_acons (qv .B 0) q_anil) (by decide) (by decide) (by rfl) (by rfl)) q_int (by first | exact nomark _ | rfl)) (q_tor (q_tnot (@q_val _ _ _ _ _ (q_CB (q_FC (@q_call _ _ _ _ _ _ _ _ _ _ _ _ _ _ _ _ G_law_whole (.inl rfl) (by exact hr.mono (by decide)) (by rfl) D_law_whole.m D_law_whole.F.kp D_law_whole.b (q_acons (q_UB (q_ixU (qv .B 0) q_int)) q_anil) (by decide) (by rfl) (by rfl)))) (by intro _; rfl))) (q_tor1 (@q_tcmp _ _ _ _ _ _ _ _ _ _ _ _ op_lt (o2_I0 (g:=gLt) (fun _ _=>rfl) (fun _ _ _=>.bl)) (q_UB (q_ixU (qv .B 0) q_int)) q_int (by first | exact nomark _ | rfl))))))) (q_last (q_ret q_bl)) q_nil) (q_cons (q_if_ (PW.pt (q_tor (q_tnot (@q_val _ _ _ _ _ (@q_cb _ _ _ _ _ _ _ _ _ _ _ _ _ _ call_isi b_isi (by rfl) B.isinstance_ PyProof.Rows.boot_isinstance (q_acons (q_UB (q_ixU (qv .B 0) q_int)) (q_acons (@q_ty _ _ _ _ _ _ _ (by rfl) B.list_ bt_list (by decide) (by decide)) q_anil)) (by decide) (by decide) (by rfl) (by rfl)) (by intro _; rfl))) (q_tor1 (@q_tcmp _ _ _ _ _ _ _ _ _ _ _ _ op_gt (o2_I0 (g:=gGt) (fun _ _=>rfl) (fun _ _ _=>.bl)) (@q_cb _ _ _ _ _ _ _ _ _ _ _ _ _ _ K_len b_len (by rfl) B.len_ PySem.boot_len (q_acons (q_UB (q_ixU (qv .B 0) q_int)) q_anil) (by decide) (by decide) (by rfl) (by rfl)) q_int (by first | exact nomark _ | rfl))))) (q_last (q_ret q_bl)) q_nil) (q_last (q_ret (@q_cb _ _ _ _ _ _ _ _ _ _ _ _ _ _ (call_allL rfl) (b_bools (g:=gAll)) (by rfl) B.all_ bt_all (q_acons (q_CB (q_FC (@q_comp _ _ _ _ _ _ _ _ _ _ _ _ _ _ _ _ (show CompScope (defScope s_law_is_block) _ ["_law_block", "_law_count"] ["_law_block", "_law_count", "_law_number"] from ⟨rfl,by decide +kernel,by decide +kernel,by decide +kernel,by decide +kernel,by decide,by decide +kernel,by decide +kernel⟩) rfl (@q_iSqB _ _ _ _ _ _ (q_UB (q_ixU (qv .B 0) q_int)) (by rfl)) (fun _ _ _ _=>(@pg_name _ _ 2 _ (by decide +kernel:(["_law_block", "_law_count", "_law_number"]:List Str).Nodup) rfl (Or.inl rfl) (.inr rfl))) gt_U (gk_name (show 2≤2 by decide)) (fun _ _ _ _=>q_pifN) (fun _ _ _ _=>(q_and (q_CB (q_FC (@q_call _ _ _ _ _ _ _ _ _ _ _ _ _ _ _ _ G_law_whole (.inl rfl) (by exact hr.mono (by decide)) (by rfl) D_law_whole.m D_law_whole.F.kp D_law_whole.b (q_acons (qv .B 2) q_anil) (by decide) (by rfl) (by rfl)))) (q_one (@q_chain _ _ _ _ _ _ _ _ _ _ _ _ _ _ _ _ _ _ op_le (o2_I0 (g:=gLe) (fun _ _=>rfl) (fun _ _ _=>.bl)) op_lt (o2_I0 (g:=gLt) (fun _ _=>rfl) (fun _ _ _=>.bl)) q_int (qv .B 2) (qv .B 1) (by with_unfolding_all rfl))))) (by intro _; rfl)))) q_anil) (by decide) (by decide) (by rfl) (by rfl)))))),
  c_body (n:=2) (Nl:=["_law_block", "_law_count"]) (.inl rfl) h⟩
theorem ok_law_gone {f:Addr} {fd:FuncData} (D:Def K mg "_law_gone" s_law_gone ["_law_stand", "_law_moves", "_law_row", "_law_times"] f fd) (B:Blt mg):FnOk P w K mg base CX0 1 f fd ["_law_stand", "_law_moves", "_law_row", "_law_times"] (spM K 4 .F (f__law_gone)):=by
 refine D.F.ok sc_law_gone (fun vs H Q E h=>h.1) (fun cdv A outer s H vs Q E hr h=>?_)
 exact ⟨tSt K (fun _ _=>False) .F m__law_gone,(q_cons (q_if_ (@q_tcmp _ _ _ _ _ _ _ _ _ _ _ _ op_eq o2_eqS (qv .B 3) q_int (by first | exact nomark _ | rfl)) (q_last (@q_retv _ _ _ _ _ 0 _ _ (.inl rfl) (by rfl) (by trivial) (by decide) (by decide))) q_nil) (q_cons (@q_setc _ _ _ _ _ _ _ 4 _ _ _ _ _ _ _ _ _ _ _ _ _ (show CompScope (defScope s_law_gone) _ ["_law_stand", "_law_moves", "_law_row", "_law_times", "_law_low", "_law_total", "_law_number", "_law_take", "_law_put", "_law_k"] ["_law_stand", "_law_moves", "_law_row", "_law_times", "_law_low", "_law_total", "_law_number", "_law_take", "_law_put", "_law_k", "_law_held"] from ⟨rfl,by decide +kernel,by decide +kernel,by decide +kernel,by decide +kernel,by decide,by decide +kernel,by decide +kernel⟩) rfl (@q_iSqB _ _ _ _ _ _ (qv .B 0) (by rfl)) (fun _ _ _ _=>(@pg_name _ _ 10 _ (by decide +kernel:(["_law_stand", "_law_moves", "_law_row", "_law_times", "_law_low", "_law_total", "_law_number", "_law_take", "_law_put", "_law_k", "_law_held"]:List Str).Nodup) rfl (Or.inl rfl) (.inr rfl))) gt_U (gk_name (show 10≤10 by decide)) (fun _ _ _ _=>q_pifN) (fun _ _ _ _=>q_int) sc_law_gone.nd rfl (by trivial) (by rfl) (by trivial) (by intro _; rfl)) (q_cons (@q_setF _ _ _ _ _ _ _ 5 _ _ sc_law_gone.nd rfl (by trivial) (@q_comp _ _ _ _ _ _ _ _ _ _ _ _ _ _ _ _ (show CompScope (defScope s_law_gone) _ ["_law_stand", "_law_moves", "_law_row", "_law_times", "_law_low", "_law_total", "_law_number", "_law_take", "_law_put", "_law_k"] ["_law_stand", "_law_moves", "_law_row", "_law_times", "_law_low", "_law_total", "_law_number", "_law_take", "_law_put", "_law_k", "_law_held"] from ⟨rfl,by decide +kernel,by decide +kernel,by decide +kernel,by decide +kernel,by decide,by decide +kernel,by decide +kernel⟩) rfl (@q_iSqB _ _ _ _ _ _ (qv .B 0) (by rfl)) (fun _ _ _ _=>(@pg_name _ _ 10 _ (by decide +kernel:(["_law_stand", "_law_moves", "_law_row", "_law_times", "_law_low", "_law_total", "_law_number", "_law_take", "_law_put", "_law_k", "_law_held"]:List Str).Nodup) rfl (Or.inl rfl) (.inr rfl))) gt_U (gk_name (show 10≤10 by decide)) (fun _ _ _ _=>q_pifN) (fun _ _ _ _=>q_int) (by intro _; rfl)) (by rfl) (by trivial)) (q_cons (@q_for _ _ _ _ _ _ _ _ _ _ _ _ _ PassesOwn.never rfl (@q_iSqU _ _ _ _ _ _ (qv .U 2) (by rfl)) (@pg_name _ _ 6 _ sc_law_gone.nd rfl (by trivial) (by trivial)) gt_U (q_cons (@q_asg _ _ _ _ _ _ _ _ _ _ _ (q_ixU (qv .B 1) (qv .B 6)) (@pg_tupK _ K _ _ _ _ 2 rfl (@pgs_cons _ _ _ _ _ (@pg_name _ _ 7 _ sc_law_gone.nd rfl (by trivial) (by trivial)) (@pgs_cons _ _ _ _ _ (@pg_name _ _ 8 _ sc_law_gone.nd rfl (by trivial) (by trivial)) pgs_nil (by rfl)) (by rfl)) (by rfl) (by rfl) (by rfl)) (gt_tup (.inr rfl) (gts_cons (.inr rfl) gt_U (gts_cons (.inr rfl) gt_U gts_nil))) (by rfl) (by rfl) (by rfl)) (q_last (@q_for _ _ _ _ _ _ _ _ _ _ _ _ _ PassesOwn.never rfl (@q_rng1 _ _ _ _ _ _ _ _ _ (by rfl) B.range_ (q_acons (@q_cb _ _ _ _ _ _ _ _ _ _ _ _ _ _ K_len b_len (by rfl) B.len_ PySem.boot_len (q_acons (qv .B 0) q_anil) (by decide) (by decide) (by rfl) (by rfl)) q_anil) (by rfl)) (@pg_name _ _ 9 _ sc_law_gone.nd rfl (by trivial) (by trivial)) gt_U (q_cons (@q_set _ _ _ _ _ _ _ _ 4 _ _ _ _ rfl (by trivial) (qv .B 9) (@q_cb _ _ _ _ _ _ _ _ _ _ _ _ _ _ (call_max2 rfl) (b_2 (g:=gMax)) (by rfl) B.max_ bt_max (q_acons (q_UB (q_ixU (qv .B 4) (qv .B 9))) (q_acons (q_op op_sub (o2_I0 (g:=gSub) (fun _ _=>rfl) (fun _ _ _=>.int)) (q_UB (q_ixU (qv .B 7) (qv .B 9))) (q_UB (q_ixU (qv .B 5) (qv .B 9)))) q_anil)) (by decide) (by decide) (by rfl) (by rfl)) (by decide) (by decide) (@pg_sub _ _ _ _ _ _ _ (@pv _ 4 _ _ (by rfl) (by trivial) (by decide) (by decide)) (qv .B 9) set_list (by intro _; rfl)) (by rfl) (by rfl)) (q_last (@q_set _ _ _ _ _ _ _ _ 5 _ _ _ _ rfl (by trivial) (qv .B 9) (q_op op_sub (o2_I0 (g:=gSub) (fun _ _=>rfl) (fun _ _ _=>.int)) (q_op op_add (o2_I0 (g:=gAdd) (fun _ _=>rfl) (fun _ _ _=>.int)) (q_UB (q_ixU (qv .B 5) (qv .B 9))) (q_UB (q_ixU (qv .B 8) (qv .B 9)))) (q_UB (q_ixU (qv .B 7) (qv .B 9)))) (by decide) (by decide) (@pg_sub _ _ _ _ _ _ _ (@pv _ 5 _ _ (by rfl) (by trivial) (by decide) (by decide)) (qv .B 9) set_list (by intro _; rfl)) (by rfl) (by rfl)))) (by intro _; rfl)))) (by intro _; rfl)) (q_cons (@q_for _ _ _ _ _ _ _ _ _ _ _ _ _ PassesOwn.never rfl (@q_rng1 _ _ _ _ _ _ _ _ _ (by rfl) B.range_ (q_acons (@q_cb _ _ _ _ _ _ _ _ _ _ _ _ _ _ K_len b_len (by rfl) B.len_ PySem.boot_len (q_acons (qv .B 0) q_anil) (by decide) (by decide) (by rfl) (by rfl)) q_anil) (by rfl)) (@pg_name _ _ 9 _ sc_law_gone.nd rfl (by trivial) (by trivial)) gt_U (q_last (q_if_ (@q_tcmp _ _ _ _ _ _ _ _ _ _ _ _ op_lt (o2_I0 (g:=gLt) (fun _ _=>rfl) (fun _ _ _=>.bl)) (q_UB (q_ixU (qv .B 0) (qv .B 9))) (q_op op_add (o2_I0 (g:=gAdd) (fun _ _=>rfl) (fun _ _ _=>.int)) (q_UB (q_ixU (qv .B 4) (qv .B 9))) (q_op op_mul (o2_I (C:=CMul) (g:=gMul) (fun _ _=>rfl) (fun _ _ _=>.int)) (q_op op_sub (o2_I0 (g:=gSub) (fun _ _=>rfl) (fun _ _ _=>.int)) (qv .B 3) q_int) (@q_cb _ _ _ _ _ _ _ _ _ _ _ _ _ _ (call_max2 rfl) (b_2 (g:=gMax)) (by rfl) B.max_ bt_max (q_acons (q_op op_sub (o2_I0 (g:=gSub) (fun _ _=>rfl) (fun _ _ _=>.int)) q_int (q_UB (q_ixU (qv .B 5) (qv .B 9)))) (q_acons q_int q_anil)) (by decide) (by decide) (by rfl) (by rfl)))) (by first | exact nomark _ | rfl)) (q_last (q_ret q_non)) q_nil)) (by intro _; rfl)) (q_last (q_ret (@q_comp _ _ _ _ _ _ _ _ _ _ _ _ _ _ _ _ (show CompScope (defScope s_law_gone) _ ["_law_stand", "_law_moves", "_law_row", "_law_times", "_law_low", "_law_total", "_law_number", "_law_take", "_law_put", "_law_k"] ["_law_stand", "_law_moves", "_law_row", "_law_times", "_law_low", "_law_total", "_law_number", "_law_take", "_law_put", "#_law_k", "_law_k"] from ⟨rfl,by decide +kernel,by decide +kernel,by decide +kernel,by decide +kernel,by decide,by decide +kernel,by decide +kernel⟩) rfl (@q_rng1 _ _ _ _ _ _ _ _ _ (by rfl) B.range_ (q_acons (@q_cb _ _ _ _ _ _ _ _ _ _ _ _ _ _ K_len b_len (by rfl) B.len_ PySem.boot_len (q_acons (qv .B 0) q_anil) (by decide) (by decide) (by rfl) (by rfl)) q_anil) (by rfl)) (fun _ _ _ _=>(@pg_name _ _ 10 _ (by decide +kernel:(["_law_stand", "_law_moves", "_law_row", "_law_times", "_law_low", "_law_total", "_law_number", "_law_take", "_law_put", "#_law_k", "_law_k"]:List Str).Nodup) rfl (Or.inl rfl) (.inr rfl))) gt_U (gk_name (show 10≤10 by decide)) (fun _ _ _ _=>q_pifN) (fun _ _ _ _=>(q_op op_add (o2_I0 (g:=gAdd) (fun _ _=>rfl) (fun _ _ _=>.int)) (q_UB (q_ixU (qv .B 0) (qv .B 10))) (q_op op_mul (o2_I (C:=CMul) (g:=gMul) (fun _ _=>rfl) (fun _ _ _=>.int)) (qv .B 3) (q_UB (q_ixU (qv .B 5) (qv .B 10)))))) (by intro _; rfl))))))))),
  c_body (n:=4) (Nl:=["_law_stand", "_law_moves", "_law_row", "_law_times", "_law_low", "_law_total", "_law_number", "_law_take", "_law_put", "_law_k"]) (.inl rfl) h⟩
theorem ok_law_comes_to {f:Addr} {fd:FuncData} (D:Def K mg "_law_comes_to" s_law_comes_to ["_law_begin", "_law_moves", "_law_blocks", "_law_cap", "_law_height_here"] f fd) (B:Blt mg) {f_law_gone:Addr} {fd_law_gone:FuncData} (D_law_gone:Def K mg "_law_gone" s_law_gone ["_law_stand", "_law_moves", "_law_row", "_law_times"] f_law_gone fd_law_gone) (G_law_gone:FnOk P w K mg base CX0 1 f_law_gone fd_law_gone ["_law_stand", "_law_moves", "_law_row", "_law_times"] (spM K 4 .F (f__law_gone))) {f_law_is_block:Addr} {fd_law_is_block:FuncData} (D_law_is_block:Def K mg "_law_is_block" s_law_is_block ["_law_block", "_law_count"] f_law_is_block fd_law_is_block) (G_law_is_block:FnOk P w K mg base CX0 2 f_law_is_block fd_law_is_block ["_law_block", "_law_count"] (spM K 2 .F (f__law_is_block))):FnOk P w K mg base CX0 3 f fd ["_law_begin", "_law_moves", "_law_blocks", "_law_cap", "_law_height_here"] (spM K 5 .F (f__law_comes_to)):=by
 refine D.F.ok sc_law_comes_to (fun vs H Q E h=>h.1) (fun cdv A outer s H vs Q E hr h=>?_)
 exact ⟨tSt K (fun _ _=>False) .F m__law_comes_to,(q_cons (q_if_ (PW.pt (q_tor (q_tnot (@q_val _ _ _ _ _ (@q_cb _ _ _ _ _ _ _ _ _ _ _ _ _ _ call_isi b_isi (by rfl) B.isinstance_ PyProof.Rows.boot_isinstance (q_acons (qv .B 2) (q_acons (@q_ty _ _ _ _ _ _ _ (by rfl) B.list_ bt_list (by decide) (by decide)) q_anil)) (by decide) (by decide) (by rfl) (by rfl)) (by intro _; rfl))) (q_tor1 (@q_tcmp _ _ _ _ _ _ _ _ _ _ _ _ op_gt (o2_I0 (g:=gGt) (fun _ _=>rfl) (fun _ _ _=>.bl)) (@q_cb _ _ _ _ _ _ _ _ _ _ _ _ _ _ K_len b_len (by rfl) B.len_ PySem.boot_len (q_acons (qv .B 2) q_anil) (by decide) (by decide) (by rfl) (by rfl)) q_int (by first | exact nomark _ | rfl))))) (q_last (q_ret q_bl)) q_nil) (q_cons (@q_setF _ _ _ _ _ _ _ 5 _ _ sc_law_comes_to.nd rfl (by trivial) (@q_ct _ _ _ _ _ _ _ _ _ _ _ _ _ _ K_list (b_list (c:=false)) (by rfl) B.list_ bt_list (q_acons (qv .B 0) q_anil) (by decide) (by decide) (by rfl) (by rfl)) (by rfl) (by trivial)) (q_cons (@q_for _ _ _ _ _ _ _ _ _ _ _ _ _ PassesOwn.never rfl (@q_iSqU _ _ _ _ _ _ (qv .U 2) (by rfl)) (@pg_name _ _ 6 _ sc_law_comes_to.nd rfl (by trivial) (by trivial)) gt_U (q_cons (q_if_ (q_tnot (@q_val _ _ _ _ _ (q_CB (q_FC (@q_call _ _ _ _ _ _ _ _ _ _ _ _ _ _ _ _ G_law_is_block (.inl rfl) (by exact hr.mono (by decide)) (by rfl) D_law_is_block.m D_law_is_block.F.kp D_law_is_block.b (q_acons (qv .B 6) (q_acons (@q_cb _ _ _ _ _ _ _ _ _ _ _ _ _ _ K_len b_len (by rfl) B.len_ PySem.boot_len (q_acons (qv .B 1) q_anil) (by decide) (by decide) (by rfl) (by rfl)) q_anil)) (by decide) (by rfl) (by rfl)))) (by intro _; rfl))) (q_last (q_ret q_bl)) q_nil) (q_cons (@q_setF _ _ _ _ _ _ _ 5 _ _ sc_law_comes_to.nd rfl (by trivial) (@q_call _ _ _ _ _ _ _ _ _ _ _ _ _ _ _ _ G_law_gone (.inl rfl) (by exact hr.mono (by decide)) (by rfl) D_law_gone.m D_law_gone.F.kp D_law_gone.b (q_acons (qv .B 5) (q_acons (qv .B 1) (q_acons (q_UB (q_ixU (qv .B 6) q_int)) (q_acons (q_UB (q_ixU (qv .B 6) q_int)) q_anil)))) (by decide) (by rfl) (by rfl)) (by rfl) (by trivial)) (q_last (q_if_ (@q_tcmp _ _ _ _ _ _ _ _ _ _ _ _ op_isN o2_isN (qv .B 5) q_non (by first | exact nomark _ | rfl)) (q_last (q_ret q_bl)) q_nil)))) (by intro _; rfl)) (q_cons (@q_for _ _ _ _ _ _ _ _ _ _ _ _ _ PassesOwn.never rfl (@q_rng1 _ _ _ _ _ _ _ _ _ (by rfl) B.range_ (q_acons (@q_cb _ _ _ _ _ _ _ _ _ _ _ _ _ _ K_len b_len (by rfl) B.len_ PySem.boot_len (q_acons (qv .B 3) q_anil) (by decide) (by decide) (by rfl) (by rfl)) q_anil) (by rfl)) (@pg_name _ _ 7 _ sc_law_comes_to.nd rfl (by trivial) (by trivial)) gt_U (q_cons (q_if_ (PW.pt (q_tand (@q_tcmp _ _ _ _ _ _ _ _ _ _ _ _ op_isN o2_isN (q_UB (q_ixU (qv .B 3) (qv .B 7))) q_non (by first | exact nomark _ | rfl)) (q_tand1 (@q_tcmp _ _ _ _ _ _ _ _ _ _ _ _ op_lt (o2_I0 (g:=gLt) (fun _ _=>rfl) (fun _ _ _=>.bl)) (q_UB (q_ixU (qv .B 5) (qv .B 7))) (qv .B 4) (by first | exact nomark _ | rfl))))) (q_last (q_ret q_bl)) q_nil) (q_last (q_if_ (PW.pt (q_tand (@q_tcmp _ _ _ _ _ _ _ _ _ _ _ _ op_notN o2_notN (q_UB (q_ixU (qv .B 3) (qv .B 7))) q_non (by first | exact nomark _ | rfl)) (q_tand1 (@q_tcmp _ _ _ _ _ _ _ _ _ _ _ _ (op_neD (hu64 hr)) (o2_eqD (neg:=true)) (q_UB (q_ixU (qv .B 5) (qv .B 7))) (q_UB (q_ixU (qv .B 3) (qv .B 7))) (by first | exact nomark _ | rfl))))) (q_last (q_ret q_bl)) q_nil))) (by intro _; rfl)) (q_last (q_ret q_bl)))))),
  c_body (n:=5) (Nl:=["_law_begin", "_law_moves", "_law_blocks", "_law_cap", "_law_height_here", "_law_stand", "_law_block", "_law_k"]) (.inl rfl) h⟩
theorem ok_law_height {f:Addr} {fd:FuncData} (D:Def K mg "_law_height" s_law_height ["_law_script", "_law_k"] f fd) (B:Blt mg) {f_law_draw:Addr} {fd_law_draw:FuncData} (D_law_draw:Def K mg "_law_draw" s_law_draw ["_law_script", "_law_k", "_law_many"] f_law_draw fd_law_draw) (G_law_draw:FnOk P w K mg base CX0 2 f_law_draw fd_law_draw ["_law_script", "_law_k", "_law_many"] (spM K 3 .F (f__law_draw))) {f_law_cell_at:Addr} {fd_law_cell_at:FuncData} (D_law_cell_at:Def K mg "_law_cell_at" s_law_cell_at ["_law_script", "_law_k"] f_law_cell_at fd_law_cell_at) (G_law_cell_at:FnOk P w K mg base CX0 1 f_law_cell_at fd_law_cell_at ["_law_script", "_law_k"] (spM K 2 .F (f__law_cell_at))):FnOk P w K mg base CX0 3 f fd ["_law_script", "_law_k"] (spM K 2 .F (f__law_height)):=by
 refine D.F.ok sc_law_height (fun vs H Q E h=>h.1) (fun cdv A outer s H vs Q E hr h=>?_)
 exact ⟨tSt K (fun _ _=>False) .F m__law_height,(q_cons (@q_setF _ _ _ _ _ _ _ 2 _ _ sc_law_height.nd rfl (by trivial) (@q_call _ _ _ _ _ _ _ _ _ _ _ _ _ _ _ _ G_law_draw (.inl rfl) (by exact hr.mono (by decide)) (by rfl) D_law_draw.m D_law_draw.F.kp D_law_draw.b (q_acons (qv .B 0) (q_acons (qv .B 1) (q_acons q_int q_anil))) (by decide) (by rfl) (by rfl)) (by rfl) (by trivial)) (q_cons (q_if_ (@q_tcmp _ _ _ _ _ _ _ _ _ _ _ _ op_eq o2_eqS (qv .B 2) q_int (by first | exact nomark _ | rfl)) (q_last (q_ret q_int)) q_nil) (q_cons (q_if_ (@q_tcmp _ _ _ _ _ _ _ _ _ _ _ _ op_eq o2_eqS (qv .B 2) q_int (by first | exact nomark _ | rfl)) (q_last (q_ret (q_op op_mod (o2_I (C:=cMod) (g:=gMod) (fun _ _=>rfl) (fun _ _ _=>.int)) (q_op op_mul (o2_I (C:=CMul) (g:=gMul) (fun _ _=>rfl) (fun _ _ _=>.int)) (q_CB (q_FC (@q_call _ _ _ _ _ _ _ _ _ _ _ _ _ _ _ _ G_law_cell_at (.inl rfl) (by exact hr.mono (by decide)) (by rfl) D_law_cell_at.m D_law_cell_at.F.kp D_law_cell_at.b (q_acons (qv .B 0) (q_acons (qv .B 1) q_anil)) (by decide) (by rfl) (by rfl)))) q_int) (q_op op_pow (o2_I (C:=CPow) (g:=gPow) (fun _ _=>rfl) (fun _ _ _=>.int)) q_int q_int)))) q_nil) (q_last (q_ret (@q_call _ _ _ _ _ _ _ _ _ _ _ _ _ _ _ _ G_law_draw (.inl rfl) (by exact hr.mono (by decide)) (by rfl) D_law_draw.m D_law_draw.F.kp D_law_draw.b (q_acons (qv .B 0) (q_acons (qv .B 1) (q_acons q_int q_anil))) (by decide) (by rfl) (by rfl))))))),
  c_body (n:=2) (Nl:=["_law_script", "_law_k", "_law_kind"]) (.inl rfl) h⟩
theorem oklaw {f:Addr} {fd:FuncData} (D:Def K mg "law" slaw ["_law_script"] f fd) (B:Blt mg) {f_law_moor:Addr} {fd_law_moor:FuncData} (D_law_moor:Def K mg "_law_moor" s_law_moor ["_law_script"] f_law_moor fd_law_moor) (G_law_moor:FnOk P w K mg base CX0 4 f_law_moor fd_law_moor ["_law_script"] (spM K 1 .F (f__law_moor))) {fgrowth:Addr} {fdgrowth:FuncData} (Dgrowth:Def K mg "growth" sgrowth ["moor", "most"] fgrowth fdgrowth) (Ggrowth:FnOk P w K mg base CX0 5 fgrowth fdgrowth ["moor", "most"] (spM K 2 .F (f_growth))) {f_law_draw:Addr} {fd_law_draw:FuncData} (D_law_draw:Def K mg "_law_draw" s_law_draw ["_law_script", "_law_k", "_law_many"] f_law_draw fd_law_draw) (G_law_draw:FnOk P w K mg base CX0 2 f_law_draw fd_law_draw ["_law_script", "_law_k", "_law_many"] (spM K 3 .F (f__law_draw))) {f_law_knot:Addr} {fd_law_knot:FuncData} (D_law_knot:Def K mg "_law_knot" s_law_knot ["_law_script"] f_law_knot fd_law_knot) (G_law_knot:FnOk P w K mg base CX0 4 f_law_knot fd_law_knot ["_law_script"] (spM K 1 .F (f__law_knot))) {f_law_height:Addr} {fd_law_height:FuncData} (D_law_height:Def K mg "_law_height" s_law_height ["_law_script", "_law_k"] f_law_height fd_law_height) (G_law_height:FnOk P w K mg base CX0 3 f_law_height fd_law_height ["_law_script", "_law_k"] (spM K 2 .F (f__law_height))) {fclimb:Addr} {fdclimb:FuncData} (Dclimb:Def K mg "climb" sclimb ["moor", "tree", "number", "height"] fclimb fdclimb) (Gclimb:FnOk P w K mg base CX0 6 fclimb fdclimb ["moor", "tree", "number", "height"] (spM K 4 .F (f_climb))) {f_law_comes_to:Addr} {fd_law_comes_to:FuncData} (D_law_comes_to:Def K mg "_law_comes_to" s_law_comes_to ["_law_begin", "_law_moves", "_law_blocks", "_law_cap", "_law_height_here"] f_law_comes_to fd_law_comes_to) (G_law_comes_to:FnOk P w K mg base CX0 3 f_law_comes_to fd_law_comes_to ["_law_begin", "_law_moves", "_law_blocks", "_law_cap", "_law_height_here"] (spM K 5 .F (f__law_comes_to))):FnOk P w K mg base CX0 7 f fd ["_law_script"] (spM K 1 .F (f_law)):=by
 refine D.F.ok sclaw (fun vs H Q E h=>h.1) (fun cdv A outer s H vs Q E hr h=>?_)
 exact ⟨tSt K (fun _ _=>False) .F m_law,(q_cons (@q_asg _ _ _ _ _ _ _ _ _ _ _ (q_VU (q_FV (@q_call _ _ _ _ _ _ _ _ _ _ _ _ _ _ _ _ G_law_moor (.inl rfl) (by exact hr.mono (by decide)) (by rfl) D_law_moor.m D_law_moor.F.kp D_law_moor.b (q_acons (qv .B 0) q_anil) (by decide) (by rfl) (by rfl)))) (@pg_tupK _ K _ _ _ _ 2 rfl (@pgs_cons _ _ _ _ _ (@pg_name _ _ 1 _ sclaw.nd rfl (by trivial) (by trivial)) (@pgs_cons _ _ _ _ _ (@pg_name _ _ 2 _ sclaw.nd rfl (by trivial) (by trivial)) pgs_nil (by rfl)) (by rfl)) (by rfl) (by rfl) (by rfl)) (gt_tup (.inr rfl) (gts_cons (.inr rfl) gt_U (gts_cons (.inr rfl) gt_U gts_nil))) (by rfl) (by rfl) (by rfl)) (q_cons (q_if_ (@q_tcmp _ _ _ _ _ _ _ _ _ _ _ _ op_eq o2_eqS (q_CB (q_FC (@q_call _ _ _ _ _ _ _ _ _ _ _ _ _ _ _ _ G_law_draw (.inl rfl) (by exact hr.mono (by decide)) (by rfl) D_law_draw.m D_law_draw.F.kp D_law_draw.b (q_acons (qv .B 0) (q_acons q_int (q_acons q_int q_anil))) (by decide) (by rfl) (by rfl)))) q_int (by first | exact nomark _ | rfl)) (q_last (@q_asg _ _ _ _ _ _ _ _ _ _ _ (q_VU (q_FV (@q_call _ _ _ _ _ _ _ _ _ _ _ _ _ _ _ _ G_law_knot (.inl rfl) (by exact hr.mono (by decide)) (by rfl) D_law_knot.m D_law_knot.F.kp D_law_knot.b (q_acons (qv .B 0) q_anil) (by decide) (by rfl) (by rfl)))) (@pg_tupK _ K _ _ _ _ 2 rfl (@pgs_cons _ _ _ _ _ (@pg_name _ _ 1 _ sclaw.nd rfl (by trivial) (by trivial)) (@pgs_cons _ _ _ _ _ (@pg_name _ _ 2 _ sclaw.nd rfl (by trivial) (by trivial)) pgs_nil (by rfl)) (by rfl)) (by rfl) (by rfl) (by rfl)) (gt_tup (.inr rfl) (gts_cons (.inr rfl) gt_U (gts_cons (.inr rfl) gt_U gts_nil))) (by rfl) (by rfl) (by rfl))) q_nil) (q_cons (@q_setF _ _ _ _ _ _ _ 3 _ _ sclaw.nd rfl (by trivial) (@q_call _ _ _ _ _ _ _ _ _ _ _ _ _ _ _ _ Ggrowth (.inl rfl) (by exact hr.mono (by decide)) (by rfl) Dgrowth.m Dgrowth.F.kp Dgrowth.b (q_acons (q_UB (q_tupU (q_acons (qv .U 1) (q_acons (qv .U 2) q_anil)))) (q_acons q_int q_anil)) (by decide) (by rfl) (by rfl)) (by rfl) (by trivial)) (q_cons (q_if_ (@q_tcmp _ _ _ _ _ _ _ _ _ _ _ _ op_isN o2_isN (qv .B 3) q_non (by first | exact nomark _ | rfl)) (q_last (q_ret q_bl)) q_nil) (q_cons (@q_setF _ _ _ _ _ _ _ 4 _ _ sclaw.nd rfl (by trivial) (@q_ct _ _ _ _ _ _ _ _ _ _ _ _ _ _ K_list (b_list (c:=true)) (by rfl) B.list_ bt_list (q_acons (qv .C 3) q_anil) (by decide) (by decide) (by rfl) (by rfl)) (by rfl) (by trivial)) (q_cons (@q_setF _ _ _ _ _ _ _ 5 _ _ sclaw.nd rfl (by trivial) (q_op op_cat (o2_cat (c:=true)) (q_FC (@q_comp _ _ _ _ _ _ _ _ _ _ _ _ _ _ _ _ (show CompScope (defScope slaw) _ ["_law_script", "_law_begin", "_law_moves", "_law_tree", "_law_handed", "_law_picks", "_law_k", "_law_cap", "_law_height_here", "_law_again_or_not", "_law_blocks"] ["_law_script", "_law_begin", "_law_moves", "_law_tree", "_law_handed", "_law_picks", "#_law_k", "_law_cap", "_law_height_here", "_law_again_or_not", "_law_blocks", "_law_k"] from ⟨rfl,by decide +kernel,by decide +kernel,by decide +kernel,by decide +kernel,by decide,by decide +kernel,by decide +kernel⟩) rfl (@q_rng1 _ _ _ _ _ _ _ _ _ (by rfl) B.range_ (q_acons q_int q_anil) (by rfl)) (fun _ _ _ _=>(@pg_name _ _ 11 _ (by decide +kernel:(["_law_script", "_law_begin", "_law_moves", "_law_tree", "_law_handed", "_law_picks", "#_law_k", "_law_cap", "_law_height_here", "_law_again_or_not", "_law_blocks", "_law_k"]:List Str).Nodup) rfl (Or.inl rfl) (.inr rfl))) gt_U (gk_name (show 11≤11 by decide)) (fun _ _ _ _=>q_pifN) (fun _ _ _ _=>(q_FV (@q_call _ _ _ _ _ _ _ _ _ _ _ _ _ _ _ _ G_law_draw (.inl rfl) (by exact hr.mono (by decide)) (by rfl) D_law_draw.m D_law_draw.F.kp D_law_draw.b (q_acons (qv .B 0) (q_acons (q_op op_add (o2_I0 (g:=gAdd) (fun _ _=>rfl) (fun _ _ _=>.int)) q_int (qv .B 11)) (q_acons (@q_cb _ _ _ _ _ _ _ _ _ _ _ _ _ _ K_len b_len (by rfl) B.len_ PySem.boot_len (q_acons (qv .B 3) q_anil) (by decide) (by decide) (by rfl) (by rfl)) q_anil))) (by decide) (by rfl) (by rfl)))) (by intro _; rfl))) (q_FC (q_lst (q_acons (q_op op_sub (o2_I0 (g:=gSub) (fun _ _=>rfl) (fun _ _ _=>.int)) (@q_cb _ _ _ _ _ _ _ _ _ _ _ _ _ _ K_len b_len (by rfl) B.len_ PySem.boot_len (q_acons (qv .B 3) q_anil) (by decide) (by decide) (by rfl) (by rfl)) q_int) q_anil)))) (by rfl) (by trivial)) (q_cons (@q_for _ _ _ _ _ _ _ _ _ _ _ _ _ PassesOwn.never rfl (@q_rng1 _ _ _ _ _ _ _ _ _ (by rfl) B.range_ (q_acons (@q_cb _ _ _ _ _ _ _ _ _ _ _ _ _ _ K_len b_len (by rfl) B.len_ PySem.boot_len (q_acons (qv .B 5) q_anil) (by decide) (by decide) (by rfl) (by rfl)) q_anil) (by rfl)) (@pg_name _ _ 6 _ sclaw.nd rfl (by trivial) (by trivial)) gt_U (q_cons (@q_setV _ _ _ _ _ _ _ 7 _ _ sclaw.nd rfl (by trivial) (q_ixV (q_VC (q_ixV (qv .C 3) (q_VC (q_ixV (qv .C 5) (qv .C 6))))) q_int) (by rfl) (by trivial)) (q_cons (@q_setF _ _ _ _ _ _ _ 8 _ _ sclaw.nd rfl (by trivial) (@q_call _ _ _ _ _ _ _ _ _ _ _ _ _ _ _ _ G_law_height (.inl rfl) (by exact hr.mono (by decide)) (by rfl) D_law_height.m D_law_height.F.kp D_law_height.b (q_acons (qv .B 0) (q_acons (q_op op_add (o2_I0 (g:=gAdd) (fun _ _=>rfl) (fun _ _ _=>.int)) q_int (qv .B 6)) q_anil)) (by decide) (by rfl) (by rfl)) (by rfl) (by trivial)) (q_last (@q_for _ _ _ _ _ _ _ _ _ _ _ _ _ PassesOwn.never rfl (@q_rng1 _ _ _ _ _ _ _ _ _ (by rfl) B.range_ (q_acons q_int q_anil) (by rfl)) (@pg_name _ _ 9 _ sclaw.nd rfl (by trivial) (by trivial)) gt_U (@q_mB _ _ _ _ _ _ _ _ 10 _ _ _ _ _ _ _ _ _ _ _ _ _ _ _ _ _ _ _ _ _ _ _ _ _ _ _ _ _ _ _ _ _ _ _ _ _ _ _ _ sclaw.nd rfl (by trivial) (by trivial) Gclimb (by exact hr.mono (by decide)) (by rfl) Dclimb.m Dclimb.F.kp Dclimb.b (q_acons (q_UB (q_tupU (q_acons (qv .U 1) (q_acons (qv .U 2) q_anil)))) (q_acons (qv .B 4) (q_acons (q_UB (q_ixU (qv .B 5) (qv .B 6))) (q_acons (qv .B 8) q_anil)))) (q_tnot (@q_val _ _ _ _ _ (q_CB (q_FC (@q_call _ _ _ _ _ _ _ _ _ _ _ _ _ _ _ _ G_law_comes_to (.inl rfl) (by exact hr.mono (by decide)) (by rfl) D_law_comes_to.m D_law_comes_to.F.kp D_law_comes_to.b (q_acons (qv .B 1) (q_acons (qv .B 2) (q_acons (qv .B 10) (q_acons (qv .B 7) (q_acons (qv .B 8) q_anil))))) (by decide) (by rfl) (by rfl)))) (by intro _; rfl))) (@q_tcmp _ _ _ _ _ _ _ _ _ _ _ _ op_gt (o2_I0 (g:=gGt) (fun _ _=>rfl) (fun _ _ _=>.bl)) (@q_cb _ _ _ _ _ _ _ _ _ _ _ _ _ _ K_len b_len (by rfl) B.len_ PySem.boot_len (q_acons (qv .B 10) q_anil) (by decide) (by decide) (by rfl) (by rfl)) q_int (by first | exact nomark _ | rfl)) (by rfl) (by decide) (by rfl) (by rfl) (by rfl) (by trivial) (by decide) (by decide) (by exact fun _ _=>rfl) (by exact fun _ _=>rfl) (by rfl) (by rfl) (by rfl) (by rfl) (by rfl) (by rfl) (by rfl) (by rfl) (by rfl) (by rfl) (by rfl) (by rfl)) (by intro _; rfl))))) (by intro _; rfl)) (q_last (q_ret (@q_cmp _ _ _ _ _ _ _ _ _ _ _ _ _ (op_eqD (hu64 hr)) (o2_eqD (neg:=false)) (qv .B 4) (qv .B 3) (by first | exact nomark _ | rfl))))))))))),
  c_body (n:=1) (Nl:=["_law_script", "_law_begin", "_law_moves", "_law_tree", "_law_handed", "_law_picks", "_law_k", "_law_cap", "_law_height_here", "_law_again_or_not", "_law_blocks"]) (.inl rfl) h⟩
end
theorem us0 {P:List Value→Prop} (h:P []):∀ us:List Value,us.length=0→P us:=fun us e=>by
 rw [List.length_eq_zero_iff.mp e]; exact h
theorem us1 {P:List Value→Prop} (h:∀ a0,P [a0]):∀ us:List Value,us.length=1→P us:=fun us e=>by
 cases us with
 | nil=>cases e
 | cons a us=>exact us0 (P:=fun us=>P (a::us)) (h a) us (Nat.succ.inj e)
theorem us2 {P:List Value→Prop} (h:∀ a0 a1,P [a0,a1]):∀ us:List Value,us.length=2→P us:=fun us e=>by
 cases us with
 | nil=>cases e
 | cons a us=>exact us1 (P:=fun us=>P (a::us)) (fun a1=>h a a1) us (Nat.succ.inj e)
theorem us3 {P:List Value→Prop} (h:∀ a0 a1 a2,P [a0,a1,a2]):∀ us:List Value,us.length=3→P us:=fun us e=>by
 cases us with
 | nil=>cases e
 | cons a us=>exact us2 (P:=fun us=>P (a::us)) (fun a1 a2=>h a a1 a2) us (Nat.succ.inj e)
theorem us4 {P:List Value→Prop} (h:∀ a0 a1 a2 a3,P [a0,a1,a2,a3]):∀ us:List Value,us.length=4→P us:=fun us e=>by
 cases us with
 | nil=>cases e
 | cons a us=>exact us3 (P:=fun us=>P (a::us)) (fun a1 a2 a3=>h a a1 a2 a3) us (Nat.succ.inj e)
theorem us5 {P:List Value→Prop} (h:∀ a0 a1 a2 a3 a4,P [a0,a1,a2,a3,a4]):∀ us:List Value,us.length=5→P us:=fun us e=>by
 cases us with
 | nil=>cases e
 | cons a us=>exact us4 (P:=fun us=>P (a::us)) (fun a1 a2 a3 a4=>h a a1 a2 a3 a4) us (Nat.succ.inj e)
noncomputable def Pk (K:PySem.W.Frag) (nm:Str) (st:Stmt) (f:Addr):Prop:=∃ (oc:Value) (od an:Option Addr) (sl:Array (Option Value)) (kV dc pm cd ct:Value),PySem.W.nsIn K mainGlobals nm=some (some (.ref f))∧K.lookup f=some ⟨oc,od,.func (PySem.W.fnOf nm nm (defArgs st) (defBody st) (defScope st) .none kV dc pm an cd ct),sl⟩∧PySem.W.codeIn K cd nm=true∧PySem.W.keepIn K (.ref f)=true
theorem pk_mk {K:PySem.W.Frag} {nm:Str} {st:Stmt} {f:Addr} {oc:Value} {od an:Option Addr} {sl:Array (Option Value)} {kV dc pm cd ct:Value} (a:PySem.W.nsIn K mainGlobals nm=some (some (.ref f))) (l:K.lookup f=some ⟨oc,od,.func (PySem.W.fnOf nm nm (defArgs st) (defBody st) (defScope st) .none kV dc pm an cd ct),sl⟩) (c:PySem.W.codeIn K cd nm=true) (k:PySem.W.keepIn K (.ref f)=true):Pk K nm st f:=⟨_,_,_,_,_,_,_,_,_,a,l,c,k⟩
theorem pk_def {K:PySem.W.Frag} {h:Heap} {mg:Str→Option Value} {nm:Str} {st:Stmt} {f:Addr} (ps:List Str) (X:K.In h) (G:h.Ns mainGlobals mg) (p:Pk K nm st f) (hb:∀ (kV doc pm:Value) (an:Option Addr) (cdv ct:Value) (us:List Value),us.length=ps.length→bindArgs (PySem.W.fnOf nm nm (defArgs st) (defBody st) (defScope st) .none kV doc pm an cdv ct) ⟨us,[]⟩=pure (ps.zip us)):∃ fd,Def K mg nm st ps f fd:=by
 obtain ⟨oc,od,an,sl,kV,dc,pm,cd,ct,a,l,c,k⟩:=p
 have F:=fun_mk (st:=st) l c k
 exact ⟨_,F,PySem.W.mg_of X G a,F.binds hb⟩
noncomputable def spLaw (K:PySem.W.Frag):Sp:=fun vs H Q _=>∃ (a:Addr) (ns:List Int),vs = [.ref a]∧SqL K H a (ns.map V.int)∧ns.length≤63∧∀ H',Q (.bl true) H'
theorem all_mk (hp:∀ ns:List Int,ns.length≤63→f_law [.scr (ns.map W.int)]=.ok (.bl true)) {l:PySem.W.OpenLaw} {w:World} {K:PySem.W.Frag} {h:Heap} {mg:Str→Option Value} {fa:Addr} (X:K.In h) (G:h.Ns mainGlobals mg) (hfa:mg "law" = some (.ref fa))
  {f0:Addr}
  {f1:Addr}
  {f2:Addr}
  {f3:Addr}
  {f4:Addr}
  {f5:Addr}
  {f6:Addr}
  {f7:Addr}
  {f8:Addr}
  {f9:Addr}
  {f10:Addr}
  {f11:Addr}
  {f12:Addr}
  {f13:Addr}
  {f14:Addr}
  {f15:Addr}
  {f16:Addr}
  {f17:Addr}
  {f18:Addr}
  {f19:Addr}
  {f20:Addr}
  {f21:Addr}
  {f22:Addr}
  {f23:Addr}
  {f24:Addr}
  {f25:Addr}
  {f26:Addr}
  {f27:Addr}
  {f28:Addr}
  {f29:Addr}
  {f30:Addr}
  {f31:Addr}
  {f32:Addr}
  {f33:Addr}
  {f34:Addr}
  {f35:Addr}
  (p0:Pk K "change" schange f0)
  (p1:Pk K "source" ssource f1)
  (p2:Pk K "least_over" sleast_over f2)
  (p3:Pk K "under" sunder f3)
  (p4:Pk K "under_any" sunder_any f4)
  (p5:Pk K "cap_able" scap_able f5)
  (p6:Pk K "cap_after" scap_after f6)
  (p7:Pk K "raised" sraised f7)
  (p8:Pk K "growth" sgrowth f8)
  (p9:Pk K "grow" sgrow f9)
  (p10:Pk K "way_back" sway_back f10)
  (p11:Pk K "hurdle" shurdle f11)
  (p12:Pk K "sum_of" ssum_of f12)
  (p13:Pk K "shifted" sshifted f13)
  (p14:Pk K "noughts" snoughts f14)
  (p15:Pk K "way" sway f15)
  (p16:Pk K "row_between" srow_between f16)
  (p17:Pk K "lifts_of" slifts_of f17)
  (p18:Pk K "unraised" sunraised f18)
  (p19:Pk K "climb" sclimb f19)
  (p20:Pk K "times_for" stimes_for f20)
  (p21:Pk K "wanted_ahead" swanted_ahead f21)
  (p22:Pk K "_law_cell_at" s_law_cell_at f22)
  (p23:Pk K "_law_draw" s_law_draw f23)
  (p24:Pk K "_law_numbers" s_law_numbers f24)
  (p25:Pk K "_law_scale" s_law_scale f25)
  (p26:Pk K "_law_moor" s_law_moor f26)
  (p27:Pk K "_law_some" s_law_some f27)
  (p28:Pk K "_law_turned" s_law_turned f28)
  (p29:Pk K "_law_knot" s_law_knot f29)
  (p30:Pk K "_law_whole" s_law_whole f30)
  (p31:Pk K "_law_is_block" s_law_is_block f31)
  (p32:Pk K "_law_gone" s_law_gone f32)
  (p33:Pk K "_law_comes_to" s_law_comes_to f33)
  (p34:Pk K "_law_height" s_law_height f34)
  (p35:Pk K "law" slaw f35)
  (z0:PySem.W.nsIn K mainGlobals "all" = some none)
  (z1:PySem.W.nsIn K mainGlobals "bool" = some none)
  (z2:PySem.W.nsIn K mainGlobals "int" = some none)
  (z3:PySem.W.nsIn K mainGlobals "isinstance" = some none)
  (z4:PySem.W.nsIn K mainGlobals "len" = some none)
  (z5:PySem.W.nsIn K mainGlobals "list" = some none)
  (z6:PySem.W.nsIn K mainGlobals "max" = some none)
  (z7:PySem.W.nsIn K mainGlobals "range" = some none)
  (z8:PySem.W.nsIn K mainGlobals "reversed" = some none)
  (z9:PySem.W.nsIn K mainGlobals "tuple" = some none)
  (z10:PySem.W.nsIn K mainGlobals "zip" = some none) :
  ∃ fd:FuncData,(∀ (s:Shared) (v:Value),BindsTo s fd ⟨[v],[]⟩ [("_law_script",v)])∧∀ base:Heap,K.In base→base.Ns mainGlobals mg→FnOk l.prog w K mg base CX0 7 fa fd ["_law_script"] (spLaw K):=by
 obtain ⟨oc,od,an,sl,kV,dc,pm,cd,ct,a,l0,c,k⟩:=p35
 have e:=hfa.symm.trans (PySem.W.mg_of X G a)
 have e2:f35=fa:=by cases e; rfl
 subst e2
 have B:Blt mg:=⟨PySem.W.mg_none_of X G z0,PySem.W.mg_none_of X G z1,PySem.W.mg_none_of X G z2,PySem.W.mg_none_of X G z3,PySem.W.mg_none_of X G z4,PySem.W.mg_none_of X G z5,PySem.W.mg_none_of X G z6,PySem.W.mg_none_of X G z7,PySem.W.mg_none_of X G z8,PySem.W.mg_none_of X G z9,PySem.W.mg_none_of X G z10⟩
 obtain ⟨fd0,D0⟩:=pk_def ["move"] X G p0 fun _ _ _ _ _ _=>us1 (fun _=>rfl)
 obtain ⟨fd1,D1⟩:=pk_def ["stand", "move"] X G p1 fun _ _ _ _ _ _=>us2 (fun _ _=>rfl)
 obtain ⟨fd2,D2⟩:=pk_def ["stand", "other"] X G p2 fun _ _ _ _ _ _=>us2 (fun _ _=>rfl)
 obtain ⟨fd3,D3⟩:=pk_def ["cap", "other"] X G p3 fun _ _ _ _ _ _=>us2 (fun _ _=>rfl)
 obtain ⟨fd4,D4⟩:=pk_def ["cap", "caps"] X G p4 fun _ _ _ _ _ _=>us2 (fun _ _=>rfl)
 obtain ⟨fd5,D5⟩:=pk_def ["cap", "move"] X G p5 fun _ _ _ _ _ _=>us2 (fun _ _=>rfl)
 obtain ⟨fd6,D6⟩:=pk_def ["cap", "move"] X G p6 fun _ _ _ _ _ _=>us2 (fun _ _=>rfl)
 obtain ⟨fd7,D7⟩:=pk_def ["cap", "elder"] X G p7 fun _ _ _ _ _ _=>us2 (fun _ _=>rfl)
 obtain ⟨fd8,D8⟩:=pk_def ["moor", "most"] X G p8 fun _ _ _ _ _ _=>us2 (fun _ _=>rfl)
 obtain ⟨fd9,D9⟩:=pk_def ["moor", "tree", "at", "number"] X G p9 fun _ _ _ _ _ _=>us4 (fun _ _ _ _=>rfl)
 obtain ⟨fd10,D10⟩:=pk_def ["tree", "number"] X G p10 fun _ _ _ _ _ _=>us2 (fun _ _=>rfl)
 obtain ⟨fd11,D11⟩:=pk_def ["moor", "row"] X G p11 fun _ _ _ _ _ _=>us2 (fun _ _=>rfl)
 obtain ⟨fd12,D12⟩:=pk_def ["moor", "row"] X G p12 fun _ _ _ _ _ _=>us2 (fun _ _=>rfl)
 obtain ⟨fd13,D13⟩:=pk_def ["stand", "step", "times"] X G p13 fun _ _ _ _ _ _=>us3 (fun _ _ _=>rfl)
 obtain ⟨fd14,D14⟩:=pk_def ["moor"] X G p14 fun _ _ _ _ _ _=>us1 (fun _=>rfl)
 obtain ⟨fd15,D15⟩:=pk_def ["tree", "number"] X G p15 fun _ _ _ _ _ _=>us2 (fun _ _=>rfl)
 obtain ⟨fd16,D16⟩:=pk_def ["tree", "elder", "number"] X G p16 fun _ _ _ _ _ _=>us3 (fun _ _ _=>rfl)
 obtain ⟨fd17,D17⟩:=pk_def ["moor", "tree", "number"] X G p17 fun _ _ _ _ _ _=>us3 (fun _ _ _=>rfl)
 obtain ⟨fd18,D18⟩:=pk_def ["moor", "tree", "number"] X G p18 fun _ _ _ _ _ _=>us3 (fun _ _ _=>rfl)
 obtain ⟨fd19,D19⟩:=pk_def ["moor", "tree", "number", "height"] X G p19 fun _ _ _ _ _ _=>us4 (fun _ _ _ _=>rfl)
 obtain ⟨fd20,D20⟩:=pk_def ["cap", "step", "places", "wanted"] X G p20 fun _ _ _ _ _ _=>us4 (fun _ _ _ _=>rfl)
 obtain ⟨fd21,D21⟩:=pk_def ["moor", "row", "times", "wanted"] X G p21 fun _ _ _ _ _ _=>us4 (fun _ _ _ _=>rfl)
 obtain ⟨fd22,D22⟩:=pk_def ["_law_script", "_law_k"] X G p22 fun _ _ _ _ _ _=>us2 (fun _ _=>rfl)
 obtain ⟨fd23,D23⟩:=pk_def ["_law_script", "_law_k", "_law_many"] X G p23 fun _ _ _ _ _ _=>us3 (fun _ _ _=>rfl)
 obtain ⟨fd24,D24⟩:=pk_def ["_law_script", "_law_at", "_law_places", "_law_menu", "_law_scale_here"] X G p24 fun _ _ _ _ _ _=>us5 (fun _ _ _ _ _=>rfl)
 obtain ⟨fd25,D25⟩:=pk_def ["_law_script"] X G p25 fun _ _ _ _ _ _=>us1 (fun _=>rfl)
 obtain ⟨fd26,D26⟩:=pk_def ["_law_script"] X G p26 fun _ _ _ _ _ _=>us1 (fun _=>rfl)
 obtain ⟨fd27,D27⟩:=pk_def ["_law_script", "_law_k"] X G p27 fun _ _ _ _ _ _=>us2 (fun _ _=>rfl)
 obtain ⟨fd28,D28⟩:=pk_def ["_law_stand", "_law_far"] X G p28 fun _ _ _ _ _ _=>us2 (fun _ _=>rfl)
 obtain ⟨fd29,D29⟩:=pk_def ["_law_script"] X G p29 fun _ _ _ _ _ _=>us1 (fun _=>rfl)
 obtain ⟨fd30,D30⟩:=pk_def ["_law_found"] X G p30 fun _ _ _ _ _ _=>us1 (fun _=>rfl)
 obtain ⟨fd31,D31⟩:=pk_def ["_law_block", "_law_count"] X G p31 fun _ _ _ _ _ _=>us2 (fun _ _=>rfl)
 obtain ⟨fd32,D32⟩:=pk_def ["_law_stand", "_law_moves", "_law_row", "_law_times"] X G p32 fun _ _ _ _ _ _=>us4 (fun _ _ _ _=>rfl)
 obtain ⟨fd33,D33⟩:=pk_def ["_law_begin", "_law_moves", "_law_blocks", "_law_cap", "_law_height_here"] X G p33 fun _ _ _ _ _ _=>us5 (fun _ _ _ _ _=>rfl)
 obtain ⟨fd34,D34⟩:=pk_def ["_law_script", "_law_k"] X G p34 fun _ _ _ _ _ _=>us2 (fun _ _=>rfl)
 have F35:=fun_mk (st:=slaw) l0 c k
 have D35:Def K mg "law" slaw ["_law_script"] f35 _:=⟨F35,PySem.W.mg_of X G a,F35.binds (ps:=["_law_script"]) fun _ _ _ _ _ _=>us1 (fun _=>rfl)⟩
 refine ⟨PySem.W.fnOf "law" "law" (defArgs slaw) (defBody slaw) (defScope slaw) .none kV dc pm an cd ct,fun s v=>.of_eq rfl,fun base _ _=>?_⟩
 have G0:FnOk l.prog w K mg base CX0 1 f0 _ ["move"] (spM K 1 .F (f_change)):=okchange D0 B 
 have G1:FnOk l.prog w K mg base CX0 1 f1 _ ["stand", "move"] (spM K 2 .F (f_source)):=oksource D1 B 
 have G2:FnOk l.prog w K mg base CX0 1 f2 _ ["stand", "other"] (spM K 2 .F (f_least_over)):=okleast_over D2 B 
 have G3:FnOk l.prog w K mg base CX0 1 f3 _ ["cap", "other"] (spM K 2 .F (f_under)):=okunder D3 B 
 have G4:FnOk l.prog w K mg base CX0 2 f4 _ ["cap", "caps"] (spM K 2 .F (f_under_any)):=okunder_any D4 B D3 G3
 have G5:FnOk l.prog w K mg base CX0 2 f5 _ ["cap", "move"] (spM K 2 .F (f_cap_able)):=okcap_able D5 B D3 G3
 have G6:FnOk l.prog w K mg base CX0 3 f6 _ ["cap", "move"] (spM K 2 .F (f_cap_after)):=okcap_after D6 B D5 G5 D0 G0
 have G7:FnOk l.prog w K mg base CX0 2 f7 _ ["cap", "elder"] (spM K 2 .F (f_raised)):=okraised D7 B D3 G3
 have G10:FnOk l.prog w K mg base CX0 1 f10 _ ["tree", "number"] (spM K 2 .F (f_way_back)):=okway_back D10 B 
 have G9:FnOk l.prog w K mg base CX0 4 f9 _ ["moor", "tree", "at", "number"] (spIO K 4 (f_grow)):=okgrow D9 B D6 G6 D10 G10 D5 G5 D7 G7 D4 G4
 have G8:FnOk l.prog w K mg base CX0 5 f8 _ ["moor", "most"] (spM K 2 .F (f_growth)):=okgrowth D8 B D9 G9
 have G14:FnOk l.prog w K mg base CX0 1 f14 _ ["moor"] (spM K 1 .F (f_noughts)):=oknoughts D14 B 
 have G11:FnOk l.prog w K mg base CX0 2 f11 _ ["moor", "row"] (spM K 2 .F (f_hurdle)):=okhurdle D11 B D14 G14 D1 G1
 have G13:FnOk l.prog w K mg base CX0 1 f13 _ ["stand", "step", "times"] (spM K 3 .F (f_shifted)):=okshifted D13 B 
 have G12:FnOk l.prog w K mg base CX0 2 f12 _ ["moor", "row"] (spM K 2 .F (f_sum_of)):=oksum_of D12 B D14 G14 D13 G13 D0 G0
 have G15:FnOk l.prog w K mg base CX0 2 f15 _ ["tree", "number"] (spM K 2 .F (f_way)):=okway D15 B D10 G10
 have G16:FnOk l.prog w K mg base CX0 3 f16 _ ["tree", "elder", "number"] (spM K 3 .F (f_row_between)):=okrow_between D16 B D15 G15
 have G18:FnOk l.prog w K mg base CX0 4 f18 _ ["moor", "tree", "number"] (spM K 3 .F (f_unraised)):=okunraised D18 B D6 G6
 have G17:FnOk l.prog w K mg base CX0 5 f17 _ ["moor", "tree", "number"] (spM K 3 .F (f_lifts_of)):=oklifts_of D17 B D18 G18 D10 G10 D7 G7
 have G21:FnOk l.prog w K mg base CX0 3 f21 _ ["moor", "row", "times", "wanted"] (spM K 4 .F (f_wanted_ahead)):=okwanted_ahead D21 B D11 G11 D12 G12 D2 G2 D13 G13
 have G20:FnOk l.prog w K mg base CX0 1 f20 _ ["cap", "step", "places", "wanted"] (spM K 4 .F (f_times_for)):=oktimes_for D20 B 
 have G19:FnOk l.prog w K mg base CX0 6 f19 _ ["moor", "tree", "number", "height"] (spM K 4 .F (f_climb)):=okclimb D19 B D10 G10 D18 G18 D21 G21 D17 G17 D16 G16 D20 G20 D12 G12
 have G22:FnOk l.prog w K mg base CX0 1 f22 _ ["_law_script", "_law_k"] (spM K 2 .F (f__law_cell_at)):=ok_law_cell_at D22 B 
 have G23:FnOk l.prog w K mg base CX0 2 f23 _ ["_law_script", "_law_k", "_law_many"] (spM K 3 .F (f__law_draw)):=ok_law_draw D23 B D22 G22
 have G24:FnOk l.prog w K mg base CX0 3 f24 _ ["_law_script", "_law_at", "_law_places", "_law_menu", "_law_scale_here"] (spM K 5 .F (f__law_numbers)):=ok_law_numbers D24 B D23 G23 D22 G22
 have G25:FnOk l.prog w K mg base CX0 3 f25 _ ["_law_script"] (spM K 1 .F (f__law_scale)):=ok_law_scale D25 B D23 G23 D22 G22
 have G26:FnOk l.prog w K mg base CX0 4 f26 _ ["_law_script"] (spM K 1 .F (f__law_moor)):=ok_law_moor D26 B D25 G25 D23 G23 D24 G24 D22 G22
 have G27:FnOk l.prog w K mg base CX0 3 f27 _ ["_law_script", "_law_k"] (spM K 2 .F (f__law_some)):=ok_law_some D27 B D23 G23 D22 G22
 have G28:FnOk l.prog w K mg base CX0 1 f28 _ ["_law_stand", "_law_far"] (spM K 2 .F (f__law_turned)):=ok_law_turned D28 B 
 have G29:FnOk l.prog w K mg base CX0 4 f29 _ ["_law_script"] (spM K 1 .F (f__law_knot)):=ok_law_knot D29 B D23 G23 D27 G27 D28 G28
 have G30:FnOk l.prog w K mg base CX0 1 f30 _ ["_law_found"] (spM K 1 .F (f__law_whole)):=ok_law_whole D30 B 
 have G31:FnOk l.prog w K mg base CX0 2 f31 _ ["_law_block", "_law_count"] (spM K 2 .F (f__law_is_block)):=ok_law_is_block D31 B D30 G30
 have G32:FnOk l.prog w K mg base CX0 1 f32 _ ["_law_stand", "_law_moves", "_law_row", "_law_times"] (spM K 4 .F (f__law_gone)):=ok_law_gone D32 B 
 have G33:FnOk l.prog w K mg base CX0 3 f33 _ ["_law_begin", "_law_moves", "_law_blocks", "_law_cap", "_law_height_here"] (spM K 5 .F (f__law_comes_to)):=ok_law_comes_to D33 B D32 G32 D31 G31
 have G34:FnOk l.prog w K mg base CX0 3 f34 _ ["_law_script", "_law_k"] (spM K 2 .F (f__law_height)):=ok_law_height D34 B D23 G23 D22 G22
 have G35:FnOk l.prog w K mg base CX0 7 f35 _ ["_law_script"] (spM K 1 .F (f_law)):=oklaw D35 B D26 G26 D8 G8 D23 G23 D29 G29 D34 G34 D19 G19 D33 G33
 exact law_of G35 hp
end K43
set_option Elab.async false
open PySem PySem.W PyProof.Rows
set_option maxRecDepth 100000 in
set_option maxHeartbeats 0 in
theorem PySem.Challenge.cw_tokenmoor_k43_a_climb_goes_holds : PySem.Challenge.rw_tokenmoor_k43_a_climb_goes.Holds := by
 w_on; o_law; k_head; (case hw=>w_witness2)
 k_fill
 refine L2.walk_ofK (l:=PySem.Challenge.rw_tokenmoor_k43_a_climb_goes) (n:=63) (k:=7) (x := "_law_script") (CX:=L2.CX0) (sp:=K43.spLaw) rfl (by decide) rfl ⟨rfl,by decide,by decide⟩ (fun w h Y=>PySem.W.kIn_of Y) ?F ?S ?C
 case F=>
  intro w mg fa h KX G hmg
  refine' K43.all_mk K43.law_pure KX G hmg ?p0 ?p1 ?p2 ?p3 ?p4 ?p5 ?p6 ?p7 ?p8 ?p9 ?p10 ?p11 ?p12 ?p13 ?p14 ?p15 ?p16 ?p17 ?p18 ?p19 ?p20 ?p21 ?p22 ?p23 ?p24 ?p25 ?p26 ?p27 ?p28 ?p29 ?p30 ?p31 ?p32 ?p33 ?p34 ?p35 ?z0 ?z1 ?z2 ?z3 ?z4 ?z5 ?z6 ?z7 ?z8 ?z9 ?z10
  (case p0=>refine' K43.pk_mk ?a ?l ?c ?k; (case a=>k_is); (case l=>k_is); (case c=>k_is); (case k=>k_is))
  (case p1=>refine' K43.pk_mk ?a ?l ?c ?k; (case a=>k_is); (case l=>k_is); (case c=>k_is); (case k=>k_is))
  (case p2=>refine' K43.pk_mk ?a ?l ?c ?k; (case a=>k_is); (case l=>k_is); (case c=>k_is); (case k=>k_is))
  (case p3=>refine' K43.pk_mk ?a ?l ?c ?k; (case a=>k_is); (case l=>k_is); (case c=>k_is); (case k=>k_is))
  (case p4=>refine' K43.pk_mk ?a ?l ?c ?k; (case a=>k_is); (case l=>k_is); (case c=>k_is); (case k=>k_is))
  (case p5=>refine' K43.pk_mk ?a ?l ?c ?k; (case a=>k_is); (case l=>k_is); (case c=>k_is); (case k=>k_is))
  (case p6=>refine' K43.pk_mk ?a ?l ?c ?k; (case a=>k_is); (case l=>k_is); (case c=>k_is); (case k=>k_is))
  (case p7=>refine' K43.pk_mk ?a ?l ?c ?k; (case a=>k_is); (case l=>k_is); (case c=>k_is); (case k=>k_is))
  (case p8=>refine' K43.pk_mk ?a ?l ?c ?k; (case a=>k_is); (case l=>k_is); (case c=>k_is); (case k=>k_is))
  (case p9=>refine' K43.pk_mk ?a ?l ?c ?k; (case a=>k_is); (case l=>k_is); (case c=>k_is); (case k=>k_is))
  (case p10=>refine' K43.pk_mk ?a ?l ?c ?k; (case a=>k_is); (case l=>k_is); (case c=>k_is); (case k=>k_is))
  (case p11=>refine' K43.pk_mk ?a ?l ?c ?k; (case a=>k_is); (case l=>k_is); (case c=>k_is); (case k=>k_is))
  (case p12=>refine' K43.pk_mk ?a ?l ?c ?k; (case a=>k_is); (case l=>k_is); (case c=>k_is); (case k=>k_is))
  (case p13=>refine' K43.pk_mk ?a ?l ?c ?k; (case a=>k_is); (case l=>k_is); (case c=>k_is); (case k=>k_is))
  (case p14=>refine' K43.pk_mk ?a ?l ?c ?k; (case a=>k_is); (case l=>k_is); (case c=>k_is); (case k=>k_is))
  (case p15=>refine' K43.pk_mk ?a ?l ?c ?k; (case a=>k_is); (case l=>k_is); (case c=>k_is); (case k=>k_is))
  (case p16=>refine' K43.pk_mk ?a ?l ?c ?k; (case a=>k_is); (case l=>k_is); (case c=>k_is); (case k=>k_is))
  (case p17=>refine' K43.pk_mk ?a ?l ?c ?k; (case a=>k_is); (case l=>k_is); (case c=>k_is); (case k=>k_is))
  (case p18=>refine' K43.pk_mk ?a ?l ?c ?k; (case a=>k_is); (case l=>k_is); (case c=>k_is); (case k=>k_is))
  (case p19=>refine' K43.pk_mk ?a ?l ?c ?k; (case a=>k_is); (case l=>k_is); (case c=>k_is); (case k=>k_is))
  (case p20=>refine' K43.pk_mk ?a ?l ?c ?k; (case a=>k_is); (case l=>k_is); (case c=>k_is); (case k=>k_is))
  (case p21=>refine' K43.pk_mk ?a ?l ?c ?k; (case a=>k_is); (case l=>k_is); (case c=>k_is); (case k=>k_is))
  (case p22=>refine' K43.pk_mk ?a ?l ?c ?k; (case a=>k_is); (case l=>k_is); (case c=>k_is); (case k=>k_is))
  (case p23=>refine' K43.pk_mk ?a ?l ?c ?k; (case a=>k_is); (case l=>k_is); (case c=>k_is); (case k=>k_is))
  (case p24=>refine' K43.pk_mk ?a ?l ?c ?k; (case a=>k_is); (case l=>k_is); (case c=>k_is); (case k=>k_is))
  (case p25=>refine' K43.pk_mk ?a ?l ?c ?k; (case a=>k_is); (case l=>k_is); (case c=>k_is); (case k=>k_is))
  (case p26=>refine' K43.pk_mk ?a ?l ?c ?k; (case a=>k_is); (case l=>k_is); (case c=>k_is); (case k=>k_is))
  (case p27=>refine' K43.pk_mk ?a ?l ?c ?k; (case a=>k_is); (case l=>k_is); (case c=>k_is); (case k=>k_is))
  (case p28=>refine' K43.pk_mk ?a ?l ?c ?k; (case a=>k_is); (case l=>k_is); (case c=>k_is); (case k=>k_is))
  (case p29=>refine' K43.pk_mk ?a ?l ?c ?k; (case a=>k_is); (case l=>k_is); (case c=>k_is); (case k=>k_is))
  (case p30=>refine' K43.pk_mk ?a ?l ?c ?k; (case a=>k_is); (case l=>k_is); (case c=>k_is); (case k=>k_is))
  (case p31=>refine' K43.pk_mk ?a ?l ?c ?k; (case a=>k_is); (case l=>k_is); (case c=>k_is); (case k=>k_is))
  (case p32=>refine' K43.pk_mk ?a ?l ?c ?k; (case a=>k_is); (case l=>k_is); (case c=>k_is); (case k=>k_is))
  (case p33=>refine' K43.pk_mk ?a ?l ?c ?k; (case a=>k_is); (case l=>k_is); (case c=>k_is); (case k=>k_is))
  (case p34=>refine' K43.pk_mk ?a ?l ?c ?k; (case a=>k_is); (case l=>k_is); (case c=>k_is); (case k=>k_is))
  (case p35=>refine' K43.pk_mk ?a ?l ?c ?k; (case a=>k_is); (case l=>k_is); (case c=>k_is); (case k=>k_is))
  (case z0=>k_is)
  (case z1=>k_is)
  (case z2=>k_is)
  (case z3=>k_is)
  (case z4=>k_is)
  (case z5=>k_is)
  (case z6=>k_is)
  (case z7=>k_is)
  (case z8=>k_is)
  (case z9=>k_is)
  (case z10=>k_is)
 case S=>exact fun K H a ns hl hO hS=>⟨a,ns,rfl,hS,hl,fun _=>rfl⟩
 case C=>exact fun _ _ _ _ z=>z
