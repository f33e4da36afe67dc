import PyProof.Rows.All
import Wide.All
import OpenK.AllK
import Wide.FinOn
import Lean
import PyProof.EqAt
import PyProof.EqKinds
import PyProof.TupleCall
import PyProof.ZipIter
import PyProof.TupleIter
import PyProof.WalksMore
import PyProof.EnumMake
import PyProof.Draws
import PyProof.P3In
import KE.KSortTup
import PyProof.Rows.SortWalk
import KE.IntBitsLaws
import KE.KRevIter
import PyProof.TupleOfGen
import PyProof.Rows.FStr
import PyProof.StrCalls2
import PyProof.StrBlockH
import PyProof.Rows.StrRules
import KE.KIntText
import KE.KDictList
import PyProof.StrWalks
import PyProof.DictWalks
import PyProof.MeetsDict
import PyProof.DictValues
import PyProof.Rows.Range3
import PySem.Challenge.RW_tokenmoor_k90_texts_of_moors
open PySem.W (Frag)
set_option Elab.async false
set_option linter.all false
set_option maxRecDepth 100000
theorem Z1 {p q:Prop} (a:p) (b:q):p/\q:=⟨a,b⟩
noncomputable section
local macro_rules | `(tactic| omega)=>`(tactic| first | with_reducible assumption | decide | lia)
set_option genSizeOf false
set_option genSizeOfSpec false
namespace L2
open PySem PySem.Spec PyProof.Rows
abbrev Key:=Sum Int Str
def keyIs:Key->Value->Bool
 | .inl k,v=>Value.isInt k v
 | .inr x,v=>Value.isStrOf x v
def keyH (w:World):Key->Int
 | .inl k=>hashInt k
 | .inr x=>hashStr w x
theorem keyIs_shape:∀ {k:Key} {v:Value},keyIs k v=true->(∃ i t,k=Sum.inl i/\v=Value.int i t)\/(∃ x t,k=Sum.inr x/\v=Value.str x t)
 | .inl i,v,h=>by
  obtain ⟨t,e⟩:=Value.isInt_shape (k:=i) (v:=v) h
  exact .inl ⟨i,t,rfl,e⟩
 | .inr x,v,h=>by
  obtain ⟨t,e⟩:=Value.isStrOf_shape (x:=x) (v:=v) h
  exact .inr ⟨x,t,rfl,e⟩
theorem keyIs_int (i:Int) (t:Tok):keyIs (.inl i) (.int i t)=true:=by simp [keyIs,Value.isInt]
theorem keyIs_str (x:Str) (t:Tok):keyIs (.inr x) (.str x t)=true:=by simp [keyIs,Value.isStrOf]
theorem key_ll (a b:Int):decide ((Sum.inl a:Key)=Sum.inl b)=(a == b):=by
 by_cases e:a=b
 ·subst e; simp
 ·have h:¬ (Sum.inl a:Key)=Sum.inl b:=fun q=>e (Sum.inl.inj q)
  rw [decide_eq_false h]
  exact (beq_eq_false_iff_ne.mpr e).symm
theorem key_rr (a b:Str):decide ((Sum.inr a:Key)=Sum.inr b)=decide (a=b):=by
 by_cases e:a=b
 ·subst e; simp
 ·have h:¬ (Sum.inr a:Key)=Sum.inr b:=fun q=>e (Sum.inr.inj q)
  rw [decide_eq_false h,decide_eq_false e]
theorem key_lr (a:Int) (b:Str):decide ((Sum.inl a:Key)=Sum.inr b)=false:=decide_eq_false (fun q=>nomatch q)
theorem key_rl (a:Str) (b:Int):decide ((Sum.inr a:Key)=Sum.inl b)=false:=decide_eq_false (fun q=>nomatch q)
def mixKind (prog:Program) (w:World):PySem.KeyKind prog w Key where
 is:=keyIs
 hash:=keyH w
 inj:=fun v a b ha hb=>by
  rcases keyIs_shape ha with ⟨i,t,rfl,rfl⟩ | ⟨x,t,rfl,rfl⟩
  ·rcases keyIs_shape hb with ⟨j,u,rfl,e⟩ | ⟨y,u,rfl,e⟩
   ·injection e with e1 _; rw [e1]
   ·exact nomatch e
  ·rcases keyIs_shape hb with ⟨j,u,rfl,e⟩ | ⟨y,u,rfl,e⟩
   ·exact nomatch e
   ·injection e with e1 _; rw [e1]
 byValue:=fun k v h=>by
  rcases keyIs_shape h with ⟨i,t,rfl,rfl⟩ | ⟨x,t,rfl,rfl⟩ <;> rfl
 pyHash:=fun hv h=>by
  rcases keyIs_shape hv with ⟨i,t,rfl,rfl⟩ | ⟨x,t,rfl,rfl⟩
  ·exact wpAny_pyHash_int h
  ·exact wpAny_pyHash_str h
 eqBool:=fun hu hv h=>by
  rcases keyIs_shape hu with ⟨i,t,rfl,rfl⟩ | ⟨x,t,rfl,rfl⟩
  ·rcases keyIs_shape hv with ⟨j,u,rfl,rfl⟩ | ⟨y,u,rfl,rfl⟩
   ·rw [key_ll] at h; exact wpAny_eqBool_int h
   ·rw [key_lr] at h; exact SeqAt.EqAt.int_str i t y u _ _ _ _ h
  ·rcases keyIs_shape hv with ⟨j,u,rfl,rfl⟩ | ⟨y,u,rfl,rfl⟩
   ·rw [key_rl] at h; exact SeqAt.EqAt.str_int x t j u _ _ _ _ h
   ·rw [key_rr] at h; exact wpAny_eqBool_str h
 «strs»:=fun k x t v h=>by
  rcases keyIs_shape h with ⟨i,u,rfl,e⟩ | ⟨y,u,rfl,e⟩
  ·exact nomatch e
  ·injection e with e1 _
   subst e1
   cases v <;> rfl
theorem mixKind_int (prog:Program) (w:World) (i:Int) (t:Tok):(mixKind prog w).is (.inl i) (.int i t)=true:=keyIs_int i t
theorem mixKind_str (prog:Program) (w:World) (x:Str) (t:Tok):(mixKind prog w).is (.inr x) (.str x t)=true:=keyIs_str x t
end L2
namespace L2
open PySem PySem.Spec PyProof.Rows
inductive V where
 | non | bl (b:Bool) | int (i:Int) | str (x:Str) | byt (b:Array UInt8) | flt (b:UInt64) | ref (a:Addr) | ty (n:String)
 deriving DecidableEq
def RelV:V->Value->Prop
 | .non,u=>u=Value.none
 | .bl b,u=>u=Value.bool b
 | .int i,u=>∃ t,u=Value.int i t
 | .str x,u=>∃ t,u=Value.str x t
 | .byt b,u=>∃ t,u=Value.bytes b t
 | .flt b,u=>∃ t,u=Value.float b t
 | .ref a,u=>u=Value.ref a
 | .ty n,u=>u=Value.type n
abbrev Vals:List V->List Value->Prop:=Paired RelV
theorem Vals.length {xs:List V} {us:List Value} (r:Vals xs us):xs.length=us.length:=Paired.length r
theorem Vals.get:∀ {xs:List V} {us:List Value} {i:Nat} {x:V},Vals xs us->xs[i]?=some x->∃ u,us[i]?=some u/\RelV x u:=by
 intro xs us i x a
 induction a generalizing i with
 | nil=>intro e; cases e
 | cons r t ih=>
  intro e
  cases i with
  | zero=>cases e; exact ⟨_,rfl,r⟩
  | succ i=>exact ih e
theorem Vals.append:∀ {xs ys:List V} {us ws:List Value},Vals xs us->Vals ys ws->Vals (xs++ys) (us++ws):=by
 intro xs ys us ws a s
 induction a with
 | nil=>exact s
 | cons r t ih=>exact .cons r ih
theorem Vals.take:∀ {xs:List V} {us:List Value} (n:Nat),Vals xs us->Vals (xs.take n) (us.take n):=by
 intro xs us n h
 induction h generalizing n with
 | nil=>cases n <;> exact .nil
 | cons r t ih=>
  cases n with
  | zero=>exact .nil
  | succ n=>exact .cons r (ih n)
theorem Vals.drop:∀ {xs:List V} {us:List Value} (n:Nat),Vals xs us->Vals (xs.drop n) (us.drop n)
 | _,_,0,r=>r
 | _,_,_+1,.nil=>.nil
 | _,_,n+1,.cons _ t=>Vals.drop n t
def RelO:Option V->Option Value->Prop
 | some v,some u=>RelV v u
 | none,none=>True
 | _,_=>False
def KV {κ:Type}:List (κ×V)->List (κ×Value)->Prop:=Paired fun (p:κ×V) (q:κ×Value)=>p.1=q.1/\RelV p.2 q.2
def kV:Key->V
 | .inl i=>.int i
 | .inr x=>.str x
inductive HO where
 | lst (xs:List V)
 | tup (xs:List V)
 | dK (kvs:List (Key×V)) | dT (kvs:List (List Key×V))
 | set (S:Int->Bool) (n:Nat)
 | ins (C dx:Addr) (fs:List (Str×V))
 | own (x:Addr)
 | xd (fs:List (Str×V))
 | met (f x:Addr)
 | rng (lo hi:Int)
 | frz (o:Obj) (u:HO)
 | tbl (ps:Array Value)
 | ext (φ:Heap->Prop)
abbrev Hp:=Addr->Option HO
def upd (H:Hp) (a:Addr) (o:HO):Hp:=fun b=>if b=a then some o else H b
theorem upd_same {H:Hp} {a:Addr} {o:HO}:upd H a o a=some o:=by unfold upd; rw [if_pos rfl]
theorem upd_ne {H:Hp} {a b:Addr} {o:HO} (h:b≠a):upd H a o b=H b:=by unfold upd; rw [if_neg h]
theorem ne_of {H:Hp} {a b:Addr} {o u:HO} (h:H a=some o) (h':H b=some u) (d:o≠u):a≠b:=by
 intro e; subst e; rw [h] at h'; exact d (Option.some.inj h')
theorem ne_of_none {H:Hp} {a b:Addr} {o:HO} (h:H a=some o) (h':H b=none):a≠b:=by
 intro e; subst e; rw [h] at h'; cases h'
section
variable (P:Program) (w:World)
def ObjOk (H:Hp) (h:Heap) (a:Addr):HO->Prop
 | .lst xs=>xs.length<=sizeLine/\∃ (its:List Value) (n:Nat),Vals xs its/\h.get? a=some { cls:=.type "list",data:=.seq its.toArray n }
 | .tup xs=>xs.length<=sizeLine/\∃ its:List Value,Vals xs its/\IsTup h a its.toArray
 | .dK kvs=>kvs.length<=sizeLine/\(a == sysModules)=false/\∃ vs,KV kvs vs/\h.DictOf (mixKind P w) a vs
 | .dT kvs=>kvs.length<=sizeLine/\(a == sysModules)=false/\∃ xs:List (List Key×Addr×Value),
   Paired (fun (p:List Key×V) (q:List Key×Addr×Value)=>p.1=q.1/\H q.2.1=some (.tup (p.1.map kV))/\RelV p.2 q.2.2) kvs xs /\
   ∃ o es ep,h.get? a=some o/\o.ExactDict/\o.data=.dict es ep/\es.toList=xs.map (entryOfKey (tupleKind (mixKind P w)))/\(xs.map (·.1)).Nodup
 | .set S n=>h.SetOf (intKind P w) a S n
 | .ins C dx fs=>H dx=some (.own a)/\fs.length<=1000/\dx≠a/\h.get? a=some (PySem.W.instObj C dx) /\
   ∃ mA,h.Ns1 dx mA/\(∀ f,RelO (fs.lookup f) (mA f))/\PySem.Within mA (fs.map (·.1))
 | .own _=>∃ o,h.get? a=some o
 | .xd fs=>∃ mA,h.Ns1 a mA/\∀ f,RelO (fs.lookup f) (mA f)
 | .rng lo hi=>∃ t u v,h.get? a=some { cls:=.type "range",data:=.fields #[.int lo t,.int hi u,.int 1 v] }
 | .frz o u=>h.get? a=some o/\ObjOk H h a u
 | .tbl ps=>h.get? a=some { cls:=.none,data:=.fields ps }
 | .met f x=>h.get? a=some (PySem.W.methodObj (.ref f) (.ref x))
 | .ext φ=>φ h/\(∃ o,h.get? a=some o)/\∀ h1 h2:Heap,φ h1->(∀ o,h1.get? a=some o->h2.get? a=some o)->φ h2
def HOk (H:Hp) (h:Heap):Prop:=∀ a o,H a=some o->ObjOk P w H h a o
end
section
variable {P:Program} {w:World} {H H':Hp} {h h':Heap} {a:Addr} {o:HO}
theorem ObjOk.lt (x:ObjOk P w H h a o):a<h.objs.size:=by
 cases o with
 | lst xs=>obtain ⟨_,_,_,_,e⟩:=x; exact Heap.lt_size e
 | tup xs=>obtain ⟨_,_,_,p⟩:=x; exact p.lt
 | dK kvs=>obtain ⟨_,_,_,_,o,_,_,e,_⟩:=x; exact Heap.lt_size e
 | dT kvs=>obtain ⟨_,_,_,_,o,_,_,e,_⟩:=x; exact Heap.lt_size e
 | set S n=>obtain ⟨o,_,_,_,e,_⟩:=x; exact Heap.lt_size e
 | ins C dx fs=>obtain ⟨_,_,_,e,_⟩:=x; exact Heap.lt_size e
 | own y=>obtain ⟨_,e⟩:=x; exact Heap.lt_size e
 | xd fs=>obtain ⟨_,⟨_,_,_,e,_⟩,_⟩:=x; exact Heap.lt_size e
 | rng lo hi=>obtain ⟨_,_,_,e⟩:=x; exact Heap.lt_size e
 | frz ob u=>obtain ⟨e,_⟩:=x; exact Heap.lt_size e
 | tbl ps=>exact Heap.lt_size (show h.get? a=some _ from x)
 | met f y=>exact Heap.lt_size (show h.get? a=some _ from x)
 | ext φ=>obtain ⟨_,⟨_,e⟩,_⟩:=x; exact Heap.lt_size e
theorem Paired.mapP {α β:Type} {F G:α->β->Prop}:∀ {l₁:List α} {l₂:List β},Paired F l₁ l₂->(∀ a b,F a b->G a b)->Paired G l₁ l₂:=by
 intro l₁ l₂ h f
 induction h with
 | nil=>exact .nil
 | cons r t ih=>exact .cons (f _ _ r) ih
theorem ObjOk.stay (x:ObjOk P w H h a o) (k:∀ b u,(b=a\/H b=some (.own a))->h.get? b=some u->h'.get? b=some u)
  (ho:∀ b,H b=some (.own a)->H' b=some (.own a)) (ht:∀ b xs,H b=some (.tup xs)->H' b=some (.tup xs)):ObjOk P w H' h' a o:=by
 induction o with
 | lst xs=>obtain ⟨z,its,n,r,e⟩:=x; exact ⟨z,its,n,r,k _ _ (.inl rfl) e⟩
 | tup xs=>obtain ⟨z,its,r,ob,e,c⟩:=x; exact ⟨z,its,r,ob,k _ _ (.inl rfl) e,c⟩
 | dK kvs=>obtain ⟨z,y,vs,r,ob,es,ep,e,c⟩:=x; exact ⟨z,y,vs,r,ob,es,ep,k _ _ (.inl rfl) e,c⟩
 | dT kvs=>
  obtain ⟨z,y,xs,r,ob,es,ep,e,c⟩:=x
  exact ⟨z,y,xs,Paired.mapP r fun p q z=>⟨z.1,ht _ _ z.2.1,z.2.2⟩,ob,es,ep,k _ _ (.inl rfl) e,c⟩
 | set S n=>obtain ⟨ob,es,ep,t,e,c⟩:=x; exact ⟨ob,es,ep,t,k _ _ (.inl rfl) e,c⟩
 | ins C dx fs=>
  obtain ⟨d,z,ne,e,mA,⟨od,es,ep,e2,c⟩,r⟩:=x
  exact ⟨ho _ d,z,ne,k _ _ (.inl rfl) e,mA,⟨od,es,ep,k _ _ (.inr d) e2,c⟩,r⟩
 | own y=>obtain ⟨ob,e⟩:=x; exact ⟨ob,k _ _ (.inl rfl) e⟩
 | xd fs=>obtain ⟨mA,⟨od,es,ep,e,c⟩,r⟩:=x; exact ⟨mA,⟨od,es,ep,k _ _ (.inl rfl) e,c⟩,r⟩
 | rng lo hi=>obtain ⟨t,u,v,e⟩:=x; exact ⟨t,u,v,k _ _ (.inl rfl) e⟩
 | frz ob u ih=>obtain ⟨e,q⟩:=x; exact ⟨k _ _ (.inl rfl) e,ih q⟩
 | tbl ps=>
  have e:h.get? a=some { cls:=.none,data:=.fields ps }:=x
  show h'.get? a=some { cls:=.none,data:=.fields ps }
  exact k a _ (.inl rfl) e
 | met f y=>
  have e:h.get? a=some (PySem.W.methodObj (.ref f) (.ref y)):=x
  show h'.get? a=some (PySem.W.methodObj (.ref f) (.ref y))
  exact k a _ (.inl rfl) e
 | ext φ=>obtain ⟨p,⟨o,e⟩,st⟩:=x; exact ⟨st _ _ p fun o q=>k _ _ (.inl rfl) q,⟨o,k _ _ (.inl rfl) e⟩,st⟩
theorem HOk.lt (x:HOk P w H h) (e:H a=some o):a<h.objs.size:=(x a o e).lt
theorem HOk.fresh (x:HOk P w H h) (e:h.objs.size<=a):H a=none:=by
 cases q:H a with
 | none=>rfl
 | some u=>exact absurd (Nat.lt_of_lt_of_le (x.lt q) e) (Nat.lt_irrefl _)
theorem HOk.kept (x:HOk P w H h) (k:∀ b u,h.get? b=some u->h'.get? b=some u):HOk P w H h':=fun a o e=>
 (x a o e).stay (fun b u _ q=>k b u q) (fun _ q=>q) fun _ _ q=>q
theorem HOk.laid (x:HOk P w H h) (k:∀ b u,h.get? b=some u->h'.get? b=some u) (hp:h.objs.size<=a) (new:ObjOk P w (upd H a o) h' a o):HOk P w (upd H a o) h':=fun b u e=>by
 have hn:=x.fresh hp
 by_cases hb:b=a
 ·subst hb; rw [upd_same] at e; cases e; exact new
 ·rw [upd_ne hb] at e
  exact (x b u e).stay (fun c v _ q=>k c v q) (fun c q=>by rw [upd_ne (ne_of_none q hn)]; exact q) fun c xs q=>by rw [upd_ne (ne_of_none q hn)]; exact q
end
def Rd (H:Hp) (a:Addr) (u:HO):Prop:=H a=some u\/∃ o,H a=some (.frz o u)
theorem Rd.ok {P:Program} {w:World} {H:Hp} {h:Heap} {a:Addr} {u:HO} (r:Rd H a u) (x:HOk P w H h):ObjOk P w H h a u:=by
 rcases r with r | ⟨o,r⟩
 ·exact x a u r
 ·obtain ⟨_,q⟩:=x a _ r
  exact q
def Mut:Option HO->Prop
 | some (.lst _)=>True
 | some (.dK _)=>True
 | some (.dT _)=>True
 | some (.set _ _)=>True
 | some (.ins _ _ _)=>True
 | some (.ext _)=>True
 | _=>False
section
variable {P:Program} {w:World} {H:Hp} {h h':Heap} {x e:Addr} {o':HO}
theorem HOk.write (ok:HOk P w H h) (mu:Mut (H x)) (he:e=x\/H e=some (.own x)) (k:∀ b u,b≠e->h.get? b=some u->h'.get? b=some u) (heo:∃ u,h'.get? e=some u)
  (new:ObjOk P w (upd H x o') h' x o'):HOk P w (upd H x o') h':=fun b u q=>by
 have nown:∀ c y,H c=some (.own y)->c≠x:=fun c y r z=>by subst z; rw [r] at mu; exact mu
 have ntup:∀ c xs,H c=some (.tup xs)->c≠x:=fun c xs r z=>by subst z; rw [r] at mu; exact mu
 by_cases hb:b=x
 ·subst hb; rw [upd_same] at q; cases q; exact new
 ·rw [upd_ne hb] at q
  by_cases hbe:b=e
  ·have q':H b=some (.own x):=by
    rcases he with z | z
    ·exact absurd (hbe.trans z) hb
    ·rw [hbe]; exact z
   rw [q] at q'; cases q'
   obtain ⟨v,hv⟩:=heo
   exact ⟨v,by rw [hbe]; exact hv⟩
  ·refine (ok b u q).stay (fun c v hc r=>k c v ?_ r) (fun c r=>by rw [upd_ne (nown c b r)]; exact r) fun c xs r=>by rw [upd_ne (ntup c xs r)]; exact r
   rcases hc with rfl | hc
   ·exact hbe
   ·rintro rfl
    rcases he with z | z
    ·exact nown c b hc z
    ·rw [hc] at z; cases z; exact hb rfl
end
structure Un (fs ex:List Addr) (H H':Hp) (h h':Heap):Prop where
 keep:∀ b o,h.get? b=some o->H b=none->b∉fs->b∉ex->h'.get? b=some o
 slot:∀ b o,h.get? b=some o->H b=none->b∈fs->b∉ex->∃ sl,h'.get? b=some { o with slots:=sl }
 free:∀ b o,h.get? b=some o->H b=none->b∉ex->H' b=none
 there:∀ b o,h.get? b=some o->b∉ex->∃ o',h'.get? b=some o'
 tups:∀ b xs,H b=some (.tup xs)->H' b=some (.tup xs)
 frzs:∀ b o u,H b=some (.frz o u)->H' b=some (.frz o u)
 tbls:∀ b ps,H b=some (.tbl ps)->∃ more,H' b=some (.tbl (ps++more))
section
variable {fs fs' ex ex':List Addr} {H H1 H2:Hp} {h h1 h2 h':Heap} {a x e:Addr} {o:HO}
theorem Un.any (u:Un fs ex H H1 h h1) {b:Addr} {ob:Obj} (q:h.get? b=some ob) (n:H b=none) (hx:b∉ex):∃ sl,h1.get? b=some { ob with slots:=sl }:=by
 by_cases hb:b∈fs
 ·exact u.slot b ob q n hb hx
 ·exact ⟨ob.slots,u.keep b ob q n hb hx⟩
theorem Un.kept (k:∀ b u,h.get? b=some u->h'.get? b=some u):Un fs ex H H h h':=
 ⟨fun b ob q _ _ _=>k b ob q,fun b ob q _ _ _=>⟨ob.slots,k b ob q⟩,fun _ _ _ n _=>n,fun b ob q _=>⟨ob,k b ob q⟩,fun _ _ q=>q,fun _ _ _ q=>q,fun _ ps q=>⟨#[],by rw [q]; simp⟩⟩
theorem Un.refl:Un fs ex H H h h:=Un.kept fun _ _ q=>q
theorem Un.laid (k:∀ b u,h.get? b=some u->h'.get? b=some u) (hp:h.objs.size<=a) (hn:H a=none):Un fs ex H (upd H a o) h h' where
 keep:=fun b u q _ _ _=>k b u q
 slot:=fun b u q _ _ _=>⟨u.slots,k b u q⟩
 free:=fun b u q n _=>by rw [upd_ne (Nat.ne_of_lt (Nat.lt_of_lt_of_le (Heap.lt_size q) hp))]; exact n
 there:=fun b u q _=>⟨u,k b u q⟩
 tups:=fun b xs q=>by rw [upd_ne (ne_of_none q hn)]; exact q
 frzs:=fun b u xs q=>by rw [upd_ne (ne_of_none q hn)]; exact q
 tbls:=fun b ps q=>⟨#[],by rw [upd_ne (ne_of_none q hn),q]; simp⟩
theorem Un.write (mu:Mut (H x)) (he:e=x\/H e=some (.own x)) (k:∀ b u,b≠e->h.get? b=some u->h'.get? b=some u) (heo:∃ u,h'.get? e=some u):Un fs ex H (upd H x o) h h':=by
 have hx:∀ b,H b=none->b≠x:=fun b n z=>by subst z; rw [n] at mu; exact mu
 have hb:∀ b,H b=none->b≠e:=fun b n z=>by
  subst z
  rcases he with r | r
  ·exact hx b n r
  ·rw [n] at r; cases r
 have hm:∀ b u,H b=some u->¬ Mut (some u)->b≠x:=fun b u q nm z=>by subst z; rw [q] at mu; exact nm mu
 refine ⟨fun b u q n _ _=>k b u (hb b n) q,fun b u q n _ _=>⟨u.slots,k b u (hb b n) q⟩,fun b u q n _=>by rw [upd_ne (hx b n)]; exact n,fun b u q _=>?_,
  fun b xs q=>by rw [upd_ne (hm b _ q fun z=>z)]; exact q,fun b u xs q=>by rw [upd_ne (hm b _ q fun z=>z)]; exact q,fun b ps q=>⟨#[],by rw [upd_ne (hm b _ q fun z=>z),q]; simp⟩⟩
 by_cases hbe:b=e
 ·subst hbe; exact heo
 ·exact ⟨u,k b u hbe q⟩
end
def trk (h:Heap) (H:Hp):List Addr:=(List.range h.objs.size).filter fun a=>(H a).isSome
def hidT (h:Heap) (H:Hp):Heap:=PySem.W.hideAll h (trk h H)
theorem hidT_size (h:Heap) (H:Hp):(hidT h H).objs.size=h.objs.size:=PySem.W.hideAll_size _ _
theorem hidT_get {h:Heap} {H:Hp} {b:Addr} {o:Obj} (e:h.get? b=some o) (n:H b=none):(hidT h H).get? b=some o:=
 PySem.W.hideAll_get _ e fun hm=>by
  have q:(H b).isSome=true:=(List.mem_filter.mp hm).2
  rw [n] at q; simp at q
theorem of_hidT {h:Heap} {H:Hp} {b:Addr} {o:Obj} (e:(hidT h H).get? b=some o):h.get? b=some o/\H b=none:=by
 have e':h.get? b=some o:=PySem.W.of_hideAll (trk h H) e
 refine ⟨e',?_⟩
 cases q:H b with
 | none=>rfl
 | some x=>
  have hm:b∈trk h H:=List.mem_filter.mpr ⟨List.mem_range.mpr (Heap.lt_size e'),by simp [q]⟩
  have z:(hidT h H).get? b=none:=PySem.W.hideAll_none (trk h H) hm
  rw [z] at e; cases e
def allNews (g h:Heap) (L:Addr):List (Addr×Obj):=(List.range h.objs.size).filterMap fun a=>if a=L\/(g.get? a).isSome=true then none else (h.get? a).map fun o=>(a,o)
def rest (g h:Heap) (L d:Addr):List (Addr×Obj):=(allNews g h L).filter fun p=>decide (p.1≠d)
end L2
namespace L2
open PySem PySem.Spec PyProof.Rows
structure Mod (K:Frag) (mg:Str->Option Value) (base:Heap):Prop where
 kin:K.In base
 glob:base.Ns mainGlobals mg
 blt:∃ mb,base.Ns builtinsNs mb/\∀ x:Str,x ≠ "__name__" -> mb x=bootBuiltins x
 nolimit:base.NoLimit
structure Cx where
 prog:Program
 w:World
 K:Frag
 mg:Str->Option Value
 base:Heap
 A:Around
 N:List Str
 s₀:Shared
 H₀:Hp
 env:Env
 outer:List Env
 stack:List Env
 ex:List Addr
 fn:Str->Bool
 calm:Bool
 pn:List (Addr×Obj)
 xe:Value->Shared->Prop
def frs (l:List Env):List Addr:=l.filterMap (·.frame)
abbrev Cx.fs (X:Cx):List Addr:=frs X.outer
def Vis (sc:Scope) (x:Str):Prop:=sc.names.lookup x=some .local\/sc.names.lookup x=some .cell\/sc.names.lookup x=some .free
def Loc (sc:Scope) (x:Str):Prop:=sc.names.lookup x=some .local\/sc.names.lookup x=some .cell
def Look (env:Env) (h:Heap) (m:Str->Option Value) (x:Str) (u:Value):Prop:=
 (env.kindOf x=some .local/\m x=some u)\/((env.kindOf x=some .cell\/env.kindOf x=some .free)/\∃ c,env.cells.lookup x=some c/\h.IsCell c (some u))
structure Cx.Ok (X:Cx):Prop where
 mod:Mod X.K X.mg X.base
 kind:X.env.scope.kind=.function
 glob:X.env.globals=mainGlobals
 blt:X.env.builtins=builtinsNs
 above:X.s₀.heap.objs.size<=X.env.locals
 inj:∀ x y c,X.env.cells.lookup x=some c->X.env.cells.lookup y=some c->x=y
 has:∀ x,(X.env.kindOf x=some .cell\/X.env.kindOf x=some .free)->∃ c,X.env.cells.lookup x=some c
 cab:∀ x c,X.fn x=true->X.env.cells.lookup x=some c->X.s₀.heap.objs.size<=c
 hd:X.calm=true->X.A.handled=none
 frames:X.A.frames=some X.stack
 stk:X.stack=X.outer\/(X.stack=X.env::X.outer/\X.env.frame=some X.env.locals)
 exf:∀ b∈X.ex,b≠X.env.locals/\∀ x c,X.env.cells.lookup x=some c->c≠b
 bs:∀ b o,X.base.get? b=some o->X.s₀.heap.get? b=some o/\X.H₀ b=none
 bsz:X.base.objs.size<=X.s₀.heap.objs.size
 noex:∀ b o,X.base.get? b=some o->b∉X.ex
 exfs:∀ b∈X.ex,b∉X.fs
 funs:X.s₀.heap.FunFrames X.base X.outer
 frf:∀ b∈X.fs,X.H₀ b=none
structure Inv (X:Cx) (pins:List (Addr×Obj)) (σ:List (Option V)) (H:Hp) (s:Shared):Prop where
 ok:X.Ok
 os:s.os=X.s₀.os
 bare:AllBare s.gens
 base:Un X.fs X.ex X.H₀ H X.s₀.heap s.heap
 loc:∃ m,s.heap.Ns X.env.locals m/\∀ (i:Nat) (x:Str) (v:V),X.N[i]?=some x->σ[i]?=some (some v)->Vis X.env.scope x->∃ u,RelV v u/\Look X.env s.heap m x u
 cell:∀ x c,X.env.cells.lookup x=some c->∃ v,s.heap.IsCell c v
 free:H X.env.locals=none
 freeC:∀ x c,X.env.cells.lookup x=some c->H c=none
 pin:∀ p∈X.pn++pins,s.heap.get? p.1=some p.2/\H p.1=none/\p.1≠X.env.locals/\p.1∉X.fs/\∀ v,p.2.data≠.cell v
 hok:HOk X.prog X.w H s.heap
 len:σ.length=X.N.length
section
variable {X:Cx} {pins:List (Addr×Obj)} {σ:List (Option V)} {H H':Hp} {s:Shared} {h':Heap}
theorem Cx.Ok.nofr (ok:X.Ok) {b:Addr} {o:Obj} (e:X.base.get? b=some o):b∉X.fs:=fun hb=>by
 have:=(ok.funs.mem hb).1
 rw [e] at this; cases this
theorem Inv.bs (I:Inv X pins σ H s):∀ b o,X.base.get? b=some o->s.heap.get? b=some o/\H b=none:=fun b o e=>
 ⟨I.base.keep b o (I.ok.bs b o e).1 (I.ok.bs b o e).2 (I.ok.nofr e) (I.ok.noex b o e),I.base.free b o (I.ok.bs b o e).1 (I.ok.bs b o e).2 (I.ok.noex b o e)⟩
theorem Inv.bk (I:Inv X pins σ H s):∀ b o,X.base.get? b=some o->s.heap.get? b=some o:=fun b o e=>(I.bs b o e).1
theorem Inv.mod (I:Inv X pins σ H s):Mod X.K X.mg X.base:=I.ok.mod
theorem Inv.kIn (I:Inv X pins σ H s):X.K.In s.heap:=I.ok.mod.kin.keeps I.bk
theorem Inv.fr (I:Inv X pins σ H s):∃ m,Fr X.base X.env.locals s.heap m:=
 let ⟨m,hn,_⟩:=I.loc
 ⟨m,hn,I.bk,Nat.le_trans I.ok.bsz I.ok.above⟩
theorem Inv.lt (I:Inv X pins σ H s):X.env.locals<s.heap.objs.size:=let ⟨_,hn,_⟩:=I.loc; hn.lt
theorem Inv.sz (I:Inv X pins σ H s):X.s₀.heap.objs.size<=s.heap.objs.size:=Nat.le_trans I.ok.above (Nat.le_of_lt I.lt)
theorem Inv.nofs (I:Inv X pins σ H s) {a:Addr} (h:s.heap.objs.size<=a):a∉X.fs:=fun hb=>by
 obtain ⟨_,o,ho,_⟩:=I.ok.funs.mem hb
 exact absurd (Nat.lt_of_lt_of_le (Heap.lt_size ho) (Nat.le_trans I.sz h)) (Nat.lt_irrefl _)
theorem Inv.cne (I:Inv X pins σ H s):∀ x c,X.env.cells.lookup x=some c->c≠X.env.locals:=fun x c e z=>by
 obtain ⟨v,o,ho,hd⟩:=I.cell x c e
 obtain ⟨m,⟨o',es,ep,ho',hd',_⟩,_⟩:=I.loc
 rw [z,ho'] at ho; cases ho; rw [hd'] at hd; cases hd
theorem Inv.funs (I:Inv X pins σ H s):s.heap.FunFrames X.base X.outer:=by
 have all:∀ (l:List Env),(∀ b∈frs l,b∈X.fs)->X.s₀.heap.FunFrames X.base l->s.heap.FunFrames X.base l:=by
  intro l
  induction l with
  | nil=>intro _ _; trivial
  | cons env r ih=>
   intro hs hl
   obtain ⟨hk,⟨L,o,hf,hn,ho,hd⟩,hr⟩:=hl
   have hL:L∈X.fs:=hs L (by unfold frs; rw [List.filterMap_cons,hf]; exact List.mem_cons_self)
   obtain ⟨sl,e⟩:=I.base.slot L o ho (I.ok.frf L hL) hL fun z=>I.ok.exfs L z hL
   exact ⟨hk,⟨L,_,hf,hn,e,hd⟩,ih (fun b hb=>hs b (by unfold frs; rw [List.filterMap_cons,hf]; exact List.mem_cons_of_mem _ hb)) hr⟩
 exact all X.outer (fun _ hb=>hb) I.ok.funs
theorem Inv.stack (I:Inv X pins σ H s):s.heap.FunFrames X.base X.stack:=by
 rcases I.ok.stk with e | ⟨e,hf⟩
 ·rw [e]; exact I.funs
 ·rw [e]
  obtain ⟨m,hn,_⟩:=I.loc
  refine .cons (by rw [I.ok.kind]; decide) hf hn ?_ I.funs
  exact Heap.get?_none_of_le (Nat.le_trans I.ok.bsz I.ok.above)
theorem Inv.stkSub (I:Inv X pins σ H s):∀ b∈frs X.stack,b∈X.env.locals::X.fs:=fun b hb=>by
 rcases I.ok.stk with e | ⟨e,hf⟩
 ·rw [e] at hb; exact List.mem_cons_of_mem _ hb
 ·rw [e] at hb
  unfold frs at hb
  rw [List.filterMap_cons,hf] at hb
  exact hb
theorem Inv.stkFree (I:Inv X pins σ H s):∀ b∈frs X.stack,H b=none:=fun b hb=>by
 rcases List.mem_cons.mp (I.stkSub b hb) with e | hb
 ·rw [e]; exact I.free
 ·obtain ⟨_,o,ho,_⟩:=I.ok.funs.mem hb
  exact I.base.free b o ho (I.ok.frf b hb) fun z=>I.ok.exfs b z hb
theorem Inv.step {g':Array GenState} {t':Nat} {d':Drawn} {ch:List Addr} (I:Inv X pins σ H s)
  (hch:∀ b∈ch,(b∈X.ex\/X.s₀.heap.objs.size<=b)/\b≠X.env.locals/\(∀ x c,X.env.cells.lookup x=some c->c≠b)/\∀ p∈X.pn++pins,p.1≠b)
  (keep:∀ b o,b≠X.env.locals->b∉X.fs->b∉ch->s.heap.get? b=some o->H b=none->h'.get? b=some o)
  (slot:∀ b o,b≠X.env.locals->b∈X.fs->b∉ch->s.heap.get? b=some o->H b=none->∃ sl,h'.get? b=some { o with slots:=sl }) (free:∀ b o,b∉ch->s.heap.get? b=some o->H b=none->H' b=none)
  (there:∀ b o,b∉ch->s.heap.get? b=some o->∃ o',h'.get? b=some o')
  (tups:∀ b xs,H b=some (.tup xs)->H' b=some (.tup xs)) (frzs:∀ b o u,H b=some (.frz o u)->H' b=some (.frz o u)) (tbls:∀ b ps,H b=some (.tbl ps)->∃ more,H' b=some (.tbl (ps++more)))
  (ns:∀ m,s.heap.Ns X.env.locals m->h'.Ns X.env.locals m) (hok:HOk X.prog X.w H' h') (hg:AllBare g') :
  Inv X pins σ H' { s with heap:=h',gens:=g',drawn:=d',toks:=t' }:=by
 have neL:∀ b o,X.s₀.heap.get? b=some o->b≠X.env.locals:=fun b o e=>Nat.ne_of_lt (Nat.lt_of_lt_of_le (Heap.lt_size e) I.ok.above)
 have neC:∀ b o,X.s₀.heap.get? b=some o->b∉X.ex->b∉ch:=fun b o e hx hb=>by
  rcases (hch b hb).1 with z | z
  ·exact hx z
  ·exact absurd (Nat.lt_of_lt_of_le (Heap.lt_size e) z) (Nat.lt_irrefl _)
 have cellK:∀ x c,X.env.cells.lookup x=some c->∀ v,s.heap.IsCell c v->h'.IsCell c v:=fun x c e v zz1=>by
  obtain ⟨o,ho,hd⟩:=zz1
  have nch:c∉ch:=fun z=>(hch c z).2.2.1 x c e rfl
  by_cases hc:c∈X.fs
  ·obtain ⟨sl,q⟩:=slot c o (I.cne x c e) hc nch ho (I.freeC x c e)
   exact ⟨_,q,hd⟩
  ·exact ⟨o,keep c o (I.cne x c e) hc nch ho (I.freeC x c e),hd⟩
 refine ⟨I.ok,I.os,hg,⟨fun b o e n hb hx=>?_,fun b o e n hb hx=>?_,fun b o e n hx=>?_,fun b o e hx=>?_,fun b xs e=>tups b xs (I.base.tups b xs e),fun b o xs e=>frzs b o xs (I.base.frzs b o xs e),fun b ps e=>?_⟩,?_,fun x c e=>?_,?_,fun x c e=>?_,fun p hp=>?_,hok,I.len⟩
 ·exact keep b o (neL b o e) hb (neC b o e hx) (I.base.keep b o e n hb hx) (I.base.free b o e n hx)
 ·obtain ⟨sl,e1⟩:=I.base.slot b o e n hb hx
  obtain ⟨sl',e2⟩:=slot b _ (neL b o e) hb (neC b o e hx) e1 (I.base.free b o e n hx)
  exact ⟨sl',e2⟩
 ·obtain ⟨o',e1⟩:=I.base.there b o e hx
  exact free b o' (neC b o e hx) e1 (I.base.free b o e n hx)
 ·obtain ⟨o',e1⟩:=I.base.there b o e hx
  exact there b o' (neC b o e hx) e1
 ·obtain ⟨m1,e1⟩:=I.base.tbls b ps e
  obtain ⟨m2,e2⟩:=tbls b _ e1
  exact ⟨m1++m2,by rw [e2,Array.append_assoc]⟩
 ·obtain ⟨m,hn,hl⟩:=I.loc
  refine ⟨m,ns m hn,fun i x v e1 e2 e3=>?_⟩
  obtain ⟨u,r,l⟩:=hl i x v e1 e2 e3
  refine ⟨u,r,?_⟩
  rcases l with l | ⟨k,c,e,z⟩
  ·exact .inl l
  ·exact .inr ⟨k,c,e,cellK x c e _ z⟩
 ·obtain ⟨v,z⟩:=I.cell x c e
  exact ⟨v,cellK x c e v z⟩
 ·obtain ⟨m,⟨o,_,_,ho,_⟩,_⟩:=I.loc
  exact free _ o (fun z=>(hch _ z).2.1 rfl) ho I.free
 ·obtain ⟨v,o,ho,hd⟩:=I.cell x c e
  exact free c o (fun z=>(hch c z).2.2.1 x c e rfl) ho (I.freeC x c e)
 ·obtain ⟨e,n,ne,nf,d⟩:=I.pin p hp
  have nch:p.1∉ch:=fun z=>(hch p.1 z).2.2.2 p hp rfl
  exact ⟨keep p.1 p.2 ne nf nch e n,free p.1 p.2 nch e n,ne,nf,d⟩
theorem Inv.un {t':Nat} (I:Inv X pins σ H s) (u:Un X.fs [] H H' s.heap h') (hok:HOk X.prog X.w H' h'):Inv X pins σ H' { s with heap:=h',toks:=t' }:=by
 obtain ⟨m,⟨o,es,ep,ho,r⟩,_⟩:=id I.loc
 obtain ⟨sl,hL⟩:=u.any ho I.free (by simp)
 exact I.step (g':=s.gens) (d':=s.drawn) (ch:=[]) (fun _ z=>nomatch z) (fun b o _ hb _ e n=>u.keep b o e n hb (by simp)) (fun b o _ hb _ e n=>u.slot b o e n hb (by simp)) (fun b o _ e n=>u.free b o e n (by simp)) (fun b o _ e=>u.there b o e (by simp)) u.tups u.frzs u.tbls (fun m' hm=>by
  obtain ⟨o',es',ep',ho',r'⟩:=hm
  rw [ho] at ho'; cases ho'
  exact ⟨_,es',ep',hL,r'⟩) hok I.bare
theorem Inv.call {g':Array GenState} {t':Nat} {d':Drawn} {ch:List Addr} (I:Inv X pins σ H s) (u:Un (frs X.stack) ch H H' s.heap h') (hok:HOk X.prog X.w H' h') (hg:AllBare g')
  (hch:∀ b∈ch,(b∈X.ex\/X.s₀.heap.objs.size<=b)/\b≠X.env.locals/\(∀ x c,X.env.cells.lookup x=some c->c≠b)/\∀ p∈X.pn++pins,p.1≠b) :
  Inv X pins σ H' { s with heap:=h',gens:=g',drawn:=d',toks:=t' }:=by
 obtain ⟨m,⟨o,es,ep,ho,r⟩,_⟩:=id I.loc
 obtain ⟨sl,hL⟩:=u.any ho I.free fun z=>(hch _ z).2.1 rfl
 exact I.step (ch:=ch) hch (fun b o hL hb hc e n=>u.keep b o e n (fun z=>(List.mem_cons.mp (I.stkSub b z)).elim hL hb) hc) (fun b o _ _ hc e n=>u.any e n hc) (fun b o hc e n=>u.free b o e n hc) (fun b o hc e=>u.there b o e hc) u.tups u.frzs u.tbls (fun m' hm=>by
  obtain ⟨o',es',ep',ho',r'⟩:=hm
  rw [ho] at ho'; cases ho'
  exact ⟨_,es',ep',hL,r'⟩) hok hg
theorem Inv.turned {t':Nat} {it:Addr} (I:Inv X pins σ H s) (k:∀ b o,b≠it->s.heap.get? b=some o->h'.get? b=some o) (hn:H it=none) (hL:it≠X.env.locals)
  (h1:it∈X.ex\/X.s₀.heap.objs.size<=it) (h2:∀ x c,X.env.cells.lookup x=some c->c≠it) (h3:∀ p∈X.pn++pins,p.1≠it):Inv X pins σ H { s with heap:=h',toks:=t' }:=by
 have nit:∀ b u,H b=some u->b≠it:=fun b u e z=>by rw [z,hn] at e; cases e
 refine I.step (g':=s.gens) (d':=s.drawn) (ch:=[it]) (fun b hb=>?_) (fun b o _ _ hc e _=>k b o (fun z=>hc (by simp [z])) e) (fun b o _ _ hc e _=>⟨o.slots,k b o (fun z=>hc (by simp [z])) e⟩) (fun _ _ _ _ n=>n)
  (fun b o hc e=>⟨o,k b o (fun z=>hc (by simp [z])) e⟩) (fun _ _ e=>e) (fun _ _ _ e=>e) (fun b ps e=>⟨#[],by rw [e]; simp⟩) (fun m hm=>?_) (fun b u e=>?_) I.bare
 ·have e:b=it:=by simpa using hb
  subst e
  exact ⟨h1,hL,h2,h3⟩
 ·obtain ⟨o,es,ep,ho,r⟩:=hm
  exact ⟨o,es,ep,k _ o (Ne.symm hL) ho,r⟩
 ·refine (I.hok b u e).stay (fun c v hc q=>k c v ?_ q) (fun _ q=>q) fun _ _ q=>q
  rcases hc with z | z
  ·rw [z]; exact nit b u e
  ·exact nit c _ z
theorem Inv.tok (I:Inv X pins σ H s) (t:Nat):Inv X pins σ H { s with toks:=t }:=I.un (h':=s.heap) (t':=t) Un.refl I.hok
theorem Inv.kept {t':Nat} (I:Inv X pins σ H s) (k:∀ b u,s.heap.get? b=some u->h'.get? b=some u):Inv X pins σ H { s with heap:=h',toks:=t' }:=I.un (Un.kept k) (I.hok.kept k)
theorem Inv.laid {a:Addr} {o:HO} {t':Nat} (I:Inv X pins σ H s) (k:∀ b u,s.heap.get? b=some u->h'.get? b=some u) (hp:s.heap.objs.size<=a) (new:ObjOk X.prog X.w (upd H a o) h' a o) :
  Inv X pins σ (upd H a o) { s with heap:=h',toks:=t' }:=I.un (Un.laid k hp (I.hok.fresh hp)) (I.hok.laid k hp new)
theorem Inv.write {x e:Addr} {o:HO} {t':Nat} (I:Inv X pins σ H s) (mu:Mut (H x)) (he:e=x\/H e=some (.own x)) (k:∀ b u,b≠e->s.heap.get? b=some u->h'.get? b=some u) (heo:∃ u,h'.get? e=some u)
  (new:ObjOk X.prog X.w (upd H x o) h' x o):Inv X pins σ (upd H x o) { s with heap:=h',toks:=t' }:=I.un (Un.write mu he k heo) (I.hok.write mu he k heo new)
theorem Inv.weak {σ':List (Option V)} (I:Inv X pins σ H s) (hl:σ'.length=σ.length) (w:∀ (i:Nat) v,σ'[i]?=some (some v)->σ[i]?=some (some v)):Inv X pins σ' H s:=
 ⟨I.ok,I.os,I.bare,I.base,let ⟨m,hn,hl'⟩:=I.loc; ⟨m,hn,fun i x v e1 e2 e3=>hl' i x v e1 (w i v e2) e3⟩,I.cell,I.free,I.freeC,I.pin,I.hok,hl.trans I.len⟩
theorem Inv.pins_of {pins':List (Addr×Obj)} (I:Inv X pins σ H s) (h:∀ p∈pins',s.heap.get? p.1=some p.2/\H p.1=none/\p.1≠X.env.locals/\p.1∉X.fs/\∀ v,p.2.data≠.cell v):Inv X pins' σ H s:=
 ⟨I.ok,I.os,I.bare,I.base,I.loc,I.cell,I.free,I.freeC,fun p hp=>(List.mem_append.mp hp).elim (fun z=>I.pin p (List.mem_append_left _ z)) (h p),I.hok,I.len⟩
theorem nodup_ix {N:List Str} (hN:N.Nodup) {i j:Nat} {x:Str} (a:N[i]?=some x) (b:N[j]?=some x):i=j:=by
 obtain ⟨h1,e1⟩:=List.getElem?_eq_some_iff.mp a
 obtain ⟨h2,e2⟩:=List.getElem?_eq_some_iff.mp b
 exact (List.getElem_inj hN).mp (e1.trans e2.symm)
theorem store_ok2 {M:Model} {A:Around} {E:Value->Shared->Prop} {i:Nat} {x:Str} {v:V} {u:Value} {Q:Unit->Shared->Prop} (I:Inv X pins σ H s) (hN:X.N.Nodup) (hi:X.N[i]?=some x) (hx:Loc X.env.scope x) (r:RelV v u)
  (h:∀ s',Inv X pins (σ.set i (some v)) H s'->(∃ a,Heap.SameBut a s.heap s'.heap/\(a=X.env.locals\/X.env.cells.lookup x=some a))->Q () s') (hf:X.fn x=true\/X.env.scope.names.lookup x=some .local:=by first | exact .inl rfl | exact .inr rfl | assumption):wpAny M A (storeName X.env x u) Q E s:=by
 obtain ⟨m,hn,hl⟩:=id I.loc
 have hcls:(X.env.scope.kind == .class||(X.env.scope.kind == .module&&X.env.locals != X.env.globals))=false:=by rw [I.ok.kind]; rfl
 have hiσ:i<σ.length:=by rw [I.len]; exact (List.getElem?_eq_some_iff.mp hi).1
 have cne:=I.cne
 have tracked:∀ {a:Addr} {h':Heap},(∃ o,s.heap.get? a=some o/\H a=none)->Heap.SameBut a s.heap h'->HOk X.prog X.w H h':=fun {a h'} ha hs b ob e=>by
  obtain ⟨_,_,hfree⟩:=ha
  refine (I.hok b ob e).stay (fun c w' hc q=>(hs.2 c ?_).trans q) (fun _ q=>q) fun _ _ q=>q
  rintro rfl
  rcases hc with rfl | hc
  ·rw [hfree] at e; cases e
  ·rw [hfree] at hc; cases hc
 rcases hx with hk | hk
 ·refine wpAny_storeName_local hk hn (fun h' hn' hs=>?_) hcls
  obtain ⟨oL,_,_,hoL,_⟩:=id hn
  refine h _ ⟨I.ok,I.os,I.bare,⟨fun b o e n hb hx=>?_,fun b o e n hb hx=>?_,I.base.free,fun b o e hx=>?_,I.base.tups,I.base.frzs,I.base.tbls⟩,⟨_,hn',fun j y v' e1 e2 e3=>?_⟩,fun y c e=>?_,I.free,I.freeC,fun p hp=>?_,tracked ⟨oL,hoL,I.free⟩ hs,by simpa using I.len⟩ ⟨_,hs,.inl rfl⟩
  ·exact (hs.2 b (Nat.ne_of_lt (Nat.lt_of_lt_of_le (Heap.lt_size e) I.ok.above))).trans (I.base.keep b o e n hb hx)
  ·obtain ⟨sl,e1⟩:=I.base.slot b o e n hb hx
   exact ⟨sl,(hs.2 b (Nat.ne_of_lt (Nat.lt_of_lt_of_le (Heap.lt_size e) I.ok.above))).trans e1⟩
  ·obtain ⟨o',e1⟩:=I.base.there b o e hx
   exact ⟨o',(hs.2 b (Nat.ne_of_lt (Nat.lt_of_lt_of_le (Heap.lt_size e) I.ok.above))).trans e1⟩
  ·by_cases hj:j=i
   ·subst hj
    rw [hi] at e1; cases e1
    rw [List.getElem?_set_self hiσ] at e2
    cases e2
    exact ⟨u,r,.inl ⟨hk,by simp⟩⟩
   ·rw [List.getElem?_set_ne (Ne.symm hj)] at e2
    obtain ⟨u',r',q⟩:=hl j y v' e1 e2 e3
    refine ⟨u',r',?_⟩
    rcases q with ⟨k,e⟩ | ⟨k,c,e,z⟩
    ·refine .inl ⟨k,?_⟩
     have:y≠x:=fun e=>hj (nodup_ix hN e1 (e ▸ hi))
     simp [this,e]
    ·exact .inr ⟨k,c,e,z.sameBut hs (cne y c e)⟩
  ·obtain ⟨w',z⟩:=I.cell y c e
   exact ⟨w',z.sameBut hs (cne y c e)⟩
  ·obtain ⟨e,n,ne,nf,d⟩:=I.pin p hp
   exact ⟨(hs.2 p.1 ne).trans e,n,ne,nf,d⟩
 ·have hfn:X.fn x=true:=by
   rcases hf with z | z
   ·exact z
   ·rw [z] at hk; cases hk
  obtain ⟨c,hc⟩:=I.ok.has x (.inl hk)
  obtain ⟨w',z⟩:=I.cell x c hc
  refine wpAny_storeName_cell I.ok.kind hk hc z (fun h' hc' hs=>?_)
  obtain ⟨oc,hoc,hocd⟩:=id z
  refine h { s with heap:=h' } ⟨I.ok,I.os,I.bare,⟨fun b o e n hb hx=>?_,fun b o e n hb hx=>?_,I.base.free,fun b o e hx=>?_,I.base.tups,I.base.frzs,I.base.tbls⟩,⟨m,hn.sameBut hs (Ne.symm (cne x c hc)),fun j y v' e1 e2 e3=>?_⟩,fun y c' e=>?_,I.free,I.freeC,fun p hp=>?_,tracked ⟨oc,hoc,I.freeC x c hc⟩ hs,by simpa using I.len⟩ ⟨c,hs,.inr hc⟩
  ·exact (hs.2 b (Nat.ne_of_lt (Nat.lt_of_lt_of_le (Heap.lt_size e) (I.ok.cab x c hfn hc)))).trans (I.base.keep b o e n hb hx)
  ·obtain ⟨sl,e1⟩:=I.base.slot b o e n hb hx
   exact ⟨sl,(hs.2 b (Nat.ne_of_lt (Nat.lt_of_lt_of_le (Heap.lt_size e) (I.ok.cab x c hfn hc)))).trans e1⟩
  ·obtain ⟨o',e1⟩:=I.base.there b o e hx
   exact ⟨o',(hs.2 b (Nat.ne_of_lt (Nat.lt_of_lt_of_le (Heap.lt_size e) (I.ok.cab x c hfn hc)))).trans e1⟩
  ·by_cases hj:j=i
   ·subst hj
    rw [hi] at e1; cases e1
    rw [List.getElem?_set_self hiσ] at e2
    cases e2
    exact ⟨u,r,.inr ⟨.inl hk,c,hc,hc'⟩⟩
   ·rw [List.getElem?_set_ne (Ne.symm hj)] at e2
    obtain ⟨u',r',q⟩:=hl j y v' e1 e2 e3
    refine ⟨u',r',?_⟩
    rcases q with q | ⟨k,c',e,z'⟩
    ·exact .inl q
    ·refine .inr ⟨k,c',e,z'.sameBut hs ?_⟩
     rintro rfl
     exact hj (nodup_ix hN e1 (I.ok.inj _ _ _ e hc ▸ hi))
  ·by_cases hcc:c'=c
   ·subst hcc; exact ⟨_,hc'⟩
   ·obtain ⟨w2,z2⟩:=I.cell y c' e
    exact ⟨w2,z2.sameBut hs hcc⟩
  ·obtain ⟨e,n,ne,nf,d⟩:=I.pin p hp
   refine ⟨(hs.2 p.1 ?_).trans e,n,ne,nf,d⟩
   intro q
   rw [q,hoc] at e
   have q':oc=p.2:=Option.some.inj e
   exact d w' (by rw [<- q']; exact hocd)
theorem store_ok {M:Model} {A:Around} {E:Value->Shared->Prop} {i:Nat} {x:Str} {v:V} {u:Value} {Q:Unit->Shared->Prop} (I:Inv X pins σ H s) (hN:X.N.Nodup) (hi:X.N[i]?=some x) (hx:Loc X.env.scope x) (r:RelV v u)
  (h:∀ s',Inv X pins (σ.set i (some v)) H s'->Q () s') (hf:X.fn x=true\/X.env.scope.names.lookup x=some .local:=by first | exact .inl rfl | exact .inr rfl | assumption):wpAny M A (storeName X.env x u) Q E s:=
 store_ok2 I hN hi hx r (fun s' I' _=>h s' I') hf
theorem Inv.call' {s':Shared} {ch:List Addr} (I:Inv X pins σ H s) (ho:s'.os=s.os) (u:Un (frs X.stack) ch H H' s.heap s'.heap) (hok:HOk X.prog X.w H' s'.heap) (hg:AllBare s'.gens)
  (hch:∀ b∈ch,(b∈X.ex\/X.s₀.heap.objs.size<=b)/\b≠X.env.locals/\(∀ x c,X.env.cells.lookup x=some c->c≠b)/\∀ p∈X.pn++pins,p.1≠b):Inv X pins σ H' s':=by
 obtain ⟨h',g',d',t',o'⟩:=s'
 have e:o'=s.os:=ho
 subst e
 exact I.call (g':=g') (t':=t') (d':=d') u hok hg hch
end
abbrev XK:=Value->Option Addr->Hp->Prop
abbrev St:=List (Option V)
abbrev VK:=V->Hp->Prop
abbrev TE:=St->Hp->VK->Prop
abbrev TT:=St->Hp->(Bool->Hp->Prop)->Prop
abbrev TA:=St->Hp->(List V->Hp->Prop)->Prop
structure Ends where
 nx:St->Hp->Prop
 rt:VK
 bk:St->Hp->Prop:=fun _ _=>False
 ct:St->Hp->Prop:=fun _ _=>False
abbrev TS:=Ends->St->Hp->Prop
def EP (X:Cx) (pins:List (Addr×Obj)) (σ:St) (Q:VK) (u:Value) (s':Shared):Prop:=∃ v H',Inv X pins σ H' s'/\RelV v u/\Q v H'
def TP (X:Cx) (pins:List (Addr×Obj)) (σ:St) (Q:Bool->Hp->Prop) (b:Bool) (s':Shared):Prop:=∃ H',Inv X pins σ H' s'/\Q b H'
def AP (X:Cx) (pins:List (Addr×Obj)) (σ:St) (Q:List V->Hp->Prop) (us:List Value) (s':Shared):Prop:=∃ vs H',Inv X pins σ H' s'/\Vals vs us/\Q vs H'
def SP (X:Cx) (pins:List (Addr×Obj)) (D:Ends) (f:Flow) (s':Shared):Prop:=
 match f with
 | .next=>∃ σ' H',Inv X pins σ' H' s'/\D.nx σ' H'
 | .brk=>∃ σ' H',Inv X pins σ' H' s'/\D.bk σ' H'
 | .cont=>∃ σ' H',Inv X pins σ' H' s'/\D.ct σ' H'
 | .ret u=>∃ v σ' H',Inv X pins σ' H' s'/\RelV v u/\D.rt v H'
def PE (X:Cx) (e:Expr) (t:TE):Prop:=
 ∀ (pins:List (Addr×Obj)) (s:Shared) (σ:St) (H:Hp) (Q:VK),Inv X pins σ H s->t σ H Q->wpAny (model X.prog X.w) X.A (eval e X.env) (EP X pins σ Q) X.xe s
def PT (X:Cx) (e:Expr) (t:TT):Prop:=
 ∀ (pins:List (Addr×Obj)) (s:Shared) (σ:St) (H:Hp) (Q:Bool->Hp->Prop),Inv X pins σ H s->t σ H Q->wpAny (model X.prog X.w) X.A (isTrue e X.env (eval e X.env)) (TP X pins σ Q) X.xe s
def PW (X:Cx) (e:Expr) (t:TT):Prop:=
 ∀ (whole:Sem Value) (pins:List (Addr×Obj)) (s:Shared) (σ:St) (H:Hp) (Q:Bool->Hp->Prop),Inv X pins σ H s->t σ H Q->wpAny (model X.prog X.w) X.A (isTrue e X.env whole) (TP X pins σ Q) X.xe s
theorem PW.pt {X:Cx} {e:Expr} {t:TT} (h:PW X e t):PT X e t:=h _
def PA (X:Cx) (es:List Expr) (t:TA):Prop:=
 ∀ (pos:Pos) (pins:List (Addr×Obj)) (s:Shared) (σ:St) (H:Hp) (Q:List V->Hp->Prop),Inv X pins σ H s->t σ H Q->wpAny (model X.prog X.w) X.A (spliced (backTo pos (starEach es X.env))) (AP X pins σ Q) X.xe s
def PS (X:Cx) (st:Stmt) (t:TS):Prop:=
 ∀ (pins:List (Addr×Obj)) (s:Shared) (σ:St) (H:Hp) (D:Ends),Inv X pins σ H s->t D σ H->wpAny (model X.prog X.w) X.A (exec st X.env) (SP X pins D) X.xe s
def PSs (X:Cx) (st:List Stmt) (t:TS):Prop:=
 ∀ (pins:List (Addr×Obj)) (s:Shared) (σ:St) (H:Hp) (D:Ends),Inv X pins σ H s->t D σ H->wpAny (model X.prog X.w) X.A (execs st X.env) (SP X pins D) X.xe s
theorem thn {α:Type} {t:Sem α} {Q Q':α->Shared->Prop} {M:Model} {A:Around} {E:Value->Shared->Prop} {s:Shared} (h:wpAny M A t Q E s) (hQ:∀ a s,Q a s->Q' a s):wpAny M A t Q' E s:=wpAny_mono h hQ fun _ _ x=>x
end L2
namespace L2
open PySem PySem.Spec PyProof.Rows
section
variable {X:Cx}
def tVar (i:Nat):TE:=fun σ H Q=>∃ v,σ[i]?=some (some v)/\Q v H
def tC (v:V):TE:=fun _ H Q=>Q v H
theorem pe_var {i:Nat} {x:Str} {pos:Pos} (hN:X.N[i]?=some x) (hv:Vis X.env.scope x) (hd:(x == ("__debug__" : Str))=false:=by decide) (hcd:(x == ("__classdict__" : Str))=false:=by decide):PE X (.Name x pos) (tVar i):=by
 intro pins s σ H Q I h
 obtain ⟨v,e,h⟩:=h
 obtain ⟨m,hn,hl⟩:=I.loc
 obtain ⟨u,r,l⟩:=hl i x v hN e hv
 have fin:EP X pins σ Q u s:=⟨v,H,I,r,h⟩
 rcases l with ⟨hk,hm⟩ | ⟨hk,c,hc,hcell⟩
 ·exact wpAny_Name (wpAny_loadName_local I.ok.kind hk hn hm fin) hd
 ·rcases hk with hk | hk
  ·exact wpAny_Name (wpAny_loadName_cell I.ok.kind hk hc hcell fin) hd
  ·exact wpAny_Name (wpAny_loadName_free I.ok.kind hk hc hcell fin hcd) hd
theorem pe_int {i j pos}:PE X (.Constant (.int i) j pos) (tC (.int i)):=fun _ _ _ H _ I h=>wpAny_Constant_int ⟨.int i,H,I.tok _,⟨_,rfl⟩,h⟩
theorem pe_bl {b j pos}:PE X (.Constant (.bool b) j pos) (tC (.bl b)):=fun _ _ _ H _ I h=>Constant_bool ⟨.bl b,H,I,rfl,h⟩
theorem pe_non {j pos}:PE X (.Constant .none j pos) (tC .non):=fun _ _ _ H _ I h=>Constant_none ⟨.non,H,I,rfl,h⟩
theorem pe_str {x j pos}:PE X (.Constant (.str x) j pos) (tC (.str x)):=fun _ _ _ H _ I h=>Calls.Constant_str ⟨.str x,H,I.tok _,⟨_,rfl⟩,h⟩
def Gl (X:Cx) (x:Str):Prop:=X.env.kindOf x=some .globalImplicit
theorem ld_glob {E:Value->Shared->Prop} {pins:List (Addr×Obj)} {s:Shared} {σ:St} {H:Hp} {x:Str} {u:Value} {pos:Pos} {Q:Value->Shared->Prop} (I:Inv X pins σ H s) (hg:Gl X x) (hm:X.mg x=some u) (h:Q u s)
  (hd:(x == ("__debug__" : Str))=false:=by decide):wpAny (model X.prog X.w) X.A (eval (.Name x pos) X.env) Q E s:=
 Calls.Name_function_global I.ok.kind hg (Calls.loadGlobal_global (by rw [I.ok.glob]; exact I.mod.glob.keeps I.bk) hm h) hd
theorem ld_blt {E:Value->Shared->Prop} {pins:List (Addr×Obj)} {s:Shared} {σ:St} {H:Hp} {x:Str} {u:Value} {pos:Pos} {Q:Value->Shared->Prop} (I:Inv X pins σ H s) (hg:Gl X x) (hm:X.mg x=none) (hv:bootBuiltins x=some u) (h:Q u s)
  (hn:x ≠ "__name__" := by decide) (hd:(x == ("__debug__" : Str))=false:=by decide):wpAny (model X.prog X.w) X.A (eval (.Name x pos) X.env) Q E s:=by
 obtain ⟨mb,h1,h2⟩:=I.mod.blt
 exact Calls.Name_function_global I.ok.kind hg (Calls.loadGlobal_builtin (by rw [I.ok.glob]; exact I.mod.glob.keeps I.bk) hm (by rw [I.ok.blt]; exact h1.keeps I.bk) ((h2 x hn).trans hv) h) hd
theorem pe_glob {x:Str} {v:V} {u:Value} {pos:Pos} (hg:Gl X x) (hm:X.mg x=some u) (r:RelV v u) (hd:(x == ("__debug__" : Str))=false:=by decide):PE X (.Name x pos) (tC v):=
 fun _ _ _ H _ I h=>ld_glob I hg hm ⟨v,H,I,r,h⟩ hd
theorem pe_bltn {x:Str} {v:V} {u:Value} {pos:Pos} (hg:Gl X x) (hm:X.mg x=none) (hv:bootBuiltins x=some u) (r:RelV v u) (hn:x ≠ "__name__" := by decide) (hd:(x == ("__debug__" : Str))=false:=by decide):PE X (.Name x pos) (tC v):=
 fun _ _ _ H _ I h=>ld_blt I hg hm hv ⟨v,H,I,r,h⟩ hn hd
variable {a b:Expr} {ta tb:TE} {pos:Pos}
def PC (X:Cx) (op:CmpOp) (a b:Expr) (t:TE):Prop:=
 ∀ (pins:List (Addr×Obj)) (s:Shared) (σ:St) (H:Hp) (Q:VK),Inv X pins σ H s->t σ H Q ->
  wpAny (model X.prog X.w) X.A (eval a X.env) (fun v s₁=>wpAny (model X.prog X.w) X.A (eval b X.env) (fun u s₂=>wpAny (model X.prog X.w) X.A (compareOp op v u) (EP X pins σ Q) X.xe s₂) X.xe s₁) X.xe s
theorem nobehind (b:Expr) {op:CmpOp} (h:op≠.In) (h2:op≠.NotIn):behindInMarks op b=false:=by
 have e1:(op == CmpOp.In)=false:=by cases op <;> first | rfl | exact absurd rfl h
 have e2:(op == CmpOp.NotIn)=false:=by cases op <;> first | rfl | exact absurd rfl h2
 cases b <;> simp [behindInMarks,e1,e2]
def tB (t:TE):TT:=fun σ H Q=>t σ H fun x H1=>∃ c,x=.bl c/\Q c H1
theorem pt_cmp {op:CmpOp} {t:TE} (h:PC X op a b t) (h1:behindInMarks op b=false:=by first | exact nobehind _ (by decide) (by decide) | rfl):PT X (.Compare a [op] [b] pos) (tB t):=by
 intro pins s σ H Q I hw
 refine wpAny_isTrue_Compare1 (thn (h pins s σ H _ I hw) fun v s1 h1=>thn h1 fun u s2 h2=>thn h2 fun c s3 zz2=>?_) h1
 obtain ⟨x,H1,I1,r1,q1⟩:=zz2
 obtain ⟨d,rfl,q⟩:=q1
 cases r1
 exact wpAny_truthy_bool ⟨H1,I1,q⟩
theorem pt_val {e:Expr} {t:TE} (h:PE X e t) (he:∀ whole,isTrue e X.env whole=(do let v <- whole; standAt e.pos; holding [v] (truthy v)):=by intro _; rfl):PT X e (tB t):=by
 intro pins s σ H Q I hw
 refine isTrue_plain (thn (h pins s σ H _ I hw) fun v s1 zz3=>?_) (he _)
 obtain ⟨x,H1,I1,r1,q1⟩:=zz3
 obtain ⟨d,rfl,q⟩:=q1
 cases r1
 exact wpAny_truthy_bool ⟨H1,I1,q⟩
variable {tA tB':TT} {rest:List Expr}
def tAnd (t u:TT):TT:=fun σ H Q=>t σ H fun c H1=>if c=true then u σ H1 Q else Q false H1
def tOr (t u:TT):TT:=fun σ H Q=>t σ H fun c H1=>if c=true then Q true H1 else u σ H1 Q
def tNot (t:TT):TT:=fun σ H Q=>t σ H fun c H1=>Q (!c) H1
theorem pw_and1 (ha:PT X a tA):PW X (.BoolOp .And [a] pos) tA:=by
 intro wh pins s σ H Q I h
 refine isTrue_and (thn (ha pins s σ H Q I h) fun c s1 e=>?_)
 cases c with
 | true=>exact isTrue_and_nil e
 | false=>exact e
theorem pw_or1 (ha:PT X a tA):PW X (.BoolOp .Or [a] pos) tA:=by
 intro wh pins s σ H Q I h
 refine isTrue_or (thn (ha pins s σ H Q I h) fun c s1 e=>?_)
 cases c with
 | false=>exact isTrue_or_nil e
 | true=>exact e
theorem pw_and (ha:PT X a tA) (hb:PW X (.BoolOp .And (b::rest) pos) tB'):PW X (.BoolOp .And (a::b::rest) pos) (tAnd tA tB'):=by
 intro wh pins s σ H Q I h
 refine isTrue_and (thn (ha pins s σ H _ I h) fun c s1 zz4=>?_)
 obtain ⟨H1,I1,q1⟩:=zz4
 cases c with
 | true=>exact hb wh pins s1 σ H1 Q I1 q1
 | false=>exact ⟨H1,I1,q1⟩
theorem pw_or (ha:PT X a tA) (hb:PW X (.BoolOp .Or (b::rest) pos) tB'):PW X (.BoolOp .Or (a::b::rest) pos) (tOr tA tB'):=by
 intro wh pins s σ H Q I h
 refine isTrue_or (thn (ha pins s σ H _ I h) fun c s1 zz5=>?_)
 obtain ⟨H1,I1,q1⟩:=zz5
 cases c with
 | true=>exact ⟨H1,I1,q1⟩
 | false=>exact hb wh pins s1 σ H1 Q I1 q1
theorem pt_not (ha:PT X a tA):PT X (.UnaryOp .Not a pos) (tNot tA):=by
 intro pins s σ H Q I h
 exact isTrue_not (ha pins s σ H (fun c H1=>Q (!c) H1) I h)
def tAndV (ta tb:TE):TE:=fun σ H Q=>ta σ H fun x H1=>∃ c,x=.bl c/\if c=true then tb σ H1 Q else Q (.bl false) H1
theorem pe_one {op} {t:TE} (h:PE X a t):PE X (.BoolOp op [a] pos) t:=fun pins s σ H Q I hw=>BoolOp_one (h pins s σ H Q I hw)
theorem pe_and (ha:PE X a ta) (hb:PE X (.BoolOp .And (b::rest) pos) tb):PE X (.BoolOp .And (a::b::rest) pos) (tAndV ta tb):=by
 intro pins s σ H Q I h
 refine BoolOp_and (thn (ha pins s σ H _ I h) fun v s1 zz6=>?_)
 obtain ⟨x,H1,I1,r1,q1⟩:=zz6
 obtain ⟨c,rfl,q1⟩:=q1
 cases r1
 refine wpAny_truthy_bool ?_
 cases c with
 | true=>exact hb pins s1 σ H1 Q I1 q1
 | false=>exact ⟨.bl false,H1,I1,rfl,q1⟩
def tIf (t:TT) (ta tb:TE):TE:=fun σ H Q=>t σ H fun c H1=>if c=true then ta σ H1 Q else tb σ H1 Q
theorem pe_ifExp {c:Expr} (hc:PT X c tA) (ha:PE X a ta) (hb:PE X b tb):PE X (.IfExp c a b pos) (tIf tA ta tb):=by
 intro pins s σ H Q I h
 refine wpAny_IfExp (thn (hc pins s σ H _ I h) fun d s1 zz7=>?_)
 obtain ⟨H1,I1,q1⟩:=zz7
 cases d with
 | true=>exact ha pins s1 σ H1 Q I1 q1
 | false=>exact hb pins s1 σ H1 Q I1 q1
end
end L2
namespace L2
open PySem PySem.Spec PyProof.Rows
def SqL (K:Frag) (H:Hp) (a:Addr) (xs:List V):Prop:=
 Rd H a (.lst xs) \/
  ∃ (o:Obj) (its:Array Value) (n:Nat),K.lookup a=some o/\o.cls=.type "list" /\ o.dict=none/\o.data=.seq its n/\its.size<=sizeLine/\Vals xs its.toList
def SqT (K:Frag) (H:Hp) (a:Addr) (xs:List V):Prop:=
 Rd H a (.tup xs) \/
  ∃ (o:Obj) (its:Array Value) (n:Nat),K.lookup a=some o/\o.cls=.type "tuple" /\ o.data=.seq its n/\its.size<=sizeLine/\Vals xs its.toList
def absV:Value->Option V
 | .none=>some .non
 | .bool b=>some (.bl b)
 | .int i _=>some (.int i)
 | .str x _=>some (.str x)
 | .bytes b _=>some (.byt b)
 | .float b _=>some (.flt b)
 | .ref a=>some (.ref a)
 | .type n=>some (.ty n)
 | _=>none
theorem RelV.abs {x:V} {u:Value} (r:RelV x u):absV u=some x:=by
 cases x with
 | non=>cases r; rfl
 | bl _=>cases r; rfl
 | int _=>obtain ⟨t,rfl⟩:=r; rfl
 | str _=>obtain ⟨t,rfl⟩:=r; rfl
 | byt _=>obtain ⟨t,rfl⟩:=r; rfl
 | flt _=>obtain ⟨t,rfl⟩:=r; rfl
 | ref _=>cases r; rfl
 | ty _=>cases r; rfl
theorem RelV.inj {x y:V} {u:Value} (r:RelV x u) (q:RelV y u):x=y:=Option.some.inj (r.abs.symm.trans q.abs)
theorem Vals.inj:∀ {xs ys:List V} {us:List Value},Vals xs us->Vals ys us->xs=ys:=by
 intro xs ys us a
 induction a generalizing ys with
 | nil=>intro b; cases b; rfl
 | cons r t ih=>
  intro b
  cases b with
  | cons r' t'=>rw [r.inj r',ih t']
section
variable {X:Cx} {pins:List (Addr×Obj)} {σ:St} {H:Hp} {s:Shared} {a:Addr} {xs ys:List V}
theorem SqL.of {K:Frag} (h:H a=some (.lst xs)):SqL K H a xs:=.inl (.inl h)
theorem SqT.of {K:Frag} (h:H a=some (.tup xs)):SqT K H a xs:=.inl (.inl h)
theorem Inv.list (I:Inv X pins σ H s) (h:SqL X.K H a xs):∃ its:List Value,Vals xs its/\PlainL s.heap a its.toArray/\xs.length<=sizeLine:=by
 rcases h with h | ⟨o,its,n,hk,hc,hd,hs,hz,r⟩
 ·obtain ⟨z,its,n,r,e⟩:=h.ok I.hok
  exact ⟨its,r,⟨_,n,e,rfl,rfl,rfl⟩,z⟩
 ·refine ⟨its.toList,r,⟨o,n,I.kIn a o hk,hc,hd,by simpa using hs⟩,?_⟩
  have e:=r.length
  simp only [Array.length_toList] at e
  omega
theorem Inv.tuple (I:Inv X pins σ H s) (h:SqT X.K H a xs):∃ its:List Value,Vals xs its/\IsTup s.heap a its.toArray/\xs.length<=sizeLine:=by
 rcases h with h | ⟨o,its,n,hk,hc,hs,hz,r⟩
 ·obtain ⟨z,its,r,p⟩:=h.ok I.hok
  exact ⟨its,r,p,z⟩
 ·refine ⟨its.toList,r,⟨o,I.kIn a o hk,hc,n,by simpa using hs⟩,?_⟩
  have e:=r.length
  simp only [Array.length_toList] at e
  omega
theorem Inv.list_inj (I:Inv X pins σ H s) (h:SqL X.K H a xs) (h':SqL X.K H a ys):xs=ys:=by
 obtain ⟨its,r,⟨o,n,e,_,_,d⟩,_⟩:=I.list h
 obtain ⟨its',r',⟨o',n',e',_,_,d'⟩,_⟩:=I.list h'
 rw [e] at e'; cases e'
 rw [d] at d'
 injection d' with d1 _
 have:its=its':=by simpa using congrArg Array.toList d1
 subst this
 exact r.inj r'
theorem Inv.tuple_inj (I:Inv X pins σ H s) (h:SqT X.K H a xs) (h':SqT X.K H a ys):xs=ys:=by
 obtain ⟨its,r,⟨o,e,_,n,d⟩,_⟩:=I.tuple h
 obtain ⟨its',r',⟨o',e',_,n',d'⟩,_⟩:=I.tuple h'
 rw [e] at e'; cases e'
 rw [d] at d'
 injection d' with d1 _
 have:its=its':=by simpa using congrArg Array.toList d1
 subst this
 exact r.inj r'
end
abbrev Cx.wish (X:Cx) (E:Value->Shared->Prop):Cx:={ X with xe:=E }
abbrev Cx.nox (X:Cx):Cx:=X.wish fun _ _=>False
theorem Cx.Ok.wish {X:Cx} (ok:X.Ok) (E:Value->Shared->Prop):(X.wish E).Ok:=
 ⟨ok.mod,ok.kind,ok.glob,ok.blt,ok.above,ok.inj,ok.has,ok.cab,ok.hd,ok.frames,ok.stk,ok.exf,ok.bs,ok.bsz,ok.noex,ok.exfs,ok.funs,ok.frf⟩
theorem Cx.Ok.unwish {X:Cx} {E:Value->Shared->Prop} (ok:(X.wish E).Ok):X.Ok:=
 ⟨ok.mod,ok.kind,ok.glob,ok.blt,ok.above,ok.inj,ok.has,ok.cab,ok.hd,ok.frames,ok.stk,ok.exf,ok.bs,ok.bsz,ok.noex,ok.exfs,ok.funs,ok.frf⟩
section
variable {X:Cx} {pins:List (Addr×Obj)} {σ:St} {H:Hp} {s:Shared} {E:Value->Shared->Prop}
theorem Inv.wish (I:Inv X pins σ H s) (E:Value->Shared->Prop):Inv (X.wish E) pins σ H s:=⟨I.ok.wish E,I.os,I.bare,I.base,I.loc,I.cell,I.free,I.freeC,I.pin,I.hok,I.len⟩
theorem Inv.unwish (I:Inv (X.wish E) pins σ H s):Inv X pins σ H s:=⟨I.ok.unwish,I.os,I.bare,I.base,I.loc,I.cell,I.free,I.freeC,I.pin,I.hok,I.len⟩
theorem SP.unwish {D:Ends} {f:Flow} {s':Shared} (h:SP (X.wish E) pins D f s'):SP X pins D f s':=by
 cases f with
 | next=>obtain ⟨σ',H',I,q⟩:=h; exact ⟨σ',H',I.unwish,q⟩
 | brk=>obtain ⟨σ',H',I,q⟩:=h; exact ⟨σ',H',I.unwish,q⟩
 | cont=>obtain ⟨σ',H',I,q⟩:=h; exact ⟨σ',H',I.unwish,q⟩
 | ret u=>obtain ⟨v,σ',H',I,r,q⟩:=h; exact ⟨v,σ',H',I.unwish,r,q⟩
theorem PSs.nox {st:List Stmt} {t:TS} (h:PSs X.nox st t):PSs X st t:=fun pins s σ H D I hw=>
 wpAny_mono (h pins s σ H D (I.wish _) hw) (fun _ _ q=>q.unwish) fun _ _ z=>False.elim z
end
section
variable {X:Cx} {st:Stmt} {rest:List Stmt} {t u:TS} {e:Expr} {te:TE} {pos:Pos}
def tNext:TS:=fun D σ H=>D.nx σ H
def tSeq (t u:TS):TS:=fun D σ H=>t { D with nx:=u D } σ H
theorem pss_nil:PSs X [] tNext:=fun _ _ σ H _ I h=>wpAny_execs_nil ⟨σ,H,I,h⟩
theorem pss_cons (h1:PS X st t) (h2:PSs X rest u):PSs X (st::rest) (tSeq t u):=by
 intro pins s σ H D I h
 refine wpAny_execs_cons (thn (h1 pins s σ H { D with nx:=u D } I h) fun f s1 q=>?_)
 cases f with
 | next=>
  obtain ⟨σ',H',I',q⟩:=q
  exact h2 pins s1 σ' H' D I' q
 | ret v=>exact q
 | brk=>exact q
 | cont=>exact q
theorem pss_one (h1:PS X st t):PSs X [st] t:=by
 intro pins s σ H D I h
 refine wpAny_execs_cons (thn (h1 pins s σ H D I h) fun f s1 q=>?_)
 cases f with
 | next=>exact wpAny_execs_nil q
 | ret v=>exact q
 | brk=>exact q
 | cont=>exact q
theorem Inv.quiet {pins:List (Addr×Obj)} {σ:St} {H:Hp} {s:Shared} (I:Inv X pins σ H s):interactive X.env=false:=by simp [interactive,I.ok.kind]
def tDrop (te:TE):TS:=fun D σ H=>te σ H fun _ H1=>D.nx σ H1
theorem ps_expr (he:PE X e te) (hs:swapsWith e none pos.line X.env=pure false:=by rfl):PS X (.Expr e pos) (tDrop te):=by
 intro pins s σ H D I h
 exact wpAny_Expr_any (thn (he pins s σ H _ I h) fun v s1 zz8=>by obtain ⟨x,H1,I1,r1,q1⟩:=zz8; exact ⟨σ,H1,I1,q1⟩) I.quiet hs
def tRet (te:TE):TS:=fun D σ H=>te σ H D.rt
theorem ps_ret (he:PE X e te):PS X (.Return (some e) pos) (tRet te):=by
 intro pins s σ H D I h
 exact wpAny_Return_some (thn (he pins s σ H _ I h) fun v s1 zz9=>by obtain ⟨x,H1,I1,r1,q1⟩:=zz9; exact ⟨x,σ,H1,I1,r1,q1⟩)
def tIfS (c:TT) (t u:TS):TS:=fun D σ H=>c σ H fun b H1=>if b=true then t D σ H1 else u D σ H1
theorem ps_if {c:Expr} {a b:List Stmt} {tc:TT} (hc:PT X c tc) (ha:PSs X a t) (hb:PSs X b u):PS X (.If c a b pos) (tIfS tc t u):=by
 intro pins s σ H D I h
 refine wpAny_If (thn (hc pins s σ H _ I h) fun d s1 zz10=>?_)
 obtain ⟨H1,I1,q1⟩:=zz10
 cases d with
 | true=>exact ha pins s1 σ H1 D I1 q1
 | false=>exact hb pins s1 σ H1 D I1 q1
def tNever:TS:=fun _ _ _=>False
theorem ps_never:PS X st tNever:=fun _ _ _ _ _ _ h=>h.elim
end
abbrev TG:=V->St->Hp->(St->Hp->Prop)->Prop
abbrev TGs:=List V->St->Hp->(St->Hp->Prop)->Prop
def PG (X:Cx) (target:Expr) (t:TG):Prop:=
 ∀ (pins:List (Addr×Obj)) (s:Shared) (σ:St) (H:Hp) (v:V) (u:Value) (Q:St->Hp->Prop),Inv X pins σ H s->RelV v u->t v σ H Q ->
  wpAny (model X.prog X.w) X.A (assign target X.env u) (fun _ s'=>∃ σ' H',Inv X pins σ' H' s'/\Q σ' H') X.xe s
def PGs (X:Cx) (ts:List Expr) (t:TGs):Prop:=
 ∀ (pins:List (Addr×Obj)) (s:Shared) (σ:St) (H:Hp) (vs:List V) (us:List Value) (Q:St->Hp->Prop),Inv X pins σ H s->Vals vs us->t vs σ H Q ->
  wpAny (model X.prog X.w) X.A (assignInOrder ((assignEach ts X.env).map (·.2)) us) (fun _ s'=>∃ σ' H',Inv X pins σ' H' s'/\Q σ' H') X.xe s
abbrev TSet:=V->V->V->Hp->(Hp->Prop)->Prop
section
variable {X:Cx} {pos:Pos}
def gName (i:Nat):TG:=fun v σ H Q=>Q (σ.set i (some v)) H
theorem pg_name {i:Nat} {x:Str} (hN:X.N.Nodup) (hi:X.N[i]?=some x) (hx:Loc X.env.scope x) (hf:X.fn x=true\/X.env.scope.names.lookup x=some .local:=by first | exact .inl rfl | exact .inr rfl | assumption):PG X (.Name x pos) (gName i):=by
 intro pins s σ H v u Q I r h
 exact wpAny_assign_Name (store_ok I hN hi hx r (fun s' I'=>⟨_,H,I',h⟩) hf)
def gNil:TGs:=fun vs σ H Q=>vs = []/\Q σ H
def gCons (t:TG) (u:TGs):TGs:=fun vs σ H Q=>∃ v r,vs=v::r/\t v σ H fun σ' H'=>u r σ' H' Q
theorem pgs_nil:PGs X [] gNil:=by
 intro pins s σ H vs us Q I r h
 obtain ⟨e,h⟩:=h
 subst e
 cases r
 exact assignInOrder_nil ⟨σ,H,I,h⟩
theorem pgs_cons {e:Expr} {es:List Expr} {t:TG} {u:TGs} (h1:PG X e t) (h2:PGs X es u)
  (hs:(assignEach (e::es) X.env).map (·.2)=assign e X.env::(assignEach es X.env).map (·.2):=by rfl):PGs X (e::es) (gCons t u):=by
 intro pins s σ H vs us Q I r h
 obtain ⟨v,vr,e1,h⟩:=h
 subst e1
 cases r with
 | cons r rr=>
  rw [hs]
  refine assignInOrder_cons (thn (h1 pins s σ H _ _ _ I r h) fun _ s1 zz11=>?_)
  obtain ⟨σ1,H1,I1,q1⟩:=zz11
  exact h2 pins s1 σ1 H1 _ _ Q I1 rr q1
def gTup (K:Frag) (n:Nat) (t:TGs):TG:=fun v σ H Q=>∃ a xs,v=.ref a/\SqT K H a xs/\xs.length=n/\t xs σ H Q
theorem pg_tup {es:List Expr} {k:Nat} {t:TGs} {n:Nat} (hc:X.calm=true) (h:PGs X es t)
  (hn:(assignEach es X.env).length=n:=by rfl) (hst:(assignEach es X.env).findIdx? (·.1)=none:=by rfl):PG X (.Tuple es k pos) (gTup X.K n t):=by
 intro pins s σ H v u Q I r hw
 obtain ⟨a,xs,e1,hq,hl,hw⟩:=hw
 subst e1
 cases r
 obtain ⟨its,rv,ht,hz⟩:=I.tuple hq
 refine assign_Tuple_tuple (I.ok.hd hc) ht (by simp [hn,<- hl,rv.length]) hst fun h' hx=>?_
 have I1:Inv X pins σ H { s with heap:=h' }:=I.kept (t':=s.toks) fun b o e=>hx b o (Nat.ne_of_lt (Heap.lt_size e)) e
 exact h pins _ σ H xs _ Q I1 (by simpa using rv) hw
def gSub (to ti:TE) (t:TSet):TG:=fun v σ H Q=>to σ H fun o H1=>ti σ H1 fun i H2=>t o i v H2 fun H3=>Q σ H3
def tAsg (te:TE) (g:TG):TS:=fun D σ H=>te σ H fun x H1=>g x σ H1 D.nx
theorem ps_set {i:Nat} {x:Str} {e:Expr} {te:TE} {pos':Pos} (hN:X.N.Nodup) (hi:X.N[i]?=some x) (hx:Loc X.env.scope x) (he:PE X e te) (hs:swapsWith e (some (.Name x pos')) pos.line X.env=pure false:=by rfl) (hf:X.fn x=true\/X.env.scope.names.lookup x=some .local:=by first | exact .inl rfl | exact .inr rfl | assumption) :
  PS X (.Assign [.Name x pos'] e pos) (tAsg te (gName i)):=by
 intro pins s σ H D I h
 refine wpAny_Assign_Name (thn (he pins s σ H _ I h) fun v s1 zz12=>?_) hs
 obtain ⟨y,H1,I1,r1,q1⟩:=zz12
 exact store_ok I1 hN hi hx r1 (fun s2 I2=>⟨_,H1,I2,q1⟩) hf
end
section
variable {X:Cx} {pos:Pos}
def tWhile (c:TT) (tb:TS):TS:=fun D σ H=>∃ W:Nat->St->Hp->Prop,(∃ m,W m σ H)/\∀ m σ H,W m σ H ->
 c σ H fun b H1=>if b=true then ∃ N:St->Hp->Prop,(∀ σ' H',N σ' H'->∃ m',m'<m/\W m' σ' H')/\tb { D with nx:=N,ct:=N,bk:=D.nx } σ H1 else D.nx σ H1
theorem ps_while {c:Expr} {body:List Stmt} {tc:TT} {tb:TS} (hp:PassesOwn (model X.prog X.w) X.A X.env X.xe) (hc:PT X c tc) (hb:PSs X body tb):PS X (.While c body [] pos) (tWhile tc tb):=by
 intro pins s σ H D I h
 obtain ⟨W,⟨m0,w0⟩,turn⟩:=h
 refine wpAny_While (codeAny_whileLoop (fun n s'=>∃ σ' H',Inv X pins σ' H' s'/\W n σ' H') ?_ m0 ⟨σ,H,I,w0⟩)
 rintro n s1 ⟨σ1,H1,I1,w1⟩
 refine wpAny_passesOwn hp (thn (hc pins s1 σ1 H1 _ I1 (turn n σ1 H1 w1)) fun b s2 zz13=>?_)
 obtain ⟨H2,I2,q2⟩:=zz13
 cases b with
 | true=>
  obtain ⟨N,hN,q2⟩:=q2
  rw [if_pos rfl]
  refine wpAny_passesOwn hp (thn (hb pins s2 σ1 H2 _ I2 q2) fun f s3 q3=>?_)
  cases f with
  | next=>
   obtain ⟨σ3,H3,I3,n3⟩:=q3
   obtain ⟨m',hm,w3⟩:=hN σ3 H3 n3
   exact ⟨m',hm,σ3,H3,I3,w3⟩
  | cont=>
   obtain ⟨σ3,H3,I3,n3⟩:=q3
   obtain ⟨m',hm,w3⟩:=hN σ3 H3 n3
   exact ⟨m',hm,σ3,H3,I3,w3⟩
  | brk=>exact q3
  | ret v=>exact q3
 | false=>
  rw [if_neg Bool.false_ne_true]
  exact wpAny_execs_nil ⟨σ1,H2,I2,q2⟩
end
structure It where
 go:Nat->Hp->Prop
 yld:Nat->Hp->V->Hp->Prop
 stop:Nat->Hp->Prop
def FpOk (X:Cx) (pins:List (Addr×Obj)) (H:Hp) (b:Addr):Prop:=
 H b=none/\b≠X.env.locals/\b∉X.fs/\(b∈X.ex\/X.s₀.heap.objs.size<=b)/\(∀ x c,X.env.cells.lookup x=some c->c≠b)/\∀ p∈X.pn++pins,p.1≠b
theorem Inv.fpOk {X:Cx} {pins:List (Addr×Obj)} {σ:St} {H H':Hp} {s:Shared} {b:Addr} (I:Inv X pins σ H s) (hb:s.heap.objs.size<=b) (hn:H' b=none):FpOk X pins H' b:=by
 refine ⟨hn,Nat.ne_of_gt (Nat.lt_of_lt_of_le I.lt hb),I.nofs hb,.inr (Nat.le_trans I.sz hb),fun x c e z=>?_,fun p hp z=>?_⟩
 ·obtain ⟨v,q⟩:=I.cell x c e
  exact absurd (Nat.lt_of_lt_of_le q.lt (by rw [z]; exact hb)) (Nat.lt_irrefl _)
 ·exact absurd (Nat.lt_of_lt_of_le (Heap.lt_size (I.pin p hp).1) (by rw [z]; exact hb)) (Nat.lt_irrefl _)
structure Turn (P:Program) (w:World) (K:Frag) (tg:Expr) (J:It) (fp:List Addr) (it:Addr) (tn:Nat->Heap->Prop):Prop where
 mem:it∈fp
 obj:∀ i h,tn i h->∀ b∈fp,∃ o,h.get? b=some o/\∀ v,o.data≠.cell v
 keep:∀ i h h',tn i h->(∀ b∈fp,∀ o,h.get? b=some o->h'.get? b=some o)->tn i h'
 item:∀ (X:Cx),X.prog=P->X.w=w->X.K=K->X.calm=true->∀ (i:Nat) (pins:List (Addr×Obj)) (s:Shared) (σ:St) (H:Hp) (E:Value->Shared->Prop),Inv X pins σ H s->(∀ b∈fp,FpOk X pins H b)->tn i s.heap->J.go i H ->
  wpAny (model P w) X.A (pyNext (.ref it)) (fun r s1=>∃ u,r=some u /\
   wpAny (model P w) X.A (letOwnedTupleGo tg (.ref it) u) (fun _ s2=>∃ x H',Inv X pins σ H' s2/\RelV x u/\J.yld i H x H'/\tn (i+1) s2.heap/\∀ b∈fp,H' b=none) E s1) E s
 done:∀ (X:Cx),X.prog=P->X.w=w->X.K=K->X.calm=true->∀ (i:Nat) (pins:List (Addr×Obj)) (s:Shared) (σ:St) (H:Hp) (E:Value->Shared->Prop),Inv X pins σ H s->(∀ b∈fp,FpOk X pins H b)->tn i s.heap->J.stop i H ->
  wpAny (model P w) X.A (pyNext (.ref it)) (fun r s1=>r=none/\Inv X pins σ H s1) E s
 self:∀ (A:Around) (i:Nat) (s:Shared) (Q:Value->Shared->Prop) (E:Value->Shared->Prop),tn i s.heap->Q (.ref it) s->wpAny (model P w) A (pyIter (.ref it)) Q E s
abbrev TI:=St->Hp->(It->Hp->Prop)->Prop
def PIE (X:Cx) (pins:List (Addr×Obj)) (σ:St) (tg:Expr) (R:It->Hp->Prop) (itv:Value) (s2:Shared):Prop:=
 ∃ (it:Addr) (fp:List Addr) (tn:Nat->Heap->Prop) (J:It) (H':Hp),itv=.ref it/\Inv X pins σ H' s2/\Turn X.prog X.w X.K tg J fp it tn/\tn 0 s2.heap/\(∀ b∈fp,FpOk X pins H' b)/\R J H'
def PI (X:Cx) (tg iter:Expr) (wi:TI):Prop:=
 ∀ (pins:List (Addr×Obj)) (s:Shared) (σ:St) (H:Hp) (R:It->Hp->Prop),Inv X pins σ H s->wi σ H R ->
  wpAny (model X.prog X.w) X.A (eval iter X.env) (fun v s1=>wpAny (model X.prog X.w) X.A (pyIter v) (PIE X pins σ tg R) X.xe s1) X.xe s
theorem go_of {M:Model} {A:Around} {E:Value->Shared->Prop} {s:Shared} {tg:Expr} {it:Addr} {u:Value} {o:Obj} {n:String} {vs:Array Value} {Q:Unit->Shared->Prop} (ho:s.heap.get? it=some o) (hc:o.cls=.type n) (hd:o.data=.fields vs)
    (hn:["enumerate", "zip", "dict_itemiterator", "dict_reverseitemiterator", "odict_iterator", "itertools.zip_longest", "itertools.pairwise"].contains n=false) (hQ:Q () s):wpAny M A (letOwnedTupleGo tg (.ref it) u) Q E s:=by
  unfold letOwnedTupleGo
  cases tg <;> first
    | exact wpAny_pure hQ
    | (cases u <;> first
        | exact wpAny_pure hQ
        | (refine wpAny_bind (wpAny_load ho ?_)
           rw [hc,hd]
           show wpAny M A (if (["enumerate", "zip", "dict_itemiterator", "dict_reverseitemiterator", "odict_iterator", "itertools.zip_longest", "itertools.pairwise"].contains n&&vs[0]? == some (rawInt _))=true then _ else _) Q E s
           rw [if_neg (by intro h; rw [hn,Bool.false_and] at h; cases h)]
           exact wpAny_pure hQ))
def Itl (K:Frag) (a:Addr):It:=
 ⟨fun i H=>∃ xs x,SqL K H a xs/\xs[i]?=some x,fun i H x H'=>H'=H/\∀ xs,SqL K H a xs->xs[i]?=some x,fun i H=>∃ xs,SqL K H a xs/\xs.length<=i⟩
def Itt (K:Frag) (a:Addr):It:=
 ⟨fun i H=>∃ xs x,SqT K H a xs/\xs[i]?=some x,fun i H x H'=>H'=H/\∀ xs,SqT K H a xs->xs[i]?=some x,fun i H=>∃ xs,SqT K H a xs/\xs.length<=i⟩
def Itr (lo:Int) (n:Nat):It:=⟨fun i _=>i<n,fun i H x H'=>H'=H/\x=.int (lo+i),fun i _=>n<=i⟩
theorem turn_list {P:Program} {w:World} {K:Frag} {tg:Expr} (a it:Addr):Turn P w K tg (Itl K a) [it] it (fun i h=>h.IsListIter it a i) where
 mem:=by simp
 obj:=fun i h st b hb=>by
  have e:b=it:=by simpa using hb
  subst e
  obtain ⟨o,e,c,d⟩:=st
  exact ⟨o,e,fun v z=>by rw [d] at z; cases z⟩
 keep:=fun i h h' st k=>st.at fun o e=>k it (by simp) o e
 item:=by
  intro X hP hw hK hc i pins s σ H E I hf st hg
  subst hP hw hK
  obtain ⟨xs,x,hq,hx⟩:=hg
  obtain ⟨its,rv,p,hz⟩:=I.list hq
  obtain ⟨u,hu,ru⟩:=rv.get hx
  obtain ⟨f0,f1,f2,f3,f4,f5⟩:=hf it (by simp)
  refine wpAny_pyNext_list_item st p.isList (x:=u) (by simpa using hu) fun h' st' sb=>?_
  have I1:Inv X pins σ H { s with heap:=h' }:=I.turned (t':=s.toks) (fun b o hb e=>(sb.2 b hb).trans e) f0 f1 f3 f4 f5
  obtain ⟨o,e,c,d⟩:=id st'
  exact ⟨u,rfl,go_of (s:={ s with heap:=h' }) e c d (by decide) ⟨x,H,I1,ru,⟨rfl,fun ys hy=>by rw [I.list_inj hy hq]; exact hx⟩,st',fun b hb=>(hf b hb).1⟩⟩
 done:=by
  intro X hP hw hK hc i pins s σ H E I hf st hg
  subst hP hw hK
  obtain ⟨xs,hq,hx⟩:=hg
  obtain ⟨its,rv,p,hz⟩:=I.list hq
  obtain ⟨f0,f1,f2,f3,f4,f5⟩:=hf it (by simp)
  have hl:=rv.length
  exact wpAny_pyNext_list_end (I.ok.hd hc) st p.isList (by simp; omega) fun h' eb=>⟨rfl,I.turned (t':=s.toks) (fun b o hb e=>eb b o hb e) f0 f1 f3 f4 f5⟩
 self:=fun _ _ _ _ _ st h=>wpAny_pyIter_listiter st h
theorem turn_tuple {P:Program} {w:World} {K:Frag} {tg:Expr} (a it:Addr):Turn P w K tg (Itt K a) [it] it (fun i h=>h.IsTupleIter it a i) where
 mem:=by simp
 obj:=fun i h st b hb=>by
  have e:b=it:=by simpa using hb
  subst e
  obtain ⟨o,e,c,d⟩:=st
  exact ⟨o,e,fun v z=>by rw [d] at z; cases z⟩
 keep:=fun i h h' st k=>st.at fun o e=>k it (by simp) o e
 item:=by
  intro X hP hw hK hc i pins s σ H E I hf st hg
  subst hP hw hK
  obtain ⟨xs,x,hq,hx⟩:=hg
  obtain ⟨its,rv,p,hz⟩:=I.tuple hq
  obtain ⟨u,hu,ru⟩:=rv.get hx
  obtain ⟨f0,f1,f2,f3,f4,f5⟩:=hf it (by simp)
  refine wpAny_pyNext_tuple_item st (show s.heap.IsTuple a its.toArray from p) (x:=u) (by simpa using hu) fun h' st' sb=>?_
  have I1:Inv X pins σ H { s with heap:=h' }:=I.turned (t':=s.toks) (fun b o hb e=>(sb.2 b hb).trans e) f0 f1 f3 f4 f5
  obtain ⟨o,e,c,d⟩:=id st'
  exact ⟨u,rfl,go_of (s:={ s with heap:=h' }) e c d (by decide) ⟨x,H,I1,ru,⟨rfl,fun ys hy=>by rw [I.tuple_inj hy hq]; exact hx⟩,st',fun b hb=>(hf b hb).1⟩⟩
 done:=by
  intro X hP hw hK hc i pins s σ H E I hf st hg
  subst hP hw hK
  obtain ⟨xs,hq,hx⟩:=hg
  obtain ⟨its,rv,p,hz⟩:=I.tuple hq
  obtain ⟨f0,f1,f2,f3,f4,f5⟩:=hf it (by simp)
  have hl:=rv.length
  exact wpAny_pyNext_tuple_end (I.ok.hd hc) st (show s.heap.IsTuple a its.toArray from p) (by simp; omega) fun h' eb=>⟨rfl,I.turned (t':=s.toks) (fun b o hb e=>eb b o hb e) f0 f1 f3 f4 f5⟩
 self:=fun _ _ _ _ _ st h=>wpAny_pyIter_tupleiter st h
theorem turn_range {P:Program} {w:World} {K:Frag} {tg:Expr} (it:Addr) (lo:Int) (n:Nat):Turn P w K tg (Itr lo n) [it] it (fun i h=>IsRangeIter h it (lo+(i:Nat)*1) ((n:Int)-(i:Nat)) 1) where
 mem:=by simp
 obj:=fun i h st b hb=>by
  have e:b=it:=by simpa using hb
  subst e
  exact ⟨_,st,fun v z=>by
   have z':Data.fields _=Data.cell v:=z
   cases z'⟩
 keep:=fun i h h' st k=>k it (by simp) _ st
 item:=by
  intro X hP hw hK hc i pins s σ H E I hf st hg
  subst hP hw hK
  obtain ⟨f0,f1,f2,f3,f4,f5⟩:=hf it (by simp)
  have W:=Walks.range (prog:=X.prog) (w:=X.w) (I.ok.hd hc) it lo 1 n
  refine W.item i s _ _ hg st fun v h' tk hv st' kk=>?_
  obtain ⟨t,rfl⟩:=hv
  have I1:Inv X pins σ H { s with heap:=h',toks:=tk }:=I.turned (fun b o hb e=>kk b o (by simpa using hb) e) f0 f1 f3 f4 f5
  refine ⟨_,rfl,go_of (s:={ s with heap:=h',toks:=tk }) (n := "range_iterator") st' rfl rfl (by decide) ⟨.int (lo+i),H,I1,⟨t,?_⟩,⟨rfl,rfl⟩,st',fun b hb=>(hf b hb).1⟩⟩
  rw [Int.mul_one]
 done:=by
  intro X hP hw hK hc i pins s σ H E I hf st hg
  subst hP hw hK
  obtain ⟨f0,f1,f2,f3,f4,f5⟩:=hf it (by simp)
  exact wpAny_pyNext_range_end (I.ok.hd hc) st (by have:n<=i:=hg; omega) fun h' eb=>⟨rfl,I.turned (t':=s.toks) (fun b o hb e=>eb b o hb e) f0 f1 f3 f4 f5⟩
 self:=fun _ _ _ _ _ st h=>wpAny_pyIter_rangeiter st h
end L2
namespace L2
open PySem PySem.Spec PyProof.Rows
section
variable {X:Cx} {tg:Expr}
theorem range_it {pins:List (Addr×Obj)} {σ:St} {H:Hp} {s:Shared} {R:It->Hp->Prop} {E:Value->Shared->Prop} {lo hi:Int} {t u v:Tok} {tk:Nat} (I:Inv X pins σ H s) (h1:-(2^62)<=lo) (h2:lo<2^62) (h3:-(2^62)<=hi) (h4:hi<2^62)
  (q:R (Itr lo (hi-lo).toNat) H):wpAny (model X.prog X.w) X.A (pyIter (.ref s.heap.objs.size)) (PIE X pins σ tg R) E { s with heap:=s.heap.push { cls:=.type "range",data:=.fields #[.int lo t,.int hi u,.int 1 v] },toks:=tk }:=by
 refine wpAny_pyIter_range (IsRange.new ..) (small_one h1 h2 h3 h4) ?_
 have I1:Inv X pins σ H { s with heap:=s.heap.push { cls:=.type "range",data:=.fields #[.int lo t,.int hi u,.int 1 v] },toks:=tk }:=I.kept fun b o e=>Heap.get?_push_of_some _ e
 refine ⟨(s.heap.push { cls:=.type "range",data:=.fields #[.int lo t,.int hi u,.int 1 v] }).objs.size,[(s.heap.push { cls:=.type "range",data:=.fields #[.int lo t,.int hi u,.int 1 v] }).objs.size],_,_,H,rfl,
  I1.kept (t':=tk) fun b o e=>Heap.get?_push_of_some _ e,turn_range _ lo (hi-lo).toNat,?_,fun b hb=>?_,q⟩
 ·have e1:lo+((0:Nat):Int)*1=lo:=by simp
  have e2:(((hi-lo).toNat:Nat):Int)-((0:Nat):Int)=Builtin.Range.rangeSize lo hi 1:=by rw [rangeSize_one]; split <;> omega
  show IsRangeIter _ _ (lo+((0:Nat):Int)*1) ((((hi-lo).toNat:Nat):Int)-((0:Nat):Int)) 1
  rw [e1,e2]
  exact Heap.get?_push_size _ rfl
 ·have e:b=(s.heap.push { cls:=.type "range",data:=.fields #[.int lo t,.int hi u,.int 1 v] }).objs.size:=by simpa using hb
  subst e
  exact I1.fpOk (Nat.le_refl _) (I1.hok.fresh (Nat.le_refl _))
def iRng1 (ta:TA):TI:=fun σ H R=>ta σ H fun vs H1=>∃ j:Int,vs = [.int j] /\ -(2^62)<=j/\j<2^62/\R (Itr 0 j.toNat) H1
theorem pi_range1 {a:Expr} {ta:TA} {p pos:Pos} (hg:Gl X "range") (hm:X.mg "range" = none) (ha:PA X [a] ta) (hs:starEach [a] X.env = [(false,eval a X.env)]:=by rfl):PI X tg (.Call (.Name "range" p) [a] [] pos) (iRng1 ta):=by
 intro pins s σ H R I h
 refine Call_ (ld_blt I hg hm boot_range (PyProof.Rows.callWith_type1 (thn (ha pos pins s σ H _ I h) fun us s1 zz14=>?_) hs rfl))
 obtain ⟨vs,H1,I1,r1,q1⟩:=zz14
 obtain ⟨j,e,q1,q2,q⟩:=q1
 subst e
 cases r1 with
 | cons r rr=>
  cases rr
  obtain ⟨t,rfl⟩:=r
  exact call_range_1 (range_it I1 (by omega) (by omega) q1 q2 (by simpa using q))
def tFor (wi:TI) (g:TG) (tb:TS):TS:=fun D σ H=>wi σ H fun J H1=>∃ W:Nat->Nat->St->Hp->Prop,(∃ m,W 0 m σ H1)/\∀ i m σ H,W i m σ H ->
 (J.stop i H/\D.nx σ H)\/(J.go i H/\∃ N:St->Hp->Prop,(∀ σ' H',N σ' H'->∃ m',m'<m/\W (i+1) m' σ' H')/\∀ x H',J.yld i H x H'->g x σ H' fun σ2 H2=>tb { D with nx:=N,ct:=N,bk:=D.nx } σ2 H2)
def pinsAt (fp:List Addr) (h:Heap):List (Addr×Obj):=fp.filterMap fun b=>(h.get? b).map fun o=>(b,o)
theorem mem_pinsAt {fp:List Addr} {h:Heap} {b:Addr} {o:Obj} (hb:b∈fp) (e:h.get? b=some o):(b,o)∈pinsAt fp h:=List.mem_filterMap.mpr ⟨b,hb,by rw [e]; rfl⟩
theorem of_pinsAt {fp:List Addr} {h:Heap} {p:Addr×Obj} (hp:p∈pinsAt fp h):p.1∈fp/\h.get? p.1=some p.2:=by
 obtain ⟨b,hb,e⟩:=List.mem_filterMap.mp hp
 cases q:h.get? b with
 | none=>rw [q] at e; cases e
 | some o=>
  rw [q] at e
  have e':(b,o)=p:=Option.some.inj e
  subst e'
  exact ⟨hb,q⟩
theorem Inv.pinned {pins:List (Addr×Obj)} {σ:St} {H:Hp} {s:Shared} {fp:List Addr} (I:Inv X pins σ H s) (hf:∀ b∈fp,FpOk X pins H b) (ho:∀ b∈fp,∃ o,s.heap.get? b=some o/\∀ v,o.data≠.cell v):Inv X (pins++pinsAt fp s.heap) σ H s:=
 I.pins_of fun p hp=>(List.mem_append.mp hp).elim (fun z=>I.pin p (List.mem_append_right _ z)) fun z=>by
  obtain ⟨hb,e⟩:=of_pinsAt z
  obtain ⟨f0,f1,f2,_⟩:=hf p.1 hb
  obtain ⟨o,e',d⟩:=ho p.1 hb
  rw [e] at e'; cases e'
  exact ⟨e,f0,f1,f2,d⟩
theorem Inv.unpinned {pins pl:List (Addr×Obj)} {σ:St} {H:Hp} {s:Shared} (I:Inv X (pins++pl) σ H s):Inv X pins σ H s:=I.pins_of fun p hp=>I.pin p (List.mem_append_right _ (List.mem_append_left _ hp))
theorem ps_for {iter:Expr} {body:List Stmt} {wi:TI} {g:TG} {tb:TS} {pos:Pos} (hp:PassesOwn (model X.prog X.w) X.A X.env X.xe) (hc:X.calm=true) (hi:PI X tg iter wi) (hg:PG X tg g) (hb:PSs X body tb)
  (hs:∀ x,foldedSetIterable iter X.env x=pure x:=by intro _; rfl):PS X (.For tg iter body [] pos) (tFor wi g tb):=by
 intro pins s σ H D I h
 refine wpAny_For (thn (hi pins s σ H _ I h) fun v s1 h1=>thn h1 fun itv s2 h2=>?_) hs
 obtain ⟨it,fp,tn,J,H2,e,I2,T,st2,f2,W,⟨m0,w0⟩,turn⟩:=h2
 subst e
 -- what stays true of the iterator's objects through the loop
 have stat:∀ {H':Hp},(∀ b∈fp,H' b=none)->∀ b∈fp,FpOk X pins H' b:=fun hn b hb=>⟨hn b hb,(f2 b hb).2⟩
 refine codeAny_forLoop_any (fun n s'=>∃ i σ' H',Inv X pins σ' H' s'/\tn i s'.heap/\(∀ b∈fp,H' b=none)/\W i n σ' H') ?_ m0 ⟨0,σ,H2,I2,st2,fun b hb=>(f2 b hb).1,w0⟩
 rintro n s3 ⟨i,σ3,H3,I3,st3,fr3,w3⟩
 rcases turn i n σ3 H3 w3 with ⟨stop,qn⟩ | ⟨go,N,hN,step⟩
 ·refine wpAny_passesOwn hp (thn (T.done X rfl rfl rfl hc i pins s3 σ3 H3 X.xe I3 (stat fr3) st3 stop) fun r s4 ⟨hr,I4⟩=>?_)
  subst hr
  exact wpAny_execs_nil ⟨σ3,H3,I4,qn⟩
 ·refine wpAny_passesOwn hp (thn (T.item X rfl rfl rfl hc i pins s3 σ3 H3 X.xe I3 (stat fr3) st3 go) fun r s4 ⟨u,hr,h4⟩=>?_)
  subst hr
  refine wpAny_passesOwn hp (thn h4 fun _ s5 zz17=>?_)
  obtain ⟨x,H5,I5,r5,y5,st5,fr5⟩:=zz17
  have I5':=I5.pinned (stat fr5) (T.obj _ _ st5)
  refine wpAny_passesOwn hp (thn (hg _ s5 σ3 H5 x u _ I5' r5 (step x H5 y5)) fun _ s6 zz18=>?_)
  obtain ⟨σ6,H6,I6,q6⟩:=zz18
  refine wpAny_passesOwn hp (thn (hb _ s6 σ6 H6 _ I6 q6) fun f s7 q7=>?_)
  have again:∀ {σ7:St} {H7:Hp},Inv X (pins++pinsAt fp s5.heap) σ7 H7 s7->N σ7 H7->∃ m,m<n/\∃ i σ' H',Inv X pins σ' H' s7/\tn i s7.heap/\(∀ b∈fp,H' b=none)/\W i m σ' H':=fun {σ7 H7} I7 n7=>by
   obtain ⟨m',hm,w7⟩:=hN σ7 H7 n7
   refine ⟨m',hm,i+1,σ7,H7,I7.unpinned,T.keep _ _ _ st5 fun b hb o e=>(I7.pin (b,o) (List.mem_append_right _ (List.mem_append_right _ (mem_pinsAt hb e)))).1,fun b hb=>?_,w7⟩
   obtain ⟨o,e,d⟩:=T.obj _ _ st5 b hb
   exact (I7.pin (b,o) (List.mem_append_right _ (List.mem_append_right _ (mem_pinsAt hb e)))).2.1
  cases f with
  | next=>obtain ⟨σ7,H7,I7,n7⟩:=q7; exact again I7 n7
  | cont=>obtain ⟨σ7,H7,I7,n7⟩:=q7; exact again I7 n7
  | brk=>obtain ⟨σ7,H7,I7,q7⟩:=q7; exact ⟨σ7,H7,I7.unpinned,q7⟩
  | ret v=>obtain ⟨x7,σ7,H7,I7,r7,q7⟩:=q7; exact ⟨x7,σ7,H7,I7.unpinned,r7,q7⟩
end
end L2
namespace L2
open PySem PySem.Spec PyProof.Rows
abbrev R2:=V->V->Hp->VK->Prop
def OpR (X:Cx) (f:Value->Value->Sem Value) (r:R2):Prop:=
 ∀ (pins:List (Addr×Obj)) (s:Shared) (σ:St) (H:Hp) (x y:V) (v u:Value) (Q:VK),Inv X pins σ H s->RelV x v->RelV y u->r x y H Q ->
  wpAny (model X.prog X.w) X.A (f v u) (EP X pins σ Q) X.xe s
def CallR (X:Cx) (f:Value) (r:List V->Hp->VK->Prop):Prop:=
 ∀ (pins:List (Addr×Obj)) (s:Shared) (σ:St) (H:Hp) (xs:List V) (us:List Value) (Q:VK),Inv X pins σ H s->Vals xs us->r xs H Q ->
  wpAny (model X.prog X.w) X.A (call f us) (EP X pins σ Q) X.xe s
def tOp (r:R2) (ta tb:TE):TE:=fun σ H Q=>ta σ H fun x H1=>tb σ H1 fun y H2=>r x y H2 Q
def rI (C:Int->Int->Prop) (g:Int->Int->V):R2:=fun x y H Q=>∃ i j,x=.int i/\y=.int j/\C i j/\Q (g i j) H
def rI0 (g:Int->Int->V):R2:=fun x y H Q=>∃ i j,x=.int i/\y=.int j/\Q (g i j) H
section
variable {X:Cx} {a b c:Expr} {ta tb tc:TE} {pos:Pos}
theorem binT (ha:PE X a ta) (hb:PE X b tb) {pins:List (Addr×Obj)} {s:Shared} {σ:St} {H:Hp} {R:V->V->Hp->Prop} (I:Inv X pins σ H s)
  (h:ta σ H fun x H1=>tb σ H1 fun y H2=>R x y H2) {Q:Value->Shared->Prop} {f:Value->Value->Sem Value}
  (hf:∀ v u s2 x y H2,Inv X pins σ H2 s2->RelV x v->RelV y u->R x y H2->wpAny (model X.prog X.w) X.A (f v u) Q X.xe s2) :
  wpAny (model X.prog X.w) X.A (eval a X.env) (fun v s₁=>wpAny (model X.prog X.w) X.A (eval b X.env) (fun u s₂=>wpAny (model X.prog X.w) X.A (f v u) Q X.xe s₂) X.xe s₁) X.xe s:=by
 refine thn (ha pins s σ H _ I h) fun v s1 zz19=>?_
 obtain ⟨x,H1,I1,r1,q1⟩:=zz19
 refine thn (hb pins s1 σ H1 _ I1 q1) fun u s2 zz20=>?_
 obtain ⟨y,H2,I2,r2,q2⟩:=zz20
 exact hf v u s2 x y H2 I2 r1 r2 q2
theorem pe_op {op:Operator} {r:R2} (ho:OpR X (binaryOp op) r) (ha:PE X a ta) (hb:PE X b tb):PE X (.BinOp a op b pos) (tOp r ta tb):=by
 intro pins s σ H Q I h
 exact wpAny_BinOp (binT ha hb I h fun v u s2 x y H2 I2 rx ry q=>ho pins s2 σ H2 x y v u Q I2 rx ry q)
theorem opI {f:Value->Value->Sem Value} {C:Int->Int->Prop} {g:Int->Int->Int}
  (rule:∀ (i j:Int) (t u:Tok) (s:Shared) (Q:Value->Shared->Prop) (E:Value->Shared->Prop),C i j->Q (.int (g i j) s.toks) { s with toks:=s.toks+1 }->wpAny (model X.prog X.w) X.A (f (.int i t) (.int j u)) Q E s) :
  OpR X f (rI C fun i j=>.int (g i j)):=by
 intro pins s σ H x y v u Q I rx ry h
 obtain ⟨i,j,rfl,rfl,hc,q⟩:=h
 obtain ⟨t,rfl⟩:=rx
 obtain ⟨t',rfl⟩:=ry
 exact rule i j t t' s _ _ hc ⟨.int (g i j),H,I.tok _,⟨_,rfl⟩,q⟩
theorem opI0 {f:Value->Value->Sem Value} {g:Int->Int->Int}
  (rule:∀ (i j:Int) (t u:Tok) (s:Shared) (Q:Value->Shared->Prop) (E:Value->Shared->Prop),Q (.int (g i j) s.toks) { s with toks:=s.toks+1 }->wpAny (model X.prog X.w) X.A (f (.int i t) (.int j u)) Q E s) :
  OpR X f (rI0 fun i j=>.int (g i j)):=by
 intro pins s σ H x y v u Q I rx ry h
 obtain ⟨i,j,rfl,rfl,q⟩:=h
 obtain ⟨t,rfl⟩:=rx
 obtain ⟨t',rfl⟩:=ry
 exact rule i j t t' s _ _ ⟨.int (g i j),H,I.tok _,⟨_,rfl⟩,q⟩
theorem opB0 {f:Value->Value->Sem Value} {g:Int->Int->Bool}
  (rule:∀ (i j:Int) (t u:Tok) (s:Shared) (Q:Value->Shared->Prop) (E:Value->Shared->Prop),Q (.bool (g i j)) s->wpAny (model X.prog X.w) X.A (f (.int i t) (.int j u)) Q E s) :
  OpR X f (rI0 fun i j=>.bl (g i j)):=by
 intro pins s σ H x y v u Q I rx ry h
 obtain ⟨i,j,rfl,rfl,q⟩:=h
 obtain ⟨t,rfl⟩:=rx
 obtain ⟨t',rfl⟩:=ry
 exact rule i j t t' s _ _ ⟨.bl (g i j),H,I,rfl,q⟩
def CDiv (i j:Int):Prop:=0<j/\j<1073741824
def CPow (i j:Int):Prop:=0<=j/\j<=1000000/\i.natAbs<2^64
def CMul (i j:Int):Prop:=(-(2^64)<i/\i<2^64)\/(-(2^64)<j/\j<2^64)
theorem CMul.ok {i j:Int} (h:CMul i j):IntMulOk i j:=by
 rcases h with ⟨h1,h2⟩ | ⟨h1,h2⟩
 ·exact .of_left (intBits_le_64 h1 h2)
 ·exact .of_right (intBits_le_64 h1 h2)
theorem op_add:OpR X (binaryOp .Add) (rI0 fun i j=>.int (i+j)):=opI0 fun _ _ _ _ _ _ _ q=>add_int q
theorem op_fdiv:OpR X (binaryOp .FloorDiv) (rI CDiv fun i j=>.int (i/j)):=opI fun i j _ _ _ _ _ hc q=>by
 have h1:(0:Int)<j:=hc.1
 have h2:j<1073741824:=hc.2
 exact floordiv_int (by omega) (by rw [Int.fdiv_eq_ediv_of_nonneg i (by omega)]; exact q) (.inl (PyProof.noPylong_small (by omega)))
theorem op_mod:OpR X (binaryOp .Mod) (rI (fun _ j=>0<j) fun i j=>.int (i%j)):=opI fun i j _ _ _ _ _ hc q=>by
 have h1:(0:Int)<j:=hc
 exact mod_int' (by omega) (by rw [Int.fmod_eq_emod_of_nonneg i (by omega)]; exact q)
theorem op_modN:OpR X (binaryOp .Mod) (rI (fun _ j=>j≠0) fun i j=>.int (i.fmod j)):=opI fun _ _ _ _ _ _ _ hc q=>mod_int' hc q
theorem op_pow:OpR X (binaryOp .Pow) (rI CPow fun i j=>.int (i^j.toNat)):=opI fun _ _ _ _ _ _ _ hc q=>pow_int_small hc.1 hc.2.1 hc.2.2 q
end
def scal:V->V->Bool
 | .non,.non=>true | .non,.int _=>true | .int _,.non=>true | .non,.bl _=>true | .bl _,.non=>true | .non,.str _=>true | .str _,.non=>true
 | .int _,.int _=>true | .bl _,.bl _=>true | .str _,.str _=>true | .byt _,.byt _=>true
 | .int _,.str _=>true | .str _,.int _=>true | .bl _,.str _=>true | .str _,.bl _=>true
 | _,_=>false
def rEq:R2:=fun x y H Q=>scal x y=true/\Q (.bl (decide (x=y))) H
def rNe:R2:=fun x y H Q=>scal x y=true/\Q (.bl (!decide (x=y))) H
theorem dec_int {i j:Int}:decide (V.int i=V.int j)=(i == j):=by
 rw [Bool.eq_iff_iff]
 simp
theorem dec_bl {i j:Bool}:decide (V.bl i=V.bl j)=(i == j):=by
 rw [Bool.eq_iff_iff]
 simp
theorem dec_str {i j:Str}:decide (V.str i=V.str j)=(i == j):=by
 rw [Bool.eq_iff_iff]
 simp
theorem dec_byt {i j:Array UInt8}:decide (V.byt i=V.byt j)=(i.toList == j.toList):=by
 rw [Bool.eq_iff_iff]
 cases i
 cases j
 simp
section
variable {X:Cx} {a b c:Expr} {ta tb tc:TE} {pos:Pos}
theorem fin_bl {pins:List (Addr×Obj)} {σ:St} {H:Hp} {s:Shared} {Q:VK} {k k':Bool} (I:Inv X pins σ H s) (q:Q (.bl k) H) (e:k=k'):EP X pins σ Q (.bool k') s:=by
 subst e
 exact ⟨.bl k,H,I,rfl,q⟩
theorem op_eq:OpR X (compareOp .Eq) rEq:=by
 intro pins s σ H x y v u Q I rx ry h
 obtain ⟨hs,q⟩:=h
 cases x with
 | non=>
  cases rx
  cases y with
  | non=>cases ry; exact PySem.EqNone.eq_none_none (fin_bl I q (by simp))
  | bl j=>cases ry; exact PySem.EqNone.eq_none_bool (fin_bl I q (by simp))
  | int j=>obtain ⟨t',rfl⟩:=ry; exact PySem.EqNone.eq_none_int (fin_bl I q (by simp))
  | str j=>obtain ⟨t',rfl⟩:=ry; exact PySem.EqNone.eq_none_str (fin_bl I q (by simp))
  | _=>exact absurd (show false=true from hs) Bool.false_ne_true
 | bl i=>
  cases rx
  cases y with
  | non=>cases ry; exact PySem.EqNone.eq_bool_none (fin_bl I q (by simp))
  | bl j=>cases ry; exact eq_bool (fin_bl I q dec_bl)
  | str j=>obtain ⟨t',rfl⟩:=ry; exact PySem.EqMixed.eq_bool_str (fin_bl I q (by simp))
  | _=>exact absurd (show false=true from hs) Bool.false_ne_true
 | int i=>
  obtain ⟨t,rfl⟩:=rx
  cases y with
  | non=>cases ry; exact PySem.EqNone.eq_int_none (fin_bl I q (by simp))
  | int j=>obtain ⟨t',rfl⟩:=ry; exact eq_int (fin_bl I q dec_int)
  | str j=>obtain ⟨t',rfl⟩:=ry; exact PySem.EqMixed.eq_int_str (fin_bl I q (by simp))
  | _=>exact absurd (show false=true from hs) Bool.false_ne_true
 | str i=>
  obtain ⟨t,rfl⟩:=rx
  cases y with
  | non=>cases ry; exact PySem.EqNone.eq_str_none (fin_bl I q (by simp))
  | bl j=>cases ry; exact PySem.EqMixed.eq_str_bool (fin_bl I q (by simp))
  | int j=>obtain ⟨t',rfl⟩:=ry; exact PySem.EqMixed.eq_str_int (fin_bl I q (by simp))
  | str j=>obtain ⟨t',rfl⟩:=ry; exact eq_str (fin_bl I q dec_str)
  | _=>exact absurd (show false=true from hs) Bool.false_ne_true
 | byt i=>
  obtain ⟨t,rfl⟩:=rx
  cases y with
  | byt j=>obtain ⟨t',rfl⟩:=ry; exact PySem.W.eq_bytes (fin_bl I q dec_byt)
  | _=>exact absurd (show false=true from hs) Bool.false_ne_true
 | _=>cases y <;> exact absurd (show false=true from hs) Bool.false_ne_true
theorem op_ne:OpR X (compareOp .NotEq) rNe:=by
 intro pins s σ H x y v u Q I rx ry h
 obtain ⟨hs,q⟩:=h
 cases x with
 | non=>
  cases rx
  cases y with
  | non=>cases ry; exact PySem.EqNone.ne_none_none (fin_bl I q (by simp))
  | bl j=>cases ry; exact PySem.EqNone.ne_none_bool (fin_bl I q (by simp))
  | int j=>obtain ⟨t',rfl⟩:=ry; exact PySem.EqNone.ne_none_int (fin_bl I q (by simp))
  | str j=>obtain ⟨t',rfl⟩:=ry; exact PySem.EqNone.ne_none_str (fin_bl I q (by simp))
  | _=>exact absurd (show false=true from hs) Bool.false_ne_true
 | bl i=>
  cases rx
  cases y with
  | non=>cases ry; exact PySem.EqNone.ne_bool_none (fin_bl I q (by simp))
  | bl j=>cases ry; exact ne_bool (fin_bl I q (congrArg not dec_bl))
  | str j=>obtain ⟨t',rfl⟩:=ry; exact PySem.EqMixed.ne_bool_str (fin_bl I q (by simp))
  | _=>exact absurd (show false=true from hs) Bool.false_ne_true
 | int i=>
  obtain ⟨t,rfl⟩:=rx
  cases y with
  | non=>cases ry; exact PySem.EqNone.ne_int_none (fin_bl I q (by simp))
  | int j=>obtain ⟨t',rfl⟩:=ry; exact ne_int (fin_bl I q (congrArg not dec_int))
  | str j=>obtain ⟨t',rfl⟩:=ry; exact PySem.EqMixed.ne_int_str (fin_bl I q (by simp))
  | _=>exact absurd (show false=true from hs) Bool.false_ne_true
 | str i=>
  obtain ⟨t,rfl⟩:=rx
  cases y with
  | non=>cases ry; exact PySem.EqNone.ne_str_none (fin_bl I q (by simp))
  | bl j=>cases ry; exact PySem.EqMixed.ne_str_bool (fin_bl I q (by simp))
  | int j=>obtain ⟨t',rfl⟩:=ry; exact PySem.EqMixed.ne_str_int (fin_bl I q (by simp))
  | str j=>obtain ⟨t',rfl⟩:=ry; exact ne_str (fin_bl I q (congrArg not dec_str))
  | _=>exact absurd (show false=true from hs) Bool.false_ne_true
 | byt i=>
  obtain ⟨t,rfl⟩:=rx
  cases y with
  | byt j=>obtain ⟨t',rfl⟩:=ry; exact PySem.W.ne_bytes (fin_bl I q (congrArg not dec_byt))
  | _=>exact absurd (show false=true from hs) Bool.false_ne_true
 | _=>cases y <;> exact absurd (show false=true from hs) Bool.false_ne_true
theorem op_lt:OpR X (compareOp .Lt) (rI0 fun i j=>.bl (decide (i<j))):=opB0 fun _ _ _ _ _ _ _ q=>lt_int q
theorem op_le:OpR X (compareOp .LtE) (rI0 fun i j=>.bl (decide (i<=j))):=opB0 fun _ _ _ _ _ _ _ q=>le_int q
theorem op_gt:OpR X (compareOp .Gt) (rI0 fun i j=>.bl (decide (j<i))):=opB0 fun _ _ _ _ _ _ _ q=>gt_int q
theorem op_in_str:OpR X (compareOp .In) (fun x y H Q=>∃ i j,x=.str i/\y=.str j/\Q (.bl (!(Builtin.Str.occurrences j i 0 j.length 1).isEmpty)) H):=by
 intro pins s σ H x y v u Q I rx ry h
 obtain ⟨i,j,rfl,rfl,q⟩:=h
 obtain ⟨t,rfl⟩:=rx
 obtain ⟨t',rfl⟩:=ry
 exact in_str (fin_bl I q rfl)
theorem op_isN:OpR X (compareOp .Is) (fun x y H Q=>y=.non/\Q (.bl (decide (x=.non))) H):=by
 intro pins s σ H x y v u Q I rx ry h
 obtain ⟨rfl,q⟩:=h
 cases ry
 refine is_none_gen (fin_bl I q ?_)
 cases x <;> first
  | (cases rx; rfl)
  | (obtain ⟨t,rfl⟩:=rx; rfl)
theorem nomark (b:Expr) {op:CmpOp} (h:op≠.In:=by decide) (h2:op≠.NotIn:=by decide):behindInMarks op b=false:=by
 have e1:(op == CmpOp.In)=false:=by cases op <;> first | rfl | exact absurd rfl h
 have e2:(op == CmpOp.NotIn)=false:=by cases op <;> first | rfl | exact absurd rfl h2
 cases b <;> simp [behindInMarks,e1,e2]
theorem pe_cmpR {op:CmpOp} {r:R2} (ho:OpR X (compareOp op) r) (ha:PE X a ta) (hb:PE X b tb) (hm:behindInMarks op b=false):PE X (.Compare a [op] [b] pos) (tOp r ta tb):=by
 intro pins s σ H Q I h
 exact wpAny_Compare1 (binT ha hb I h fun v u s2 x y H2 I2 rx ry q=>ho pins s2 σ H2 x y v u Q I2 rx ry q) hm
def tTest (t:TE):TT:=fun σ H Q=>t σ H fun x H'=>∃ k,x=.bl k/\Q k H'
theorem pt_cmpR {op:CmpOp} {r:R2} (ho:OpR X (compareOp op) r) (ha:PE X a ta) (hb:PE X b tb) (hm:behindInMarks op b=false):PT X (.Compare a [op] [b] pos) (tTest (tOp r ta tb)):=by
 intro pins s σ H Q I h
 refine wpAny_isTrue_Compare1 (thn (ha pins s σ H _ I h) fun v s1 ⟨x,H1,I1,r1,q1⟩=>thn (hb pins s1 σ H1 _ I1 q1) fun u s2 ⟨y,H2,I2,r2,q2⟩=>
  thn (ho pins s2 σ H2 x y v u _ I2 r1 r2 q2) fun c s3 ⟨z,H3,I3,r3,k,e,q3⟩=>?_) hm
 subst e
 cases r3
 exact wpAny_truthy_bool ⟨H3,I3,q3⟩
def tChain (r r':R2) (ta tb tc:TE):TE:=fun σ H Q=>ta σ H fun x H1=>tb σ H1 fun y H2=>r x y H2 fun z H3=>∃ k,z=.bl k /\
 (if k=true then tc σ H3 fun w' H4=>r' y w' H4 Q else Q (.bl false) H3)
theorem pt_chain {op op':CmpOp} {r r':R2} (ho:OpR X (compareOp op) r) (ho':OpR X (compareOp op') r') (ha:PE X a ta) (hb:PE X b tb) (hc:PE X c tc)
  (hm:lastMarks [op,op'] [b,c]=false:=by with_unfolding_all rfl):PT X (.Compare a [op,op'] [b,c] pos) (tTest (tChain r r' ta tb tc)):=by
 intro pins s σ H Q I h
 refine isTrue_chain (thn (ha pins s σ H _ I h) fun v s1 ⟨x,H1,I1,r1,q1⟩=>test_link (thn (hb pins s1 σ H1 _ I1 q1) fun u s2 ⟨y,H2,I2,r2,q2⟩=>
  thn (ho pins s2 σ H2 x y v u _ I2 r1 r2 q2) fun d s3 ⟨z,H3,I3,r3,k,e,q3⟩=>?_)) hm
 subst e
 cases r3
 refine wpAny_truthy_bool ?_
 cases k with
 | false=>
  obtain ⟨k',e',q'⟩:=q3
  cases e'
  exact ite_ff ⟨H3,I3,q'⟩
 | true=>
  refine ite_tt (test_last (thn (hc pins s3 σ H3 _ I3 q3) fun w' s4 ⟨z',H4,I4,r4,q4⟩=>thn (ho' pins s4 σ H4 y z' u w' _ I4 r2 r4 q4) fun d' s5 zz28=>?_))
  obtain ⟨z2,H5,I5,r5,k2,e2,q5⟩:=zz28
  subst e2
  cases r5
  exact wpAny_truthy_bool ⟨H5,I5,q5⟩
theorem line63:(sizeLine:Nat)<2^63:=by rw [sizeLine_eq]; decide
theorem op_add_str:OpR X (binaryOp .Add) (fun x y H Q=>∃ i j,x=.str i/\y=.str j/\i.length+j.length<=sizeLine/\Q (.str (i++j)) H):=by
 intro pins s σ H x y v u Q I rx ry h
 obtain ⟨i,j,rfl,rfl,hz,q⟩:=h
 obtain ⟨t,rfl⟩:=rx
 obtain ⟨t',rfl⟩:=ry
 exact add_str (fun t' tk=>⟨.str (i++j),H,I.tok _,⟨_,rfl⟩,q⟩) hz
theorem vals1 {x:V} {us:List Value} (r:Vals [x] us):∃ u,us = [u]/\RelV x u:=by
 cases r with
 | cons r1 r2=>cases r2; exact ⟨_,rfl,r1⟩
theorem vals2 {x y:V} {us:List Value} (r:Vals [x,y] us):∃ u w',us = [u,w']/\RelV x u/\RelV y w':=by
 cases r with
 | cons r1 r2=>
  cases r2 with
  | cons r3 r4=>cases r4; exact ⟨_,_,rfl,r1,r3⟩
theorem call_str_int:CallR X (.type "str") (fun xs H Q=>∃ i,xs = [.int i]/\i.natAbs.log2<1920/\Q (.str (toString i)) H):=by
 intro pins s σ H xs us Q I r h
 obtain ⟨i,rfl,hz,q⟩:=h
 obtain ⟨u,rfl,t,rfl⟩:=vals1 r
 exact PySem.P.str_of_int hz ⟨.str _,H,I.tok _,⟨_,rfl⟩,q⟩
end
end L2
namespace L2
open PySem PySem.Spec PyProof.Rows
structure ObjM (h:Heap) (x dx C:Addr) (mA:Str->Option Value):Prop where
 obj:h.get? x=some (PySem.W.instObj C dx)
 ns:h.Ns1 dx mA
 ne:dx≠x
theorem lookIn_ns {h:Heap} {dx:Addr} {mA:Str->Option Value} (n:h.Ns1 dx mA):∃ od,h.get? dx=some od/\∀ name,PySem.W.lookIn name od=some (mA name):=by
 obtain ⟨o,es,ep,ho,hd,hk,_,hm⟩:=n
 refine ⟨o,ho,fun name=>?_⟩
 have e:=hm name
 unfold nsFind findBy at e
 rw [<- Array.find?_toList] at e
 unfold PySem.W.lookIn
 rw [hd]
 dsimp only
 split
 ·rename_i y q
  rw [q] at e
  exact congrArg some e
 ·rename_i q
  rw [q] at e
  have a:es.toList.any (·.refKey)=false:=by
   rw [List.any_eq_false]
   intro y hy
   obtain ⟨z,t,hkey⟩:=hk y (Array.mem_toList_iff.mp hy)
   simp [DictEntry.refKey,hkey]
  have a':¬ es.toList.any (·.refKey)=true:=by rw [a]; exact Bool.false_ne_true
  rw [if_neg a']
  exact congrArg some e
theorem ObjM.look {h:Heap} {x dx C:Addr} {mA:Str->Option Value} (I:ObjM h x dx C mA):∃ od,PySem.W.InstAt h x (PySem.W.instObj C dx) C (some od)/\∀ name,PySem.W.lookIn name od=some (mA name):=
 let ⟨od,ho,hl⟩:=lookIn_ns I.ns
 ⟨od,⟨I.obj,rfl,rfl,ho⟩,hl⟩
section
variable {prog:Program} {w:World} {A:Around} {E:Value->Shared->Prop} {s:Shared} {K:Frag} {x dx C f:Addr} {mA:Str->Option Value} {name:Str} {v:Value}
end
section
variable {P:Program} {w:World} {H H':Hp} {h h':Heap} {a C dx:Addr} {fs fs':List (Str×V)}
theorem ins_get (hok:HOk P w H h) (e:H a=some (.ins C dx fs)):∃ mA,ObjM h a dx C mA/\(∀ f,RelO (fs.lookup f) (mA f))/\PySem.Within mA (fs.map (·.1))/\fs.length<=1000/\H dx=some (.own a):=by
 obtain ⟨d,z,ne,ob,mA,n,r,q⟩:=(show ObjOk P w H h a (.ins C dx fs) from hok a _ e)
 exact ⟨mA,⟨ob,n,ne⟩,r,q,z,d⟩
end
structure Cls (K:Frag) (C:Addr):Prop where
 pg:PySem.W.plainGet K C Str.empty=true
 hd:PySem.W.hasDictIn K C=true
 po:PySem.W.plainOver K C=true
 sa:PySem.W.findIn K (.ref C) "__setattr__" = some (some (.builtin "object.__setattr__"))
theorem Cls.get {K:Frag} {C:Addr} (c:Cls K C) (f:Str):PySem.W.plainGet K C f=true:=c.pg
section
variable {X:Cx} {pins:List (Addr×Obj)} {σ:St} {H:Hp} {s:Shared} {a C dx:Addr} {fs:List (Str×V)} {f:Str} {v:V} {A:Around} {E:Value->Shared->Prop}
end
section
variable {X:Cx} {o e value:Expr} {f:Str} {pos pos' tpos:Pos} {ta tv:TE}
end
section
variable {X:Cx} {pins:List (Addr×Obj)} {σ:St} {H:Hp} {s:Shared} {A:Around} {E:Value->Shared->Prop} {Q:Value->Shared->Prop} {c:Value} {b:Bool}
inductive TyOf (K:Frag) (H:Hp):V->Value->Prop where
 | non:TyOf K H .non (.type "NoneType")
 | bl (x:Bool):TyOf K H (.bl x) (.type "bool")
 | int (i:Int):TyOf K H (.int i) (.type "int")
 | str (x:Str):TyOf K H (.str x) (.type "str")
 | flt (x:UInt64):TyOf K H (.flt x) (.type "float")
 | lst {a:Addr} {xs:List V} (e:H a=some (.lst xs)):TyOf K H (.ref a) (.type "list")
 | frz {a:Addr} {o:Obj} {xs:List V} (e:H a=some (.frz o (.lst xs))):TyOf K H (.ref a) (.type "list")
 | tup {a:Addr} {xs:List V} (e:H a=some (.tup xs)):TyOf K H (.ref a) (.type "tuple")
 | dK {a:Addr} {kvs:List (Key×V)} (e:H a=some (.dK kvs)):TyOf K H (.ref a) (.type "dict")
 | dT {a:Addr} {kvs:List (List Key×V)} (e:H a=some (.dT kvs)):TyOf K H (.ref a) (.type "dict")
 | ins {a C dx:Addr} {fs:List (Str×V)} (e:H a=some (.ins C dx fs)) (cl:Cls K C) (ha:PySem.W.findIn K (.ref C) "__class__" = some (some (.builtin "object.__class__")))
   (hn:PySem.W.specialIn K (.builtin "object.__class__") "__get__" = some (some (.builtin "getset_descriptor.__get__"))) (htk:PySem.W.takesIn K (.builtin "object.__class__")=some true)
   (hm:PySem.W.mroIn K C (.type "object")=some true):TyOf K H (.ref a) (.ref C)
theorem isinst_ok {x:V} {u t:Value} (I:Inv X pins σ H s) (rx:RelV x u) (ty:TyOf X.K H x t) (e:PySem.W.kitOne X.K t c=some b) (h:∀ tk,Q (.bool b) { s with toks:=tk }) :
  wpAny (model X.prog X.w) A (call (.builtin "isinstance") [u,c]) Q E s:=by
 cases ty with
 | non=>cases (show u=Value.none from rx); exact PySem.W.kia_one PySem.W.kitx_none I.kIn True.intro e (fun z=>nomatch z) h
 | bl y=>cases (show u=Value.bool y from rx); exact PySem.W.kia_one PySem.W.kitx_bool I.kIn True.intro e (fun z=>nomatch z) h
 | int i=>obtain ⟨t,q⟩:=(show ∃ t,u=Value.int i t from rx); cases q; exact PySem.W.kia_one PySem.W.kitx_int I.kIn True.intro e (fun z=>nomatch z) h
 | str y=>obtain ⟨t,q⟩:=(show ∃ t,u=Value.str y t from rx); cases q; exact PySem.W.kia_one PySem.W.kitx_str I.kIn True.intro e (fun z=>nomatch z) h
 | flt y=>obtain ⟨t,q⟩:=(show ∃ t,u=Value.float y t from rx); cases q; exact PySem.W.kia_one PySem.W.kitx_float I.kIn True.intro e (fun z=>nomatch z) h
 | @lst a xs ea=>
  cases (show u=Value.ref a from rx)
  obtain ⟨_,_,n,_,h1⟩:=(show ObjOk X.prog X.w H s.heap a (.lst xs) from I.hok a _ ea)
  exact PySem.W.kia_one PySem.W.kitx_list I.kIn ⟨_,h1,rfl⟩ e (fun z=>nomatch z) h
 | @frz a ob xs ea=>
  cases (show u=Value.ref a from rx)
  obtain ⟨_,_,_,n,_,h1⟩:=(show ObjOk X.prog X.w H s.heap a (.frz ob (.lst xs)) from I.hok a _ ea)
  exact PySem.W.kia_one PySem.W.kitx_list I.kIn ⟨_,h1,rfl⟩ e (fun z=>nomatch z) h
 | @tup a xs ea=>
  cases (show u=Value.ref a from rx)
  obtain ⟨_,_,_,p⟩:=(show ObjOk X.prog X.w H s.heap a (.tup xs) from I.hok a _ ea)
  obtain ⟨o,h1,h2,_⟩:=p
  exact PySem.W.kia_one PySem.W.kitx_tuple I.kIn ⟨o,h1,h2⟩ e (fun z=>nomatch z) h
 | @dK a kvs ea=>
  cases (show u=Value.ref a from rx)
  obtain ⟨_,_,vs,_,p⟩:=(show ObjOk X.prog X.w H s.heap a (.dK kvs) from I.hok a _ ea)
  obtain ⟨o,es,ep,h1,h2,_⟩:=p
  exact PySem.W.kia_one PySem.W.kitx_dict I.kIn ⟨o,h1,h2.1⟩ e (fun z=>nomatch z) h
 | @dT a kvs ea=>
  cases (show u=Value.ref a from rx)
  obtain ⟨_,_,xs,_,o,es,ep,h1,h2,_⟩:=(show ObjOk X.prog X.w H s.heap a (.dT kvs) from I.hok a _ ea)
  exact PySem.W.kia_one PySem.W.kitx_dict I.kIn ⟨o,h1,h2.1⟩ e (fun z=>nomatch z) h
 | @ins a C dx fs ea cl ha hn htk hm=>
  cases (show u=Value.ref a from rx)
  obtain ⟨mA,O,_⟩:=ins_get I.hok ea
  obtain ⟨od,J,_⟩:=O.look
  exact PySem.W.kia_one (PySem.W.kitx_own (cl.get _) cl.hd ha hn htk hm) I.kIn J e (fun z=>nomatch z) h
end
end L2
namespace L2
open PySem PySem.Spec PyProof.Rows
structure Room (k:Nat) (A:Around):Prop where
 hd:A.handled=none
 dp:A.depth+3*k+5<recursionLimit
 un:A.units+16*k+200<cLine
theorem Room.mono {j k:Nat} {A:Around} (r:Room k A) (h:j<=k):Room j A:=⟨r.hd,by have:=r.dp; omega,by have:=r.un; omega⟩
theorem Room.deeper {k:Nat} {A:Around} (r:Room (k+1) A) (env:Env):Room k (A.deeper env):=
 ⟨r.hd,by have:=r.dp; show A.depth+1+3*k+5<_; omega,by have:=r.un; show A.units+3+16*k+200<_; omega⟩
theorem Room.depth {k:Nat} {A:Around} (r:Room k A):A.depth<recursionLimit:=by have:=r.dp; omega
theorem Room.units {k:Nat} {A:Around} (r:Room k A):A.units+64<cLine:=by have:=r.un; omega
def tNil:TA:=fun _ H Q=>Q [] H
def tCons (ta:TE) (tr:TA):TA:=fun σ H Q=>ta σ H fun x H1=>tr σ H1 fun xs H2=>Q (x::xs) H2
section
variable {X:Cx} {e:Expr} {es:List Expr} {te:TE} {t:TA} {pos:Pos}
theorem pa_nil:PA X [] tNil:=fun _ _ _ _ H Q I h=>Calls.spliced_nil ⟨[],H,I,.nil,h⟩
theorem pa_cons (ha:PE X e te) (hr:PA X es t) (hs:starEach (e::es) X.env=(false,eval e X.env)::starEach es X.env:=by rfl):PA X (e::es) (tCons te t):=by
 intro pos pins s σ H Q I h
 rw [hs]
 show wpAny _ _ (spliced ((false,eval e X.env)::backTo pos (starEach es X.env))) _ _ s
 refine Calls.spliced_cons (thn (ha pins s σ H _ I h) fun u s1 zz29=>?_)
 obtain ⟨x,H1,I1,r1,q1⟩:=zz29
 exact thn (hr pos pins s1 σ H1 _ I1 q1) fun us s2 zz30=>by obtain ⟨xs,H2,I2,r2,q2⟩:=zz30; exact ⟨x::xs,H2,I2,.cons r1 r2,q2⟩
def tTup (t:TA):TE:=fun σ H Q=>t σ H fun xs H1=>xs.length<=sizeLine/\∀ p,H1 p=none->Q (.ref p) (upd H1 p (.tup xs))
def tLst (t:TA):TE:=fun σ H Q=>t σ H fun xs H1=>xs.length<=sizeLine/\∀ p,H1 p=none->Q (.ref p) (upd H1 p (.lst xs))
theorem pe_tup {x1} (h:PA X es t):PE X (.Tuple es x1 pos) (tTup t):=by
 intro pins s σ H Q I hq
 refine wpAny_Tuple_spliced (thn (h pos pins s σ H _ I hq) fun us s1 ⟨xs,H1,I1,r,z,q⟩=>⟨by rw [<- r.length]; exact z,?_⟩)
 have hf:H1 s1.heap.objs.size=none:=I1.hok.fresh (Nat.le_refl _)
 refine ⟨.ref s1.heap.objs.size,upd H1 s1.heap.objs.size (.tup xs),I1.laid (t':=s1.toks) (fun b u e=>Heap.get?_push_of_some _ e) (Nat.le_refl _) ?_,rfl,q _ hf⟩
 exact ⟨z,us,r,⟨_,Heap.get?_push_size _ rfl,rfl,_,rfl⟩⟩
theorem pe_lst (h:PA X es t):PE X (.List es pos) (tLst t):=by
 intro pins s σ H Q I hq
 refine wpAny_List_spliced (thn (h pos pins s σ H _ I hq) fun us s1 ⟨xs,H1,I1,r,z,q⟩=>⟨by rw [<- r.length]; exact z,?_⟩)
 have hf:H1 s1.heap.objs.size=none:=I1.hok.fresh (Nat.le_refl _)
 refine ⟨.ref s1.heap.objs.size,upd H1 s1.heap.objs.size (.lst xs),I1.laid (t':=s1.toks) (fun b u e=>Heap.get?_push_of_some _ e) (Nat.le_refl _) ?_,rfl,q _ hf⟩
 exact ⟨z,us,0,r,Heap.get?_push_size _ rfl⟩
end
abbrev Sp:=List V->Hp->VK->XK->Prop
abbrev CXT:=List Env->Hp->Shared->XK->Value->Shared->Prop
structure Env0 (P:Program) (w:World) (K:Frag) (mg:Str->Option Value) (base:Heap) (A:Around) (outer:List Env) (s:Shared) (H:Hp):Prop where
 frames:A.frames=some outer
 mod:Mod K mg base
 bs:∀ b o,base.get? b=some o->s.heap.get? b=some o/\H b=none
 bsz:base.objs.size<=s.heap.objs.size
 funs:s.heap.FunFrames base outer
 frf:∀ b∈frs outer,H b=none
 hok:HOk P w H s.heap
 bare:AllBare s.gens
def CE (outer:List Env) (P:Program) (w:World) (H:Hp) (s:Shared) (Q:VK) (u:Value) (s':Shared):Prop:=
 ∃ v H',s'.os=s.os/\AllBare s'.gens/\Un (frs outer) [] H H' s.heap s'.heap/\HOk P w H' s'.heap/\RelV v u/\Q v H'
def CR (CX:CXT) (outer:List Env) (P:Program) (w:World) (H:Hp) (s:Shared) (Q:VK) (E:XK) (r:Result) (s':Shared):Prop:=
 match r with
 | .ok (.ret u)=>CE outer P w H s Q u s'
 | .ok _=>False
 | .error e=>CX outer H s E e s'
structure FnOk (P:Program) (w:World) (K:Frag) (mg:Str->Option Value) (base:Heap) (CX:CXT) (k:Nat) (f:Addr) (fd:FuncData) (ps:List Str) (sp:Sp):Prop where
 len:∀ vs H Q E,sp vs H Q E->vs.length=ps.length
 run:∀ (A:Around) (outer:List Env) (s:Shared) (H:Hp) (args:Args) (us:List Value) (vs:List V) (Q:VK) (E:XK),Room k A->Env0 P w K mg base A outer s H->BindsTo s fd args (ps.zip us)->Vals vs us->sp vs H Q E ->
  codeAny (model P w) A (.call (.ref f) args) (CR CX outer P w H s Q E) s
theorem FnOk.imp {P:Program} {w:World} {K:Frag} {mg:Str->Option Value} {base:Heap} {CX:CXT} {k:Nat} {f:Addr} {fd:FuncData} {ps:List Str} {sp sp':Sp} (F:FnOk P w K mg base CX k f fd ps sp)
  (h:∀ vs H Q E,sp' vs H Q E->sp vs H Q E):FnOk P w K mg base CX k f fd ps sp':=
 ⟨fun vs H Q E q=>F.len vs H Q E (h _ _ _ _ q),fun A outer s H args us vs Q E hr he hb hv hs=>F.run A outer s H args us vs Q E hr he hb hv (h _ _ _ _ hs)⟩
section
variable {X:Cx} {pins:List (Addr×Obj)} {σ:St} {H:Hp} {s s':Shared}
theorem Inv.env0 (I:Inv X pins σ H s):Env0 X.prog X.w X.K X.mg X.base X.A X.stack s H:=
 ⟨I.ok.frames,I.ok.mod,I.bs,Nat.le_trans I.ok.bsz I.sz,I.stack,I.stkFree,I.hok,I.bare⟩
theorem Inv.after {Q:VK} {u:Value} (I:Inv X pins σ H s) (h:CE X.stack X.prog X.w H s Q u s'):EP X pins σ Q u s':=by
 obtain ⟨v,H',os,bare,un,hok,r,q⟩:=h
 obtain ⟨hh,g,d,t,os'⟩:=s'
 obtain rfl:os'=s.os:=os
 exact ⟨v,H',I.call (h':=hh) (g':=g) (d':=d) (t':=t) (ch:=[]) un hok bare (fun b z=>absurd z (by simp)),r,q⟩
end
def tCall (sp:Sp) (dvs:List V) (E:XK) (t:TA):TE:=fun σ H Q=>t σ H fun vs H1=>sp (vs++dvs) H1 Q E
def Binds (K:Frag) (fd:FuncData) (ps:List Str) (ds:List Value):Prop:=
 ∀ (s:Shared) (us:List Value),K.In s.heap->(us++ds).length=ps.length->BindsTo s fd ⟨us,[]⟩ (ps.zip (us++ds))
theorem Binds.all {K:Frag} {fd:FuncData} {ps:List Str} (h:∀ us:List Value,us.length=ps.length->bindArgs fd ⟨us,[]⟩=pure (ps.zip us)):Binds K fd ps []:=fun s us _ hl=>by
 rw [List.append_nil] at hl ⊢
 exact .of_eq (h us hl)
def Passes (CX:CXT) (X:Cx) (E:XK):Prop:=∀ (pins:List (Addr×Obj)) (σ:St) (H:Hp) (s:Shared) (e:Value) (s':Shared),Inv X pins σ H s->CX X.stack H s E e s'->X.xe e s'
section
variable {X:Cx} {CX:CXT} {k:Nat} {f C:Addr} {fd:FuncData} {ps:List Str} {sp:Sp} {dvs:List V} {ds:List Value} {E:XK} {x m:Str} {p pos apos:Pos} {e o:Expr} {es:List Expr} {ta:TE} {t:TA}
theorem run_fn {pins:List (Addr×Obj)} {σ:St} {H:Hp} {s:Shared} {Q:VK} {us:List Value} {vs:List V} (F:FnOk X.prog X.w X.K X.mg X.base CX k f fd ps sp) (hr:Room k X.A) (hb:Binds X.K fd ps ds) (hd:Vals dvs ds) (hx:Passes CX X E)
  (I:Inv X pins σ H s) (r:Vals vs us) (h:sp (vs++dvs) H Q E):wpAny (model X.prog X.w) X.A (call (.ref f) us) (EP X pins σ Q) X.xe s:=by
 have r2:Vals (vs++dvs) (us++ds):=r.append hd
 have hl:(us++ds).length=ps.length:=by rw [<- r2.length]; exact F.len _ _ _ _ h
 refine wpAny_call (codeAny_mono (F.run X.A X.stack s H ⟨us,[]⟩ (us++ds) (vs++dvs) Q E hr I.env0 (hb s us I.kIn hl) r2 h) fun r s' hq=>?_)
 cases r with
 | error e=>exact hx pins σ H s e s' I hq
 | ok fl=>
  cases fl with
  | ret u=>exact I.after hq
  | next=>exact False.elim hq
  | brk=>exact False.elim hq
  | cont=>exact False.elim hq
theorem pe_call (F:FnOk X.prog X.w X.K X.mg X.base CX k f fd ps sp) (hr:Room k X.A) (hg:Gl X x) (hm:X.mg x=some (.ref f)) (hk:PySem.W.keepIn X.K (.ref f)=true) (hb:Binds X.K fd ps ds) (hd:Vals dvs ds) (hx:Passes CX X E)
  (ha:PA X (e::es) t) (hdb:(x == ("__debug__" : Str))=false:=by decide) (he:starEach (e::es) X.env=(false,eval e X.env)::starEach es X.env:=by rfl) (hpl:(backTo pos (starEach es X.env)).any (·.1)=false:=by rfl) :
  PE X (.Call (.Name x p) (e::es) [] pos) (tCall sp dvs E t):=by
 intro pins s σ H Q I h
 refine wpAny_Call_Name_kw (ld_glob I hg hm ?_ hdb)
 refine PySem.W.callWith_K (h₀:=X.base) I.ok.mod.kin hk (thn (ha pos pins s σ H _ I h) fun us s1 ⟨vs,H1,I1,r,q⟩=>⟨I1.kIn,?_⟩) he hpl
 exact run_fn F hr hb hd hx I1 r q
end
section
variable {X:Cx} {CX:CXT} {k:Nat} {f C:Addr} {fd:FuncData} {ps ks:List Str} {sp:Sp} {E:XK} {x m:Str} {p pos apos kpos:Pos} {e o:Expr} {es:List Expr} {kws:List Keyword} {te ta:TE} {t tk:TA} {nm:Option Str}
variable {g:List Value->List Value->List Value} {gV:List V->List V->List V}
end
structure FnScope (N P:List Str) (sc:Scope):Prop where
 kind:sc.kind=.function
 co:sc.isCoroutine=false
 gen:sc.isGenerator=false
 nd:N.Nodup
 pre:N.take P.length=P
 par:∀ x∈P,sc.names.lookup x=some .local\/sc.names.lookup x=some .cell
 nofree:∀ y∈sc.names,y.2≠.free
theorem bindL_out {kindOf:Str->Option NameKind} {x:Str}:∀ {binds:List (Str×Value)} {m:Str->Option Value},(∀ v,(x,v)∉binds)->bindL kindOf binds m x=m x:=by
 intro binds
 induction binds with
 | nil=>intro m _; rfl
 | cons p r ih=>
  intro m h
  unfold bindL
  rw [ih fun w hw=>h w (List.mem_cons_of_mem _ hw)]
  split
  ·have:x≠p.1:=by rintro rfl; exact h p.2 List.mem_cons_self
   simp [this]
  ·rfl
theorem bindC_out {kindOf:Str->Option NameKind} {x:Str}:∀ {binds:List (Str×Value)} {m:Str->Option Value},(∀ v,(x,v)∉binds)->bindC kindOf binds m x=m x:=by
 intro binds
 induction binds with
 | nil=>intro m _; rfl
 | cons p r ih=>
  intro m h
  unfold bindC
  rw [ih fun w hw=>h w (List.mem_cons_of_mem _ hw)]
  split
  ·rfl
  ·have:x≠p.1:=by rintro rfl; exact h p.2 List.mem_cons_self
   simp [this]
theorem bindL_get {kindOf:Str->Option NameKind} {x:Str} {v:Value}:∀ {P:List Str} {vs:List Value} {i:Nat} {m:Str->Option Value},P.Nodup->P[i]?=some x->vs[i]?=some v->kindOf x=some .local ->
  bindL kindOf (P.zip vs) m x=some v:=by
 intro P
 induction P with
 | nil=>intro vs i m _ h _ _; cases h
 | cons p P ih=>
  intro vs i m nd h1 h2 hk
  cases vs with
  | nil=>cases h2
  | cons w vs=>
   show bindL kindOf ((p,w)::P.zip vs) m x=_
   unfold bindL
   cases i with
   | zero=>
    cases h1
    cases h2
    rw [bindL_out fun v hv=>(List.nodup_cons.mp nd).1 (List.of_mem_zip hv).1,if_pos hk]
    simp
   | succ i=>exact ih (List.nodup_cons.mp nd).2 h1 h2 hk
theorem bindC_get {kindOf:Str->Option NameKind} {x:Str} {v:Value}:∀ {P:List Str} {vs:List Value} {i:Nat} {m:Str->Option Value},P.Nodup->P[i]?=some x->vs[i]?=some v->kindOf x≠some .local ->
  bindC kindOf (P.zip vs) m x=some v:=by
 intro P
 induction P with
 | nil=>intro vs i m _ h _ _; cases h
 | cons p P ih=>
  intro vs i m nd h1 h2 hk
  cases vs with
  | nil=>cases h2
  | cons w vs=>
   show bindC kindOf ((p,w)::P.zip vs) m x=_
   unfold bindC
   cases i with
   | zero=>
    cases h1
    cases h2
    rw [bindC_out fun v hv=>(List.nodup_cons.mp nd).1 (List.of_mem_zip hv).1,if_neg hk]
    simp
   | succ i=>exact ih (List.nodup_cons.mp nd).2 h1 h2 hk
def start (N:List Str) (vs:List V):St:=vs.map some++List.replicate (N.length-vs.length) none
def cxOf (CX:CXT) (P:Program) (w:World) (K:Frag) (mg:Str->Option Value) (base:Heap) (N:List Str) (qual:Str) (scope:Scope) (f:Addr) (cd:Value) (A:Around) (outer:List Env) (s:Shared) (H:Hp) (E:XK):Cx where
 prog:=P
 w:=w
 K:=K
 mg:=mg
 base:=base
 A:=A.deeper (envOfC qual scope s.heap.objs.size f cd)
 N:=N
 s₀:=s
 H₀:=H
 env:=envOfC qual scope s.heap.objs.size f cd
 outer:=outer
 stack:=envOfC qual scope s.heap.objs.size f cd::outer
 ex:=[]
 calm:=true
 fn:=fun _=>true
 pn:=[]
 xe:=fun e s'=>wpAny (model P w) (A.deeper (envOfC qual scope s.heap.objs.size f cd)) (leaving (envOfC qual scope s.heap.objs.size f cd) e) (fun _ s''=>CX outer H s E e s'') (fun e' s''=>CX outer H s E e' s'') s'
theorem cell_has {sc:Scope} {n:Nat} {x:Str} (h:sc.names.lookup x=some .cell):∃ c,(cellsFrom n sc.names []).lookup x=some c:=by
 have q:=PySem.W.cellsFrom_some sc.names n [] (.inl h)
 exact Option.isSome_iff_exists.mp q
theorem inv_start {CX:CXT} {P:Program} {w:World} {K:Frag} {mg:Str->Option Value} {base:Heap} {N ps:List Str} {qual:Str} {scope:Scope} {f:Addr} {cd:Value} {A:Around} {outer:List Env} {s s1:Shared} {H:Hp} {E:XK} {us:List Value} {vs:List V}
  (S:FnScope N ps scope) (hd:A.handled=none) (e0:Env0 P w K mg base A outer s H) (hl:vs.length=ps.length) (r:Vals vs us)
  (x:InCallC s s.heap.objs.size (bindL (envOfC qual scope s.heap.objs.size f cd).kindOf (ps.zip us) fun _=>none) (cellsFrom (s.heap.objs.size+1) scope.names []) (bindC (envOfC qual scope s.heap.objs.size f cd).kindOf (ps.zip us) fun _=>none) s1) :
  Inv (cxOf CX P w K mg base N qual scope f cd A outer s H E) [] (start N vs) H s1:=by
 have hpl:ps.length<=N.length:=by have:=congrArg List.length S.pre; rw [List.length_take] at this; omega
 obtain ⟨h1,tk,rfl,hk⟩:=x.done
 have noA:∀ b:Addr,b∉(cxOf CX P w K mg base N qual scope f cd A outer s H E).ex:=fun b z=>absurd (show b∈([]:List Addr) from z) (by simp)
 refine ⟨⟨e0.mod,S.kind,rfl,rfl,Nat.le_refl _,fun y z c h1 h2=>?_,fun y hy=>?_,fun y c _ h=>?_,fun _=>hd,Around.frames_deeper e0.frames,.inr ⟨rfl,rfl⟩,fun b z=>absurd z (noA b),e0.bs,e0.bsz,fun b _ _=>noA b,fun b z=>absurd z (noA b),e0.funs,e0.frf⟩,
  rfl,e0.bare,Un.kept hk,⟨_,x.toInCall.ns,fun i y v h1 h2 h3=>?_⟩,fun y c h=>⟨_,x.cell y c h⟩,e0.hok.fresh (Nat.le_refl _),fun y c h=>?_,fun p hp=>absurd (show p∈([]:List (Addr×Obj)) from hp) (by simp),e0.hok.kept hk,?_⟩
 ·exact name_of_addr x.apart (PySem.mem_of_lookup h1) (PySem.mem_of_lookup h2)
 ·have hy:scope.names.lookup y=some .cell\/scope.names.lookup y=some .free:=hy
  rcases hy with hy | hy
  ·exact cell_has hy
  ·exact absurd rfl (S.nofree _ (PySem.mem_of_lookup hy))
 ·exact Nat.le_of_lt (x.above y c (PySem.mem_of_lookup h))
 ·have hi:i<vs.length:=by
   unfold start at h2
   by_cases hi:i<vs.length
   ·exact hi
   ·rw [List.getElem?_append_right (by simpa using hi)] at h2
    rw [List.getElem?_replicate] at h2
    split at h2 <;> cases h2
  have ha:vs[i]?=some v:=by
   unfold start at h2
   rw [List.getElem?_append_left (by simpa using hi),List.getElem?_map] at h2
   cases e:vs[i]? with
   | none=>rw [e] at h2; cases h2
   | some a=>rw [e] at h2; cases h2; rfl
  obtain ⟨u,hu,rv⟩:=r.get ha
  have hp:ps[i]?=some y:=by
   rw [<- S.pre,List.getElem?_take_of_lt (by omega)]; exact h1
  have ndP:ps.Nodup:=by rw [<- S.pre]; exact S.nd.sublist (List.take_sublist _ _)
  refine ⟨u,rv,?_⟩
  rcases S.par y (List.mem_of_getElem? hp) with k | k
  ·exact .inl ⟨k,bindL_get ndP hp hu k⟩
  ·obtain ⟨c,e⟩:=cell_has (n:=s.heap.objs.size+1) k
   refine .inr ⟨.inl k,c,e,?_⟩
   have q:=x.cell y c e
   rw [bindC_get ndP hp hu (by show scope.names.lookup y≠_; rw [k]; decide)] at q
   exact q
 ·exact e0.hok.fresh (Nat.le_of_lt (x.above y c (PySem.mem_of_lookup h)))
 ·unfold start
  show _=N.length
  rw [List.length_append,List.length_map,List.length_replicate]
  omega
theorem fn_of {CX:CXT} {P:Program} {w:World} {K:Frag} {mg:Str->Option Value} {base:Heap} {k:Nat} {f:Addr} {name qual:Str} {params:Arguments} {body:List Stmt} {scope:Scope} {dV kV doc pm cdv ct oc:Value} {an od:Option Addr}
  {osl:Array (Option Value)} {N ps:List Str} {sp:Sp} (lk:K.lookup f=some ⟨oc,od,.func (PySem.W.fnOf name qual params body scope dV kV doc pm an cdv ct),osl⟩) (hcd:PySem.W.codeIn K cdv qual=true) (S:FnScope N ps scope)
  (len:∀ vs H Q E,sp vs H Q E->vs.length=ps.length)
  (hbody:∀ (A:Around) (outer:List Env) (s:Shared) (H:Hp) (vs:List V) (Q:VK) (E:XK),Room k (A.deeper (envOfC qual scope s.heap.objs.size f cdv))->sp vs H Q E ->
   ∃ t,PSs (cxOf CX P w K mg base N qual scope f cdv A outer s H E) body t/\t { nx:=fun _ H'=>Q .non H',rt:=Q } (start N vs) H) :
  FnOk P w K mg base CX (k+1) f (PySem.W.fnOf name qual params body scope dV kV doc pm an cdv ct) ps sp:=by
 refine ⟨len,fun A outer s H args us vs Q E hr e0 hb r hsp=>?_⟩
 have hl:=len _ _ _ _ hsp
 have KX:K.In s.heap:=e0.mod.kin.keeps fun b o e=>(e0.bs b o e).1
 have lim:s.heap.NoLimit:=e0.mod.nolimit.keeps fun b o e=>(e0.bs b o e).1
 have hkind:∀ y∈ps.zip us,scope.names.lookup y.1=some .local\/(scope.names.lookup y.1=some .cell/\((cellsFrom (s.heap.objs.size+1) scope.names []).lookup y.1).isSome=true):=fun zz34 hy=>by
  obtain ⟨n,v⟩:=zz34
  rcases S.par n (List.of_mem_zip hy).1 with q | q
  ·exact .inl q
  ·exact .inr ⟨q,PySem.W.cellsFrom_some _ _ _ (.inl q)⟩
 refine codeAny_call_function hr.depth (KX _ _ lk) rfl S.co S.gen rfl (PySem.W.codeRec_of KX hcd) (hb _ _ _ _ ?_)
 refine wpAny_newFunctionEnv_cells S.kind hkind fun env he s1 x=>?_
 subst he
 refine ⟨lim.keeps x.toInCall.keep,codeAny_func ?_⟩
 obtain ⟨t,ht,hq⟩:=hbody A outer s H vs Q E (hr.deeper _) hsp
 have I:Inv (cxOf CX P w K mg base N qual scope f cdv A outer s H E) [] (start N vs) H s1:=inv_start S hr.hd e0 hl r x
 refine wpAny_mono (ht [] s1 (start N vs) H _ I hq) (fun fl s' hs=>?_) fun e s' hs=>hs
 have fin:∀ {σ':St} {H':Hp} {v:V} {u:Value},Inv (cxOf CX P w K mg base N qual scope f cdv A outer s H E) [] σ' H' s'->RelV v u->Q v H'->CE outer P w H s Q u s':=
  fun {σ' H' v u} J rv q=>⟨v,H',J.os,J.bare,J.base,J.hok,rv,q⟩
 cases fl with
 | ret u=>
  obtain ⟨v,σ',H',J,rv,q⟩:=hs
  exact fin J rv q
 | next=>
  obtain ⟨σ',H',J,q⟩:=hs
  exact fin (v:=V.non) (u:=Value.none) J rfl q
 | brk=>
  obtain ⟨_,_,_,q⟩:=hs
  exact False.elim q
 | cont=>
  obtain ⟨_,_,_,q⟩:=hs
  exact False.elim q
end L2
namespace L2
open PySem PySem.Spec PyProof.Rows
section
variable {X:Cx} {x:Str} {p pos:Pos} {e:Expr} {es:List Expr} {t:TA} {id T:String} {r:List V->Hp->VK->Prop}
def tCB (r:List V->Hp->VK->Prop) (t:TA):TE:=fun σ H Q=>t σ H fun vs H1=>r vs H1 Q
theorem pe_callB (hc:CallR X (.builtin id) r) (hg:Gl X x) (hm:X.mg x=none) (hv:bootBuiltins x=some (.builtin id)) (ha:PA X (e::es) t) (hn:x ≠ "__name__" := by decide) (hdb:(x == ("__debug__" : Str))=false:=by decide)
  (he:starEach (e::es) X.env=(false,eval e X.env)::starEach es X.env:=by rfl) (hpl:(backTo pos (starEach es X.env)).any (·.1)=false:=by rfl):PE X (.Call (.Name x p) (e::es) [] pos) (tCB r t):=by
 intro pins s σ H Q I h
 refine wpAny_Call_Name_kw (ld_blt I hg hm hv ?_ hn hdb)
 exact PyProof.Rows.callWith_builtin1 (thn (ha pos pins s σ H _ I h) fun us s1 zz35=>by obtain ⟨vs,H1,I1,r1,q1⟩:=zz35; exact hc pins s1 σ H1 vs us Q I1 r1 q1) he hpl
theorem pe_callTy (hc:CallR X (.type T) r) (hg:Gl X x) (hm:X.mg x=none) (hv:bootBuiltins x=some (.type T)) (ha:PA X (e::es) t) (hn:x ≠ "__name__" := by decide) (hdb:(x == ("__debug__" : Str))=false:=by decide)
  (he:starEach (e::es) X.env=(false,eval e X.env)::starEach es X.env:=by rfl) (hpl:(backTo pos (starEach es X.env)).any (·.1)=false:=by rfl):PE X (.Call (.Name x p) (e::es) [] pos) (tCB r t):=by
 intro pins s σ H Q I h
 refine wpAny_Call_Name_kw (ld_blt I hg hm hv ?_ hn hdb)
 exact PyProof.Rows.callWith_type1 (thn (ha pos pins s σ H _ I h) fun us s1 zz36=>by obtain ⟨vs,H1,I1,r1,q1⟩:=zz36; exact hc pins s1 σ H1 vs us Q I1 r1 q1) he hpl
end
end L2
namespace HT
open PySem PyProof.Rows
def lexLt:List Int->List Int->Bool
 | [],[]=>false
 | [],_::_=>true
 | _::_,[]=>false
 | x::xs,y::ys=>if x=y then lexLt xs ys else decide (x<y)
section
open PySem.SeqAt
open PySem.AutoSeq1 (wpAny_loadPart')
open PySem.MeetsSeq PySem.MeetsSeq2 PySem.MeetsSeq3
end
section
variable {prog:Program} {w:World} {A:Around} {E:Value->Shared->Prop} {s:Shared}
theorem cat_tup {t b:Addr} {vs ws:List Value} {Q:Value->Shared->Prop} (ht:IsTup s.heap t vs.toArray) (hb:IsTup s.heap b ws.toArray) (hv:vs ≠ [])
  (h1:ws = []->Q (.ref t) s) (h2:ws ≠ []->Q (.ref s.heap.objs.size) { s with heap:=s.heap.push { cls:=.type "tuple",data:=.seq (vs++ws).toArray } })
  (hsz:vs.length+ws.length<=sizeLine):wpAny (model prog w) A (binaryOp .Add (.ref t) (.ref b)) Q E s:=by
 obtain ⟨⟨cls,dd,data,sl⟩,ho,hc,n,hd⟩:=id ht
 obtain ⟨⟨cls2,dd2,data2,sl2⟩,ho2,hc2,n2,hd2⟩:=id hb
 simp only at hc hd hc2 hd2
 subst hc hd hc2 hd2
 have e:vs.toArray++ws.toArray=(vs++ws).toArray:=by simp
 by_cases hw:ws = []
 ·exact concat_meets ⟨_,ho,rfl⟩ ⟨_,ho2,rfl⟩ noFill_tuple_add seq_tuple_add PySem.F.slot_tuple_add PySem.F.entry_tuple_add (PySem.F.args_tuple_add_2 _ _)
   (tuple_addW1 t b vs.toArray ws.toArray n n2 dd dd2 sl sl2 (by simpa using hv) (by simp [hw])) ⟨ho,ho2,h1 hw⟩
 ·refine concat_meets ⟨_,ho,rfl⟩ ⟨_,ho2,rfl⟩ noFill_tuple_add seq_tuple_add PySem.F.slot_tuple_add PySem.F.entry_tuple_add (PySem.F.args_tuple_add_2 _ _)
   (tuple_addW2 t b vs.toArray ws.toArray n n2 dd dd2 sl sl2 (by simpa using hv) (by simpa using hw) (by rw [List.size_toArray,List.size_toArray]; exact hsz)) ⟨ho,ho2,?_⟩
  rw [e]
  exact h2 hw
def sIx (n d:Nat):Option Int->Nat
 | none=>d
 | some v=>if v<0 then (v+(n:Int)).toNat else min v.toNat n
theorem sIx_none (n d:Nat):sIx n d none=d:=rfl
theorem sIx_nat (n d k:Nat):sIx n d (some (k:Int))=min k n:=by
 show (if (k:Int)<0 then ((k:Int)+(n:Int)).toNat else min (k:Int).toNat n)=min k n
 rw [if_neg (by omega),Int.toNat_natCast]
theorem sIx_le (n d:Nat) (hd:d<=n) (o:Option Int):sIx n d o<=n:=by
 cases o with
 | none=>exact hd
 | some v=>
  show (if v<0 then (v+(n:Int)).toNat else min v.toNat n)<=n
  by_cases hv:v<0
  ·rw [if_pos hv]; omega
  ·rw [if_neg hv]; exact Nat.min_le_right _ _
theorem clip_eq (v:Int) (n d:Nat):(if v<0 then max (v+(n:Int)) 0 else min v (n:Int))=((sIx n d (some v):Nat):Int):=by
 show (if v<0 then max (v+(n:Int)) 0 else min v (n:Int))=(((if v<0 then (v+(n:Int)).toNat else min v.toNat n):Nat):Int)
 by_cases hv:v<0
 ·simp only [if_pos hv]; omega
 ·simp only [if_neg hv]; omega
theorem adjust_gen (lo hi:Option Int) (n:Nat):Builtin.Slice.sliceAdjust lo hi 1 (n:Int)=(((sIx n 0 lo:Nat):Int),((sIx n n hi:Nat):Int)):=by
 have h1:¬ ((1:Int)<0):=by omega
 unfold Builtin.Slice.sliceAdjust
 simp only [h1,if_false]
 refine Prod.ext ?_ ?_
 ·cases lo with
  | none=>rfl
  | some v=>exact clip_eq v n 0
 ·cases hi with
  | none=>rfl
  | some v=>exact clip_eq v n n
theorem places_gen (i j:Nat):Builtin.Slice.slicePlaces (i:Int) (j:Int) 1=j-i:=by
 unfold Builtin.Slice.slicePlaces
 have h1:(1:Int)>0:=by omega
 simp only [h1,if_true,Int.ediv_one]
 split <;> omega
theorem slicePart_ {v:Value} {o:Option Int} {Q:Option Int->Shared->Prop} (p:IsPart v o) (h:Q o s):wpAny (model prog w) A (Builtin.Slice.slicePartIndex v) Q E s:=by
 cases p with
 | none=>exact slicePart_none h
 | int i t=>exact slicePart_int h
theorem sliceApplied_gen {sl:Addr} {vl vu:Value} {lo hi:Option Int} {n:Nat} {Q:Int×Int×Nat->Shared->Prop} (hs:s.heap.IsSliceOf sl vl vu .none) (pl:IsPart vl lo) (pu:IsPart vu hi)
  (h:Q (((sIx n 0 lo:Nat):Int),1,sIx n n hi-sIx n 0 lo) s):wpAny (model prog w) A (Builtin.Slice.sliceApplied (.ref sl) (pure (n:Int))) Q E s:=by
 obtain ⟨os,hos,hcs,hds⟩:=id hs
 unfold Builtin.Slice.sliceApplied Builtin.Slice.sliceFields
 refine wpAny_bind (wpAny_bind (wpAny_field hos hds (x:=vl) rfl (wpAny_bind (wpAny_field hos hds (x:=vu) rfl (wpAny_bind (wpAny_field hos hds (x:=.none) rfl (wpAny_pure ?_)))))))
 refine wpAny_bind (slicePart_none ?_)
 show wpAny _ _ (if ((1:Int) == 0)=true then _ else _) _ _ s
 rw [if_neg (by decide)]
 refine wpAny_bind (slicePart_ pl (wpAny_bind (slicePart_ pu (wpAny_bind (wpAny_pure ?_)))))
 show wpAny _ _ (match Builtin.Slice.sliceAdjust lo hi 1 (n:Int) with | (lo,hi)=>pure (lo,(1:Int),Builtin.Slice.slicePlaces lo hi 1)) _ _ s
 rw [adjust_gen lo hi n]
 show wpAny _ _ (pure (((sIx n 0 lo:Nat):Int),(1:Int),Builtin.Slice.slicePlaces ((sIx n 0 lo:Nat):Int) ((sIx n n hi:Nat):Int) 1)) _ _ s
 rw [places_gen]
 exact wpAny_pure h
theorem pick_gen (xs:Array Value) (i k:Nat):((List.range k).filterMap fun (m:Nat)=>xs[((i:Int)+(m:Int)*1).toNat]?).toArray=((xs.toList.drop i).take k).toArray:=by
 have e:(fun (m:Nat)=>xs[((i:Int)+(m:Int)*1).toNat]?)=fun m=>xs[i+m]?:=by
  funext m
  have:((i:Int)+(m:Int)*1).toNat=i+m:=by omega
  rw [this]
 rw [e]
 have:=pick_run xs i k
 rw [List.filterMap_map] at this
 have e2:((fun x=>xs[x]?)∘fun x=>i+x)=fun m=>xs[i+m]?:=rfl
 rw [e2] at this
 rw [this]
theorem getItem_tuple_cut {t sl:Addr} {items:Array Value} {vl vu:Value} {lo hi:Option Int} {Q:Value->Shared->Prop} (ht:IsTup s.heap t items) (hs:s.heap.IsSliceOf sl vl vu .none) (pl:IsPart vl lo) (pu:IsPart vu hi)
  (hw:¬ (sIx items.size 0 lo=0/\sIx items.size items.size hi=items.size))
  (h:Q (.ref s.heap.objs.size) { s with heap:=s.heap.push { cls:=.type "tuple",data:=.seq ((items.toList.drop (sIx items.size 0 lo)).take (sIx items.size items.size hi-sIx items.size 0 lo)).toArray } })
  (hsz:items.size<=sizeLine):wpAny (model prog w) A (getItem (.ref t) (.ref sl)) Q E s:=by
 have htake:sizeOk (.seq ((items.toList.drop (sIx items.size 0 lo)).take (sIx items.size items.size hi-sIx items.size 0 lo)).toArray):=by
  show ((items.toList.drop (sIx items.size 0 lo)).take (sIx items.size items.size hi-sIx items.size 0 lo)).toArray.size<=sizeLine
  rw [List.size_toArray,List.length_take,List.length_drop,Array.length_toList]
  omega
 have hj:sIx items.size items.size hi<=items.size:=sIx_le _ _ (Nat.le_refl _) hi
 obtain ⟨os,hos,hcs,hds⟩:=id hs
 have hTs:s.TypeIs (.ref sl) "slice" := ⟨os,hos,hcs⟩
 unfold getItem
 try with_reducible refine wpAny_holding ?_
 first | refine wpAny_bind (wpAny_pure ?_) | skip
 refine wpAny_bind (wpAny_sequenceKey ht.typeIs (by decide) ?_)
 refine wpAny_bind (wpAny_callSpecial?_slot (name:=Str.ofString "__getitem__") ht.typeIs PyProof.Rows.slot_tuple_getitem
  (wpAny_call_entry PyProof.Rows.slot_tuple_getitem ht.typeIs entry_tuple_getitem ?_ (args_tuple_getitem _ _)))
 show wpAny _ _ (Builtin.Tuple.tupleItemsOf (.ref t)>>=_) _ _ s
 refine wpAny_bind (tupleItemsOf_ ht ?_)
 refine wpAny_bind (wpAny_typeOf hTs ?_)
 rw [if_pos (by decide)]
 refine wpAny_bind (sliceApplied_gen hs pl pu ?_)
 have hno:¬ ((((sIx items.size 0 lo:Nat):Int) == 0&&(1:Int) == 1&&(sIx items.size items.size hi-sIx items.size 0 lo) == items.size)=true):=by
  intro q
  rw [Bool.and_eq_true,Bool.and_eq_true] at q
  have q1:((sIx items.size 0 lo:Nat):Int)=0:=eq_of_beq q.1.1
  have q2:sIx items.size items.size hi-sIx items.size 0 lo=items.size:=eq_of_beq q.2
  exact hw ⟨by omega,by omega⟩
 show wpAny _ _ (if (((sIx items.size 0 lo:Nat):Int) == 0&&(1:Int) == 1&&(sIx items.size items.size hi-sIx items.size 0 lo) == items.size)=true then _ else _) _ _ s
 rw [if_neg hno,pick_gen]
 first
  | exact wpAny_bind (m:=Builtin.Tuple.tupleExact _) (wpAny_newObj_type (wpAny_pure ⟨_,rfl,wpAny_pure h⟩) htake)
  | exact wpAny_bind (m:=Builtin.Tuple.tupleExact _) (wpAny_newObj_type (wpAny_bind (wpAny_pure (wpAny_pure ⟨_,rfl,wpAny_pure h⟩))) htake)
  | exact wpAny_bind (wpAny_bind (m:=Builtin.Tuple.tupleExact _) (wpAny_newObj_type (wpAny_pure (wpAny_pure ⟨_,rfl,wpAny_pure h⟩)) htake))
  | exact wpAny_bind (wpAny_bind (m:=Builtin.Tuple.tupleExact _) (wpAny_newObj_type (wpAny_pure ⟨_,rfl,wpAny_pure h⟩) htake))
end
end HT
namespace L2
open PySem PySem.Spec PyProof.Rows
abbrev TO:=St->Hp->(Option Int->Hp->Prop)->Prop
def PO (X:Cx) (e:Option Expr) (t:TO):Prop:=
 ∀ (pins:List (Addr×Obj)) (s:Shared) (σ:St) (H:Hp) (Q:Option Int->Hp->Prop),Inv X pins σ H s->t σ H Q ->
  wpAny (model X.prog X.w) X.A (evalPart e X.env) (fun u s'=>∃ o H',Inv X pins σ H' s'/\IsPart u o/\Q o H') X.xe s
def tNoPart:TO:=fun _ H Q=>Q none H
def tPart (t:TE):TO:=fun σ H Q=>t σ H fun x H1=>∃ i,x=.int i/\Q (some i) H1
section
variable {X:Cx} {e:Expr} {te:TE} {lo hi:Option Expr} {tl th:TO} {pos p2:Pos}
theorem po_none:PO X none tNoPart:=by
 intro pins s σ H Q I h
 rw [evalPart_none]
 exact wpAny_pure ⟨none,H,I,.none,h⟩
theorem po_some (h:PE X e te):PO X (some e) (tPart te):=by
 intro pins s σ H Q I hw
 rw [evalPart_some]
 refine thn (h pins s σ H _ I hw) fun u s1 zz37=>?_
 obtain ⟨x,H1,I1,r1,q1⟩:=zz37
 obtain ⟨i,rfl,q⟩:=q1
 obtain ⟨t,rfl⟩:=r1
 exact ⟨some i,H1,I1,.int i t,q⟩
def SlR (X:Cx) (r:V->Option Int->Option Int->Hp->VK->Prop):Prop:=
 ∀ (pins:List (Addr×Obj)) (s:Shared) (σ:St) (H:Hp) (x:V) (v vl vu:Value) (lo hi:Option Int) (sl:Addr) (Q:VK),Inv X pins σ H s->RelV x v->s.heap.IsSliceOf sl vl vu .none->IsPart vl lo->IsPart vu hi->r x lo hi H Q ->
  ∃ T id,typeLookup (.type T) "__getitem__" = pure (some (.builtin id))/\s.TypeIs v T/\wpAny (model X.prog X.w) X.A (getItem v (.ref sl)) (EP X pins σ Q) X.xe s
theorem SlR.or {r r':V->Option Int->Option Int->Hp->VK->Prop} (h:SlR X r) (h':SlR X r'):SlR X (fun x lo hi H Q=>r x lo hi H Q\/r' x lo hi H Q):=by
 intro pins s σ H x v vl vu lo hi sl Q I rx hs pl pu q
 rcases q with q | q
 ·exact h pins s σ H x v vl vu lo hi sl Q I rx hs pl pu q
 ·exact h' pins s σ H x v vl vu lo hi sl Q I rx hs pl pu q
def tSl (r:V->Option Int->Option Int->Hp->VK->Prop) (te:TE) (tl th:TO):TE:=fun σ H Q=>te σ H fun x H1=>tl σ H1 fun l H2=>th σ H2 fun u H3=>r x l u H3 Q
theorem pe_slice {r:V->Option Int->Option Int->Hp->VK->Prop} (hr:SlR X r) (he:PE X e te) (hl:PO X lo tl) (hu:PO X hi th):PE X (.Subscript e (.Slice lo hi none p2) pos) (tSl r te tl th):=by
 intro pins s σ H Q I h
 refine Subscript_ (thn (he pins s σ H _ I h) fun v s1 zz38=>?_)
 obtain ⟨x,H1,I1,r1,q1⟩:=zz38
 refine wpAny_Slice (thn (hl pins s1 σ H1 _ I1 q1) fun vl s2 ⟨l,H2,I2,pl,q2⟩=>thn (hu pins s2 σ H2 _ I2 q2) fun vu s3 zz40=>?_)
 obtain ⟨u,H3,I3,pu,q3⟩:=zz40
 rw [evalPart_none]
 refine wpAny_pure ?_
 have I4:Inv X pins σ H3 { s3 with heap:=s3.heap.push { cls:=.type "slice",data:=.fields #[vl,vu,.none] } }:=I3.kept (t':=s3.toks) fun b ob q=>Heap.get?_push_of_some _ q
 obtain ⟨T,id,hT,ht,hg⟩:=hr pins { s3 with heap:=s3.heap.push { cls:=.type "slice",data:=.fields #[vl,vu,.none] } } σ H3 x v vl vu l u s3.heap.objs.size Q I4 r1 (Heap.IsSliceOf.new ..) pl pu q3
 show wpAny (model X.prog X.w) X.A (subscriptTail e (.Slice lo hi none p2) v (.ref s3.heap.objs.size)) (EP X pins σ Q) X.xe { s3 with heap:=s3.heap.push { cls:=.type "slice",data:=.fields #[vl,vu,.none] } }
 exact tail_any (ops:=[.ref s3.heap.objs.size,v]) ht hT hg (by with_unfolding_all rfl)
def cutV (xs:List V) (lo hi:Option Int):List V:=(xs.drop (HT.sIx xs.length 0 lo)).take (HT.sIx xs.length xs.length hi-HT.sIx xs.length 0 lo)
theorem cutV_length (xs:List V) (lo hi:Option Int):(cutV xs lo hi).length<=xs.length:=by
 unfold cutV
 rw [List.length_take,List.length_drop]
 omega
def rSlT (K:Frag):V->Option Int->Option Int->Hp->VK->Prop:=fun x lo hi H Q=>∃ a xs,x=.ref a/\SqT K H a xs /\
 ¬ (HT.sIx xs.length 0 lo=0/\HT.sIx xs.length xs.length hi=xs.length)/\∀ p,H p=none->Q (.ref p) (upd H p (.tup (cutV xs lo hi)))
theorem sl_tup:SlR X (rSlT X.K):=by
 intro pins s σ H x v vl vu lo hi sl Q I rx hs pl pu h
 obtain ⟨a,xs,rfl,hx,hw,q⟩:=h
 cases rx
 obtain ⟨its,r,ht,hz⟩:=I.tuple hx
 have hlen:its.toArray.size=xs.length:=by rw [List.size_toArray]; exact r.length.symm
 refine ⟨"tuple",_,PyProof.Rows.slot_tuple_getitem.lookup,ht.typeIs,?_⟩
 refine HT.getItem_tuple_cut ht hs pl pu (by rw [hlen]; exact hw) ?_ (by rw [hlen]; exact hz)
 rw [hlen]
 refine ⟨.ref s.heap.objs.size,_,I.laid (t':=s.toks) (o:=.tup (cutV xs lo hi)) (fun b ob q=>Heap.get?_push_of_some _ q) (Nat.le_refl _) ?_,rfl,q _ (I.hok.fresh (Nat.le_refl _))⟩
 exact ⟨Nat.le_trans (cutV_length xs lo hi) hz,_,(r.drop (HT.sIx xs.length 0 lo)).take (HT.sIx xs.length xs.length hi-HT.sIx xs.length 0 lo),IsTup.new _ _⟩
def rCatT (K:Frag):R2:=fun x y H Q=>∃ a b xs ys,x=.ref a/\y=.ref b/\SqT K H a xs/\SqT K H b ys/\xs ≠ []/\xs.length+ys.length<=sizeLine /\
 (ys = []->Q (.ref a) H)/\(ys ≠ []->∀ p,H p=none->Q (.ref p) (upd H p (.tup (xs++ys))))
theorem Vals.nil_iff {xs:List V} {us:List Value} (r:Vals xs us):us = []↔xs = []:=by
 cases r with
 | nil=>simp
 | cons _ _=>simp
theorem op_catT:OpR X (binaryOp .Add) (rCatT X.K):=by
 intro pins s σ H x y v u Q I rx ry h
 obtain ⟨a,b,xs,ys,rfl,rfl,ha,hb,hx,hz,q1,q2⟩:=h
 cases rx
 cases ry
 obtain ⟨its,r1,p1,_⟩:=I.tuple ha
 obtain ⟨its2,r2,p2,_⟩:=I.tuple hb
 refine HT.cat_tup p1 p2 (fun z=>hx (r1.nil_iff.mp z)) (fun z=>⟨.ref a,H,I,rfl,q1 (r2.nil_iff.mp z)⟩) (fun z=>?_) (by rw [<- r1.length,<- r2.length]; exact hz)
 refine ⟨.ref s.heap.objs.size,_,I.laid (t':=s.toks) (o:=.tup (xs++ys)) (fun b ob q=>Heap.get?_push_of_some _ q) (Nat.le_refl _) ?_,rfl,q2 (fun w=>z (r2.nil_iff.mpr w)) _ (I.hok.fresh (Nat.le_refl _))⟩
 exact ⟨by rw [List.length_append]; exact hz,_,r1.append r2,IsTup.new _ _⟩
end
end L2
namespace L2
open PySem PySem.Spec PyProof.Rows
def ixN (n:Nat) (i:Int):Option Nat:=if 0<=i then (if i<n then some i.toNat else none) else if -(n:Int)<=i then some (i+n).toNat else none
def atI {α:Type} (xs:List α) (i:Int):Option α:=(ixN xs.length i).bind fun j=>xs[j]?
theorem ixN_seq {n:Nat} {i:Int} {j:Nat} (h:ixN n i=some j):seqIndex? i n=some j/\j<n /\ -(n:Int)<=i/\i<n:=by
 unfold ixN at h
 by_cases h0:0<=i
 ·rw [if_pos h0] at h
  by_cases h1:i<n
  ·rw [if_pos h1] at h
   have e:i.toNat=j:=Option.some.inj h
   exact ⟨by rw [seqIndex_of h0 h1,e],by omega,by omega,h1⟩
  ·rw [if_neg h1] at h; cases h
 ·rw [if_neg h0] at h
  by_cases h1:-(n:Int)<=i
  ·rw [if_pos h1] at h
   have e:(i+n).toNat=j:=Option.some.inj h
   exact ⟨by rw [seqIndex_neg (by omega) h1,e],by omega,h1,by omega⟩
  ·rw [if_neg h1] at h; cases h
theorem atI_get {α:Type} {xs:List α} {i:Int} {v:α} (h:atI xs i=some v):∃ j,seqIndex? i xs.length=some j/\xs[j]?=some v/\j<xs.length /\ -(xs.length:Int)<=i/\i<xs.length:=by
 unfold atI at h
 cases e:ixN xs.length i with
 | none=>rw [e] at h; cases h
 | some j=>
  rw [e] at h
  obtain ⟨h1,h2,h3,h4⟩:=ixN_seq e
  exact ⟨j,h1,h,h2,h3,h4⟩
def PlainIx (b:Expr):Prop:=∀ o i,subscripted b false o i=operate [o,i] (getItem o i)
def IxR (X:Cx) (r:R2):Prop:=
 ∀ (value slice:Expr) (pins:List (Addr×Obj)) (s:Shared) (σ:St) (H:Hp) (x y:V) (v u:Value) (Q:VK),Inv X pins σ H s->RelV x v->RelV y u->r x y H Q ->
  subscripted slice false v u=operate [v,u] (getItem v u)->wpAny (model X.prog X.w) X.A (subscriptTail value slice v u) (EP X pins σ Q) X.xe s
def MtR (X:Cx) (id:String) (r:V->List V->Hp->VK->Prop):Prop:=
 ∀ (pins:List (Addr×Obj)) (s:Shared) (σ:St) (H:Hp) (x:V) (xs:List V) (v:Value) (us:List Value) (Q:VK),Inv X pins σ H s->RelV x v->Vals xs us->r x xs H Q ->
  wpAny (model X.prog X.w) X.A (call (.builtin id) (v::us)) (EP X pins σ Q) X.xe s
section
variable {X:Cx} {a b:Expr} {ta tb:TE} {pos:Pos}
theorem IxR.or {r r':R2} (h:IxR X r) (h':IxR X r'):IxR X (fun x y H Q=>r x y H Q\/r' x y H Q):=by
 intro value slice pins s σ H x y v u Q I rx ry q hs
 rcases q with q | q
 ·exact h value slice pins s σ H x y v u Q I rx ry q hs
 ·exact h' value slice pins s σ H x y v u Q I rx ry q hs
theorem pe_ix {r:R2} (hr:IxR X r) (ha:PE X a ta) (hb:PE X b tb) (hs:PlainIx b):PE X (.Subscript a b pos) (tOp r ta tb):=by
 intro pins s σ H Q I h
 exact Subscript_ (binT ha hb I h fun v u s2 x y H2 I2 rx ry q=>hr a b pins s2 σ H2 x y v u Q I2 rx ry q (hs _ _))
def rIxL (K:Frag):R2:=fun x y H Q=>∃ p xs i v,x=.ref p/\y=.int i/\SqL K H p xs/\atI xs i=some v/\Q v H
def rIxT (K:Frag):R2:=fun x y H Q=>∃ p xs i v,x=.ref p/\y=.int i/\SqT K H p xs/\atI xs i=some v/\Q v H
def rIxS:R2:=fun x y H Q=>∃ z i c,x=.str z/\y=.int i/\z.length<=sizeLine/\atI z.cps.toList i=some c/\Q (.str ⟨#[c]⟩) H
theorem ix_list:IxR X (rIxL X.K):=by
 intro value slice pins s σ H x y v u Q I rx ry h hs
 obtain ⟨p,xs,i,z,rfl,rfl,hq,he,q⟩:=h
 cases rx
 obtain ⟨t,rfl⟩:=ry
 obtain ⟨its,r,pl,hz⟩:=I.list hq
 obtain ⟨j,h1,h2,h3,h4,h5⟩:=atI_get he
 obtain ⟨w,ew,rw'⟩:=r.get h2
 have hl:=r.length
 have hn:=line63
 have fin:EP X pins σ Q w s:=⟨z,H,I,rw',q⟩
 by_cases h0:0<=i
 ·have hj:i.toNat=j:=by
   rw [seqIndex_of h0 h5] at h1
   exact Option.some.inj h1
  exact item_listR pl.isList h0 (by omega) (by rw [hj]; simpa using ew) fin hs
 ·have hj:(i+(its.toArray.size:Int)).toNat=j:=by
   rw [seqIndex_neg (by omega) h4] at h1
   rw [List.size_toArray,<- hl]
   exact Option.some.inj h1
  exact subscriptTail_builtinR (x:=w) pl.isList.typeIs slot_list_getitem.lookup
   (wpAny_getItem_list_neg (Q:=fun r s'=>r=w/\EP X pins σ Q r s') pl.isList (by omega) (by rw [List.size_toArray] <;> omega) (by omega) (by rw [hj]; simpa using ew) ⟨rfl,fin⟩) hs
theorem ix_tup:IxR X (rIxT X.K):=by
 intro value slice pins s σ H x y v u Q I rx ry h hs
 obtain ⟨p,xs,i,z,rfl,rfl,hq,he,q⟩:=h
 cases rx
 obtain ⟨t,rfl⟩:=ry
 obtain ⟨its,r,pl,hz⟩:=I.tuple hq
 obtain ⟨j,h1,h2,h3,h4,h5⟩:=atI_get he
 obtain ⟨w,ew,rw'⟩:=r.get h2
 have hl:=r.length
 have hn:=line63
 have fin:EP X pins σ Q w s:=⟨z,H,I,rw',q⟩
 exact subscriptTail_builtinR (x:=w) pl.typeIs slot_tuple_getitem.lookup
  (getItem_tuple (j:=j) (Q:=fun r s'=>r=w/\EP X pins σ Q r s') pl (by omega) (by omega) (by rw [List.size_toArray,<- hl]; exact h1) (by simpa using ew) ⟨rfl,fin⟩) hs
theorem ix_str:IxR X rIxS:=by
 intro value slice pins s σ H x y v u Q I rx ry h hs
 obtain ⟨z,i,c,rfl,rfl,hz,he,q⟩:=h
 obtain ⟨t,rfl⟩:=rx
 obtain ⟨t',rfl⟩:=ry
 obtain ⟨j,h1,h2,h3,h4,h5⟩:=atI_get he
 have hl:z.cps.toList.length=z.length:=by simp [Str.length]
 rw [hl] at h1 h4 h5
 have hn:=line63
 exact tail_any (typeIs_str s z t) slot_str_getitem.lookup (getItem_str (c:=c) (by
  have e1:decide (i < -(2^63:Int))=false:=decide_eq_false (by omega)
  have e2:decide (i≥2^63)=false:=decide_eq_false (by omega)
  rw [e1,e2,Bool.or_false]) (by rw [h1]; simpa using h2) ⟨.str ⟨#[c]⟩,H,I.tok _,⟨_,rfl⟩,q⟩) hs
def rIx (K:Frag):R2:=fun x y H Q=>rIxL K x y H Q\/rIxT K x y H Q\/rIxS x y H Q
theorem ix_seq:IxR X (rIx X.K):=ix_list.or (ix_tup.or ix_str)
theorem slice_bounds (lo hi:Option Int) (n:Nat):(sliceBounds lo hi none n).1=((HT.sIx n 0 lo:Nat):Int)/\(sliceBounds lo hi none n).2.1=((HT.sIx n n hi:Nat):Int)/\(sliceBounds lo hi none n).2.2=1:=by
 refine ⟨?_,?_,rfl⟩
 ·cases lo with
  | none=>simp [sliceBounds,HT.sIx]
  | some i=>
   simp only [sliceBounds,HT.sIx,Option.getD_none,show (1:Int)>0 by decide,if_true]
   by_cases h:i<0
   ·simp only [h,if_true] <;> omega
   ·simp only [h,if_false] <;> omega
 ·cases hi with
  | none=>simp [sliceBounds,HT.sIx]
  | some i=>
   simp only [sliceBounds,HT.sIx,Option.getD_none,show (1:Int)>0 by decide,if_true]
   by_cases h:i<0
   ·simp only [h,if_true] <;> omega
   ·simp only [h,if_false] <;> omega
theorem slicePick_cut (its:List Value) (lo hi:Option Int):slicePick its.toArray lo hi none=((its.drop (HT.sIx its.length 0 lo)).take (HT.sIx its.length its.length hi-HT.sIx its.length 0 lo)).toArray:=by
 obtain ⟨h1,h2,h3⟩:=slice_bounds lo hi its.toArray.size
 unfold slicePick
 rw [h1,h2,h3]
 simp only [sliceRange_one,pick_run,List.size_toArray] <;> rfl
def rSlL (K:Frag):V->Option Int->Option Int->Hp->VK->Prop:=fun x lo hi H Q=>∃ a xs,x=.ref a/\SqL K H a xs/\∀ p,H p=none->Q (.ref p) (upd H p (.lst (cutV xs lo hi)))
theorem sl_list:SlR X (rSlL X.K):=by
 intro pins s σ H x v vl vu lo hi sl Q I rx hs pl pu h
 obtain ⟨a,xs,rfl,hx,q⟩:=h
 cases rx
 obtain ⟨its,r,ht,hz⟩:=I.list hx
 have hlen:=r.length
 refine ⟨"list",_,slot_list_getitem.lookup,ht.isList.typeIs,?_⟩
 refine wpAny_getItem_list_slice ht.isList hs pl pu .none (by simp) ?_ (by rw [List.size_toArray] <;> omega)
 rw [slicePick_cut,<- hlen]
 refine ⟨.ref s.heap.objs.size,_,I.laid (t':=s.toks) (o:=.lst (cutV xs lo hi)) (fun b ob q=>Heap.get?_push_of_some _ q) (Nat.le_refl _) ?_,rfl,q _ (I.hok.fresh (Nat.le_refl _))⟩
 exact ⟨Nat.le_trans (cutV_length xs lo hi) hz,_,0,(r.drop (HT.sIx xs.length 0 lo)).take (HT.sIx xs.length xs.length hi-HT.sIx xs.length 0 lo),Heap.get?_push_size _ rfl⟩
def flatV:V->Bool
 | .non=>true
 | .bl _=>true
 | .int _=>true
 | .str _=>true
 | _=>false
def eqV:V->V->Bool
 | .non,.non=>true
 | .bl a,.bl b=>a == b
 | .bl a,.int b=>(if a then 1 else 0) == b
 | .int a,.bl b=>a == (if b then 1 else 0)
 | .int a,.int b=>a == b
 | .str a,.str b=>a == b
 | _,_=>false
def inV (x:V) (xs:List V):Bool:=xs.any fun y=>eqV y x
def rIn (K:Frag) (neg:Bool):R2:=fun x y H Q=>∃ p xs,y=.ref p/\(SqL K H p xs\/SqT K H p xs)/\flatV x=true/\xs.all flatV=true/\Q (.bl (if neg then !inV x xs else inV x xs)) H
theorem call_len_seq:CallR X (.builtin "len") (fun xs H Q=>∃ p ys,xs = [.ref p]/\(SqL X.K H p ys\/SqT X.K H p ys)/\Q (.int ys.length) H):=by
 intro pins s σ H xs us Q I r h
 obtain ⟨p,ys,rfl,hq,q⟩:=h
 obtain ⟨u,rfl,rx⟩:=vals1 r
 cases rx
 have hn:=line63
 rcases hq with hq | hq
 ·obtain ⟨its,r',pl,hz⟩:=I.list hq
  have hlen:=r'.length
  exact Calls.call_len_list pl.isList (by simp only [List.size_toArray] <;> omega) ⟨.int ys.length,H,I.tok _,⟨s.toks+1,by rw [List.size_toArray,hlen]⟩,q⟩
 ·obtain ⟨its,r',pl,hz⟩:=I.tuple hq
  have hlen:=r'.length
  exact len_tuple pl (by simp only [List.size_toArray] <;> omega) ⟨.int ys.length,H,I.tok _,⟨s.toks+1,by rw [List.size_toArray,hlen]⟩,q⟩
theorem call_len_str:CallR X (.builtin "len") (fun xs H Q=>∃ z,xs = [.str z]/\z.length<=sizeLine/\Q (.int z.length) H):=by
 intro pins s σ H xs us Q I r h
 obtain ⟨z,rfl,hz,q⟩:=h
 obtain ⟨u,rfl,t,rfl⟩:=vals1 r
 have hn:=line63
 exact len_str (by omega) ⟨.int z.length,H,I.tok _,⟨_,rfl⟩,q⟩
theorem call_list_of:CallR X (.type "list") (fun xs H Q=>∃ p ys,xs = [.ref p]/\(SqL X.K H p ys\/SqT X.K H p ys)/\∀ l,H l=none->Q (.ref l) (upd H l (.lst ys))):=by
 intro pins s σ H xs us Q I r h
 obtain ⟨p,ys,rfl,hq,q⟩:=h
 obtain ⟨u,rfl,rx⟩:=vals1 r
 cases rx
 have fin:∀ (its:List Value),Vals ys its->ys.length<=sizeLine->∀ (h':Heap) (c':Nat),(∀ b o',s.heap.get? b=some o'->h'.get? b=some o') ->
   h'.get? s.heap.objs.size=some { cls:=.type "list",dict:=none,data:=.seq its.toArray c',slots:=#[] }->EP X pins σ Q (.ref s.heap.objs.size) { s with heap:=h' }:=fun its r' hz h' c' kp e=>
  ⟨.ref s.heap.objs.size,_,I.laid (t':=s.toks) kp (Nat.le_refl _) (show ObjOk X.prog X.w _ h' _ (.lst ys) from ⟨hz,its,c',r',e⟩),rfl,q _ (I.hok.fresh (Nat.le_refl _))⟩
 rcases hq with hq | hq
 ·obtain ⟨its,r',pl,hz⟩:=I.list hq
  have hlen:=r'.length
  obtain ⟨o,ho,hc,n,hd⟩:=pl.isList
  exact call_list_seq p (.inl rfl) ho hc hd (fun h' c' kp e=>fin its r' hz h' c' kp e) (by simp only [List.size_toArray] <;> omega)
 ·obtain ⟨its,r',pl,hz⟩:=I.tuple hq
  have hlen:=r'.length
  obtain ⟨o,ho,hc,n,hd⟩:=pl
  exact call_list_seq p (.inr rfl) ho hc hd (fun h' c' kp e=>fin its r' hz h' c' kp e) (by simp only [List.size_toArray] <;> omega)
theorem call_tuple_of:CallR X (.type "tuple") (fun xs H Q=>∃ p ys,xs = [.ref p]/\((SqL X.K H p ys/\∀ l,H l=none->Q (.ref l) (upd H l (.tup ys)))\/(SqT X.K H p ys/\Q (.ref p) H))):=by
 intro pins s σ H xs us Q I r h
 obtain ⟨p,ys,rfl,h⟩:=h
 obtain ⟨u,rfl,rx⟩:=vals1 r
 cases rx
 rcases h with ⟨hq,q⟩ | ⟨hq,q⟩
 ·obtain ⟨its,r',pl,hz⟩:=I.list hq
  have hlen:=r'.length
  refine call_tuple_list pl.isList (fun h' kp=>?_) (by simp only [List.size_toArray] <;> omega)
  have I1:Inv X pins σ H { s with heap:=h' }:=I.kept (t':=s.toks) kp
  have I2:Inv X pins σ (upd H h'.objs.size (.tup ys)) { s with heap:=h'.push { cls:=.type "tuple",data:=.seq its.toArray } }:=
   I1.laid (t':=s.toks) (fun b o e=>Heap.get?_push_of_some _ e) (Nat.le_refl _) (show ObjOk X.prog X.w _ _ _ (.tup ys) from ⟨hz,its,r',IsTup.new _ _⟩)
  exact ⟨.ref h'.objs.size,_,I2,rfl,q _ (I1.hok.fresh (Nat.le_refl _))⟩
 ·obtain ⟨its,r',pl,hz⟩:=I.tuple hq
  exact call_tuple_same pl ⟨.ref p,H,I,rfl,q⟩
def tyV (K:Frag) (T:String) (x:V) (H:Hp):Prop:=match x with
 | .str _=>T = "str"
 | .int _=>T = "int"
 | .ref p=>(T = "list" /\ ∃ xs,SqL K H p xs)\/(T = "tuple" /\ ∃ o,K.lookup p=some o/\o.cls=.type "tuple" /\ o.dict=none) \/
   (T = "dict" /\ ((∃ kvs,H p=some (.dK kvs))\/∃ kvs,H p=some (.dT kvs)))\/(T = "set" /\ ∃ S n,H p=some (.set S n))
 | _=>False
theorem tyV_is {pins:List (Addr×Obj)} {σ:St} {H:Hp} {s:Shared} {T:String} {x:V} {v:Value} (I:Inv X pins σ H s) (r:RelV x v) (ty:tyV X.K T x H) :
  s.TypeIs v T/\∀ a,v=.ref a->∃ ob,s.heap.get? a=some ob/\ob.dict=none:=by
 cases x with
 | str z=>
  obtain ⟨t,rfl⟩:=r
  cases (show T = "str" from ty)
  exact ⟨typeIs_str s z t,fun _ e=>nomatch e⟩
 | int i=>
  obtain ⟨t,rfl⟩:=r
  cases (show T = "int" from ty)
  exact ⟨typeIs_int s i t,fun _ e=>nomatch e⟩
 | ref p=>
  cases r
  rcases ty with ⟨rfl,xs,hq⟩ | ⟨rfl,o,hk,hc,hd⟩ | ⟨rfl,hk⟩ | ⟨rfl,S,n,hk⟩
  ·obtain ⟨its,_,pl,_⟩:=I.list hq
   refine ⟨pl.isList.typeIs,fun a e=>?_⟩
   cases e
   obtain ⟨o,n,e,c,hd,_⟩:=pl
   exact ⟨o,e,hd⟩
  ·refine ⟨⟨o,I.kIn p o hk,hc⟩,fun a e=>?_⟩
   cases e
   exact ⟨o,I.kIn _ o hk,hd⟩
  ·have z:∃ o,s.heap.get? p=some o/\o.ExactDict:=by
    rcases hk with ⟨kvs,hk⟩ | ⟨kvs,hk⟩
    ·obtain ⟨_,_,_,_,o,_,_,e,ex,_⟩:=I.hok p _ hk
     exact ⟨o,e,ex⟩
    ·obtain ⟨_,_,_,_,o,_,_,e,ex,_⟩:=I.hok p _ hk
     exact ⟨o,e,ex⟩
   obtain ⟨o,e,ex⟩:=z
   refine ⟨⟨o,e,ex.1⟩,fun a e2=>?_⟩
   cases e2
   exact ⟨o,e,ex.2.1⟩
  ·obtain ⟨o,_,_,_,e,ex,_⟩:=I.hok p _ hk
   refine ⟨⟨o,e,ex.1⟩,fun a e2=>?_⟩
   cases e2
   exact ⟨o,e,ex.2.1⟩
 | _=>exact False.elim ty
def tBM0 (K:Frag) (T:String) (r:V->List V->Hp->VK->Prop) (to:TE):TE:=fun σ H Q=>to σ H fun x H1=>tyV K T x H1/\r x [] H1 Q
def tBM (K:Frag) (T:String) (r:V->List V->Hp->VK->Prop) (to:TE) (t:TA):TE:=fun σ H Q=>to σ H fun x H1=>tyV K T x H1/\t σ H1 fun xs H2=>r x xs H2 Q
variable {o e:Expr} {es:List Expr} {to:TE} {t:TA} {name:Str} {apos cpos:Pos} {T id:String} {r:V->List V->Hp->VK->Prop}
theorem pe_bm0 (pa:PlainAttrs T) (slot:Slot T name id) (hty:typeOf (.builtin id)=pure (.type "method_descriptor")) (hm:MtR X id r) (ho:PE X o to)
  (hbase:attributeBase o name X.env (eval o X.env)=eval o X.env:=by rfl) (hline:(apos.endLine == cpos.line)=true:=by rfl):PE X (.Call (.Attribute o name apos) [] [] cpos) (tBM0 X.K T r to):=by
 intro pins s σ H Q I h
 refine wpAny_Call_method0_late hbase hline (thn (ho pins s σ H _ I h) fun v s1 zz41=>?_)
 obtain ⟨x,H1,I1,r1,ty,q1⟩:=zz41
 obtain ⟨h1,h2⟩:=tyV_is I1 r1 ty
 exact ⟨T,id,pa,slot,hty,h1,h2,Calls.callWith_builtin rfl (PySem.evalArgs_none (hm pins s1 σ H1 x [] v [] Q I1 r1 .nil q1))⟩
theorem pe_bm (pa:PlainAttrs T) (slot:Slot T name id) (hty:typeOf (.builtin id)=pure (.type "method_descriptor")) (hm:MtR X id r) (ho:PE X o to) (ha:PA X (e::es) t)
  (hbase:attributeBase o name X.env (eval o X.env)=eval o X.env:=by rfl)
  (hfew:((backTo cpos (starEach (e::es) X.env)).all (fun x=>!x.1)&&(backToKw cpos (keywordEach [] X.env)).all (fun x=>x.1.isSome)
   && decide ((e::es).length+([]:List Keyword).length+(if ([]:List Keyword).isEmpty then 0 else 1)<30))=true:=by rfl)
  (hline:(apos.endLine == cpos.line)=true:=by rfl) (hs:starEach (e::es) X.env=(false,eval e X.env)::starEach es X.env:=by rfl) (hplain:(backTo cpos (starEach es X.env)).any (·.1)=false:=by rfl) :
  PE X (.Call (.Attribute o name apos) (e::es) [] cpos) (tBM X.K T r to t):=by
 intro pins s σ H Q I h
 refine wpAny_Call_method_late hbase hfew hline rfl (thn (ho pins s σ H _ I h) fun v s1 zz42=>?_)
 obtain ⟨x,H1,I1,r1,ty,q1⟩:=zz42
 obtain ⟨h1,h2⟩:=tyV_is I1 r1 ty
 refine ⟨T,id,pa,slot,hty,h1,h2,?_⟩
 have hA:=ha cpos pins s1 σ H1 _ I1 q1
 rw [hs] at hA ⊢
 refine Calls.callWith_builtin (by show (false||(backTo cpos (starEach es X.env)).any (·.1))=false; rw [hplain] <;> rfl) (Calls.evalArgs_plain ?_)
 exact thn hA fun us s2 zz43=>by obtain ⟨vs,H2,I2,r2,q2⟩:=zz43; exact hm pins s2 σ H2 x vs v us Q I2 r1 r2 q2
end
end L2
namespace L2
open PySem PySem.Spec PyProof.Rows
def MtM (X:Cx) (id:String) (r:V->List V->Hp->VK->Prop):Prop:=
 ∀ (pins:List (Addr×Obj)) (s:Shared) (σ:St) (H:Hp) (x:V) (xs:List V) (v:Value) (us:List Value) (Q:VK),Inv X pins σ H s->RelV x v->Vals xs us->r x xs H Q ->
  wpAny (model X.prog X.w) X.A (call (.builtin id) (v::us)) (EP X pins σ Q) X.xe s
theorem Vals.one:∀ {x:V} {us:List Value},Vals [x] us->∃ u,us = [u]/\RelV x u:=by
 intro x us r
 cases r with
 | cons r t=>cases t; exact ⟨_,rfl,r⟩
theorem Vals.zero:∀ {us:List Value},Vals [] us->us = []
 | _,.nil=>rfl
section
variable {X:Cx} {pins:List (Addr×Obj)} {σ:St} {H:Hp} {s:Shared} {l b:Addr} {xs ys zs:List V}
theorem Inv.lset {its its':List Value} {n:Nat} {f:Array Value->Array Value} {t':Nat} (I:Inv X pins σ H s) (hH:H l=some (.lst xs))
  (e:s.heap.get? l=some { cls:=.type "list",data:=.seq its.toArray n }) (hf:f its.toArray=its'.toArray) (hv:Vals ys its') (hz:ys.length<=sizeLine) :
  Inv X pins σ (upd H l (.lst ys)) { s with heap:=s.heap.update l (Obj.mapSeq f),toks:=t' }:=by
 have q:=PySem.IsL.update e f
 rw [hf] at q
 refine I.write (x:=l) (e:=l) (by rw [hH]; exact trivial) (.inl rfl) (fun b' u hb hu=>(Heap.get?_update_other s.heap (Obj.mapSeq f) (Ne.symm hb)).trans hu) ⟨_,q⟩ ?_
 exact ⟨hz,its',_,hv,q⟩
theorem Inv.lnew {its:List Value} {t':Nat} (I:Inv X pins σ H s) (hv:Vals ys its) (hz:ys.length<=sizeLine) :
  Inv X pins σ (upd H s.heap.objs.size (.lst ys)) { s with heap:=s.heap.push { cls:=.type "list",data:=.seq its.toArray },toks:=t' }:=
 I.laid (fun _ _ q=>Heap.get?_push_of_some _ q) (Nat.le_refl _) ⟨hz,its,0,hv,Heap.get?_push_size _ rfl⟩
theorem Inv.fresh (I:Inv X pins σ H s):H s.heap.objs.size=none:=I.hok.fresh (Nat.le_refl _)
theorem Inv.lstM (I:Inv X pins σ H s) (hH:H l=some (.lst xs)):xs.length<=sizeLine/\∃ (its:List Value) (n:Nat),Vals xs its/\xs.length=its.length/\s.heap.get? l=some { cls:=.type "list",data:=.seq its.toArray n }:=by
 obtain ⟨z,its,n,r,e⟩:=I.hok l _ hH
 exact ⟨z,its,n,r,r.length,e⟩
end
section
variable {X:Cx}
def rAppend:V->List V->Hp->VK->Prop:=fun x vs H Q=>∃ l xs y,x=.ref l/\vs = [y]/\H l=some (.lst xs)/\xs.length<sizeLine/\Q .non (upd H l (.lst (xs ++ [y])))
theorem mt_append:MtM X "list.append" rAppend:=by
 intro pins s σ H x vs v us Q I rx rv h
 obtain ⟨l,xs,y,rfl,rfl,hH,hz,q⟩:=h
 cases rx
 obtain ⟨u,rfl,ru⟩:=rv.one
 obtain ⟨z,its,n,r,hl,e⟩:=I.lstM hH
 refine call_meets F.slot_list_append ⟨_,e,rfl⟩ F.entry_list_append (F.args_list_append_2 _ _) (PySem.list_append l its.toArray n u (by rw [List.size_toArray]; omega)) ⟨e,?_⟩
 refine ⟨.non,_,I.lset (its':=its ++ [u]) hH e (by simp) (r.append (.cons ru .nil)) ?_,rfl,q⟩
 rw [List.length_append,List.length_singleton]
 omega
def rClear:V->List V->Hp->VK->Prop:=fun x vs H Q=>∃ l xs,x=.ref l/\vs = []/\H l=some (.lst xs)/\Q .non (upd H l (.lst []))
theorem mt_clear:MtM X "list.clear" rClear:=by
 intro pins s σ H x vs v us Q I rx rv h
 obtain ⟨l,xs,rfl,rfl,hH,q⟩:=h
 cases rx
 have hus:=rv.zero
 subst hus
 obtain ⟨z,its,n,r,hl,e⟩:=I.lstM hH
 refine call_meets F.slot_list_clear ⟨_,e,rfl⟩ F.entry_list_clear (F.args_list_clear_1 _) (AutoSeq1.list_clear_list_0 l its.toArray n (by rw [List.size_toArray]; omega)) ⟨e,?_⟩
 exact ⟨.non,_,I.lset (its':=[]) (ys:=[]) hH e rfl .nil (Nat.zero_le _),rfl,q⟩
def rCat:R2:=fun x y H Q=>∃ l b xs zs,x=.ref l/\y=.ref b/\H l=some (.lst xs)/\H b=some (.lst zs)/\xs.length+zs.length<=sizeLine/\∀ p,H p=none->Q (.ref p) (upd H p (.lst (xs++zs)))
theorem op_cat:OpR X (binaryOp .Add) rCat:=by
 intro pins s σ H x y v u Q I rx ry h
 obtain ⟨l,b,xs,zs,rfl,rfl,hH,hB,hz,q⟩:=h
 cases rx
 cases ry
 obtain ⟨z,its,n,r,hl,e⟩:=I.lstM hH
 obtain ⟨z2,its2,n2,r2,hl2,e2⟩:=I.lstM hB
 refine PySem.P.add_list e e2 ?_ (by rw [List.size_toArray,List.size_toArray]; omega)
 have ea:its.toArray++its2.toArray=(its++its2).toArray:=by simp
 rw [ea]
 exact ⟨.ref _,_,I.lnew (t':=s.toks) (r.append r2) (by rw [List.length_append]; omega),rfl,q _ I.fresh⟩
end
section
variable {prog:Program} {w:World} {A:Around} {E:Value->Shared->Prop} {s:Shared}
end
section
variable {X:Cx}
end
end L2
namespace Att
open PySem PySem.W PySem.Calls PyProof.Rows
theorem ints_of_wellAll {P:Params} {h:Heap}:∀ (ns:List Int) (vs:List Value),WellAll P h vs (ns.map WData.int)->IntsAre vs ns:=by
 intro ns
 induction ns with
 | nil=>
  intro vs w
  rw [List.map_nil] at w
  cases w
  exact .nil
 | cons n ns ih=>
  intro vs w
  rw [List.map_cons] at w
  cases w with
  | cons a b=>
   cases a
   exact .cons _ _ (ih _ b)
theorem script_of {l:OpenLaw} {n:Nat} (hn:l.most=some n) {P:Params} {h:Heap} {args:List WData} {vals:List Value}
  (hpre:l.row.toRowW.claim.pre args=true) (hwl:WellAll P h vals args) :
  ∃ a vs ns,vals = [Value.ref a]/\args = [WData.list (ns.map WData.int)]/\h.get? a=some { cls:=.type "list",data:=.seq vs.toArray }/\IntsAre vs ns/\ns.length<=n:=by
 have hsh:WShape.hasAll [] args [.list .int]=true:=(pre_splitW hpre).1
 have hc:l.pre.holds [] { args:=args }=true:=(pre_splitW hpre).2
 obtain ⟨d,r,rfl,h1,h2⟩:=hasAllW_cons hsh
 obtain rfl:=hasAllW_nil h2
 obtain ⟨xs,rfl,h3⟩:=hasW_list h1
 obtain ⟨ns,rfl⟩:=items_int h3
 have hlen:ns.length<=n:=by
  unfold OpenLaw.pre at hc
  have h4:(WTm.not (.lt (.lit (.int (n:Int))) (.len (.arg 0)))).holds [] { args:=[.list (ns.map .int)] }=true:=by
   have h4:=(holds_andW hc).1
   rw [hn] at h4
   exact h4
  have h5:=condW_of h4 (w_not (w_lt w_lit (w_len_list (w_arg rfl))))
  rw [List.length_map] at h5
  refine Nat.le_of_not_lt fun q=>?_
  have q':(n:Int)<((ns.length:Nat):Int):=by omega
  first
   | (rw [decide_eq_true q'] at h5; exact absurd h5 (by decide))
   | (simp at h5; omega)
 cases hwl with
 | cons w1 w2=>
  cases w2
  cases w1 with
  | list ho hall=>exact ⟨_,_,ns,rfl,rfl,ho,ints_of_wellAll ns _ hall,hlen⟩
theorem post_true (l:OpenLaw) (args:List WData):l.row.toRowW.claim.post args (.bool true) args=true:=
 postW_of (r:=l.row.toRowW) (X:=(true == true))
  (show WShape.has [] (.bool true) .bool=true by first | rfl | decide | simp [WShape.has,WShape.arms,WShape.armsAll])
  (show (WTm.eq .res (.lit (.bool true))).value [] { args:=args,res:=some (.bool true),after:=args }=some (.bool (true == true)) from w_eq_bool (w_res rfl) w_lit) rfl
section
variable {prog:Program} {w:World} {A:Around} {E:Value->Shared->Prop} {s:Shared} {K:Frag}
end
end Att
namespace L2
open PySem PySem.Spec PyProof.Rows
theorem vals_ints:∀ {vs:List Value} {ns:List Int},IntsAre vs ns->Vals (ns.map V.int) vs:=by
 intro vs ns h
 induction h with
 | nil=>exact .nil
 | cons n t h ih=>exact .cons ⟨t,rfl⟩ ih
def Only (H:Hp):Prop:=∀ b,H b=none\/∃ o xs,H b=some (.frz o (.lst xs))
theorem law_call {P:Program} {w:World} {K:Frag} {mg mb:Str->Option Value} {CX:CXT} {k:Nat} {fa a:Addr} {fd:FuncData} {x:Str} {sp:Sp} {s₁:Shared} {vs:List Value} {ns:List Int}
  (KX:K.In s₁.heap) (hns:s₁.heap.Ns mainGlobals mg) (hb:s₁.heap.Ns builtinsNs mb) (hbb:∀ x:Str,x ≠ "__name__" -> mb x=bootBuiltins x) (hlim:s₁.heap.NoLimit) (hg:s₁.gens=#[])
  (ha:s₁.heap.get? a=some { cls:=.type "list",data:=.seq vs.toArray }) (hi:IntsAre vs ns) (hl:ns.length<=sizeLine) (hr:Room k callerA)
  (F:∀ base:Heap,K.In base->base.Ns mainGlobals mg->FnOk P w K mg base CX k fa fd [x] sp) (hbind:∀ (s:Shared) (u:Value),BindsTo s fd ⟨[u],[]⟩ [(x,u)])
  (hsp:∀ H:Hp,Only H->SqL K H a (ns.map V.int)->sp [.ref a] H (fun v _=>v=.bl true) fun _ _ _=>False)
  (hCX:∀ H e s',CX [] H s₁ (fun _ _ _=>False) e s'->False) :
  codeAny (model P w) callerA (.call (.ref fa) ⟨[.ref a],[]⟩) (fun r s'=>r=.ok (.ret (.bool true))/\OldK s₁.heap s'.heap/\s'.os=s₁.os/\AllBare s'.gens) s₁:=by
 have rv:=vals_ints hi
 have lenV:=hi.length
 -- from an abstract heap in which nothing but the script may be tracked
 have core:∀ H:Hp,Only H->SqL K H a (ns.map V.int)->HOk P w H s₁.heap->(∀ b,H b≠none->b=a)->(H a≠none->K.lookup a=none) ->
   codeAny (model P w) callerA (.call (.ref fa) ⟨[.ref a],[]⟩) (fun r s'=>r=.ok (.ret (.bool true))/\OldK s₁.heap s'.heap/\s'.os=s₁.os/\AllBare s'.gens) s₁:=by
  intro H hO hS hok hA hK
  have base_of:∀ {b:Addr} {o:Obj},s₁.heap.get? b=some o->H b=none->(hidT s₁.heap H).get? b=some o:=fun e n=>hidT_get e n
  have noA:∀ {b:Addr} {o:Obj} {es:Array DictEntry} {ep:Nat},s₁.heap.get? b=some o->o.data=.dict es ep->H b=none:=fun {b o es ep} e d=>by
   cases q:H b with
   | none=>rfl
   | some u=>
    have e':b=a:=hA b (by rw [q]; simp)
    subst e'
    rw [ha] at e; cases e
    have d':Data.seq vs.toArray _=Data.dict es ep:=d
    cases d'
  have nsK:∀ {b:Addr} {m:Str->Option Value},s₁.heap.Ns b m->(hidT s₁.heap H).Ns b m:=fun {b m} zz44=>by obtain ⟨o,es,ep,e,d,r⟩:=zz44; exact ⟨o,es,ep,base_of e (noA e d),d,r⟩
  have hKb:K.In (hidT s₁.heap H):=fun b o e=>base_of (KX b o e) (by
   cases q:H b with
   | none=>rfl
   | some u=>
    have e':b=a:=hA b (by rw [q]; simp)
    subst e'
    rw [hK (by rw [q]; simp)] at e; cases e)
  have hM:Mod K mg (hidT s₁.heap H):=⟨hKb,nsK hns,⟨mb,nsK hb,hbb⟩,let ⟨mc,h1,h2⟩:=hlim; ⟨mc,nsK h1,h2⟩⟩
  have e0:Env0 P w K mg (hidT s₁.heap H) callerA [] s₁ H:=⟨rfl,hM,fun b o e=>of_hidT e,Nat.le_of_eq (hidT_size _ _),trivial,fun b hb=>absurd (show b∈([]:List Addr) from hb) (by simp),hok,.of_eq hg⟩
  refine codeAny_mono ((F _ hKb (nsK hns)).run callerA [] s₁ H ⟨[.ref a],[]⟩ [.ref a] [.ref a] _ _ hr e0 (hbind s₁ (.ref a)) (.cons rfl .nil) (hsp H hO hS)) fun r s' h=>?_
  cases r with
  | error e=>exact (hCX H e s' h).elim
  | ok fl=>
   cases fl with
   | next=>exact False.elim h
   | brk=>exact False.elim h
   | cont=>exact False.elim h
   | ret u=>
    obtain ⟨v,H',os,bare,un,hok',r',q⟩:=h
    have q':v=.bl true:=q
    subst q'
    obtain rfl:u=Value.bool true:=r'
    refine ⟨rfl,OldK.of_keep fun b o e=>?_,os,bare⟩
    cases q:H b with
    | none=>exact un.keep b o e q (by intro z; exact absurd (show b∈([]:List Addr) from z) (by simp)) (by simp)
    | some u=>
     rcases hO b with z | ⟨ob,xs,z⟩
     ·rw [q] at z; cases z
     ·have z2:=un.frzs b ob _ z
      obtain ⟨e1,_⟩:=hok b _ z
      obtain ⟨e2,_⟩:=hok' b _ z2
      rw [e] at e1; cases e1
      exact e2
 cases hk:K.lookup a with
 | some o=>
  -- the script is one of the module's own objects
  have e:=KX a o hk
  rw [ha] at e
  cases e
  refine core (fun _=>none) (fun _=>.inl rfl) (.inr ⟨_,vs.toArray,_,hk,rfl,rfl,rfl,by rw [List.size_toArray,lenV]; exact hl,by simpa using rv⟩) (fun b u z=>by have z':(none:Option HO)=some u:=z; cases z') (fun b z=>absurd rfl z) fun z=>absurd rfl z
 | none=>
  refine core (fun b=>if b=a then some (.frz { cls:=.type "list",data:=.seq vs.toArray } (.lst (ns.map V.int))) else none) (fun b=>?_) (.inl (.inr ⟨{ cls:=.type "list",data:=.seq vs.toArray },if_pos rfl⟩)) (fun b u z=>?_) (fun b z=>?_) fun _=>hk
  ·by_cases hb:b=a
   ·exact .inr ⟨_,_,if_pos hb⟩
   ·exact .inl (if_neg hb)
  ·by_cases hb:b=a
   ·have z':=(if_pos hb).symm.trans z
    cases z'
    subst hb
    exact ⟨ha,by rw [List.length_map]; exact hl,vs,_,rv,ha⟩
   ·have z':=(if_neg hb).symm.trans z
    cases z'
  ·by_cases hb:b=a
   ·exact hb
   ·exact absurd (if_neg hb) z
end L2
namespace L2
open PySem PySem.Spec PyProof.Rows
end L2
namespace L2
open PySem PySem.Spec PyProof.Rows
def defArgs (s:Stmt):Arguments:=match s with
 | .FunctionDef _ a _ _ _ _ _ _ _ _=>a
 | _=>{ posonlyargs:=[],args:=[],vararg:=none,kwonlyargs:=[],kw_defaults:=[],kwarg:=none,defaults:=[] }
def defBody (s:Stmt):List Stmt:=match s with
 | .FunctionDef _ _ b _ _ _ _ _ _ _=>b
 | _=>[]
def defScope (s:Stmt):Scope:=match s with
 | .FunctionDef _ _ _ _ _ _ sc _ _ _=>sc
 | _=>{ kind:=.function,names:=[],isGenerator:=false,isCoroutine:=false }
abbrev CX0:CXT:=fun _ _ _ _ _ _=>False
abbrev E0:XK:=fun _ _ _=>False
theorem pass0 {X:Cx}:Passes CX0 X E0:=fun _ _ _ _ _ _ _ h=>h.elim
structure Fun (K:Frag) (x qual:Str) (st:Stmt) (f:Addr) (fd:FuncData):Prop where
 ex:∃ (oc:Value) (od:Option Addr) (kV doc pm:Value) (an:Option Addr) (cdv ct:Value) (osl:Array (Option Value)),
  fd=PySem.W.fnOf x qual (defArgs st) (defBody st) (defScope st) .none kV doc pm an cdv ct/\K.lookup f=some ⟨oc,od,.func fd,osl⟩/\PySem.W.codeIn K cdv qual=true
 kp:PySem.W.keepIn K (.ref f)=true
section
variable {P:Program} {w:World} {K:Frag} {mg:Str->Option Value} {base:Heap}
theorem Fun.ok {x qual:Str} {st:Stmt} {f:Addr} {fd:FuncData} {N ps:List Str} {k:Nat} {sp:Sp} (F:Fun K x qual st f fd) (S:FnScope N ps (defScope st)) (len:∀ vs H Q E,sp vs H Q E->vs.length=ps.length)
  (hbody:∀ (cdv:Value) (A:Around) (outer:List Env) (s:Shared) (H:Hp) (vs:List V) (Q:VK) (E:XK),Room k (A.deeper (envOfC qual (defScope st) s.heap.objs.size f cdv))->sp vs H Q E ->
   ∃ t,PSs (cxOf CX0 P w K mg base N qual (defScope st) f cdv A outer s H E).nox (defBody st) t/\t { nx:=fun _ H'=>Q .non H',rt:=Q } (start N vs) H):FnOk P w K mg base CX0 (k+1) f fd ps sp:=by
 obtain ⟨oc,od,kV,doc,pm,an,cdv,ct,osl,rfl,lk,hcd⟩:=F.ex
 refine fn_of lk hcd S len fun A outer s H vs Q E hr hsp=>?_
 obtain ⟨t,h,q⟩:=hbody cdv A outer s H vs Q E hr hsp
 exact ⟨t,h.nox,q⟩
theorem Fun.binds {x qual:Str} {st:Stmt} {f:Addr} {fd:FuncData} {ps:List Str} (F:Fun K x qual st f fd)
  (h:∀ (kV doc pm:Value) (an:Option Addr) (cdv ct:Value) (us:List Value),us.length=ps.length->bindArgs (PySem.W.fnOf x qual (defArgs st) (defBody st) (defScope st) .none kV doc pm an cdv ct) ⟨us,[]⟩=pure (ps.zip us)):Binds K fd ps []:=by
 obtain ⟨oc,od,kV,doc,pm,an,cdv,ct,osl,rfl,lk,hcd⟩:=F.ex
 exact .all (h kV doc pm an cdv ct)
theorem fun_mk {x qual:Str} {st:Stmt} {f:Addr} {oc:Value} {od an:Option Addr} {osl:Array (Option Value)} {kV doc pm cdv ct:Value} (l:K.lookup f=some ⟨oc,od,.func (PySem.W.fnOf x qual (defArgs st) (defBody st) (defScope st) .none kV doc pm an cdv ct),osl⟩)
  (c:PySem.W.codeIn K cdv qual=true) (k:PySem.W.keepIn K (.ref f)=true):Fun K x qual st f (PySem.W.fnOf x qual (defArgs st) (defBody st) (defScope st) .none kV doc pm an cdv ct):=⟨⟨oc,od,kV,doc,pm,an,cdv,ct,osl,rfl,l,c⟩,k⟩
end
section
variable {X:Cx}
end
def Same (H H':Hp):Prop:=∀ b o,H b=some o->H' b=some o
theorem Same.refl (H:Hp):Same H H:=fun _ _ h=>h
theorem Same.trans {H H1 H2:Hp} (a:Same H H1) (b:Same H1 H2):Same H H2:=fun c o h=>b c o (a c o h)
theorem Same.free {H H':Hp} (e:Same H H') {l:Addr} (h:H' l=Option.none):H l=Option.none:=by
 cases q:H l with
 | none=>rfl
 | some o=>
  rw [e l o q] at h
  cases h
theorem Same.seq {K:Frag} {H H':Hp} {a:Addr} {xs:List V} (e:Same H H') (h:SqL K H a xs):SqL K H' a xs:=by
 rcases h with (h | ⟨o,h⟩) | h
 ·exact .inl (.inl (e _ _ h))
 ·exact .inl (.inr ⟨o,e _ _ h⟩)
 ·exact .inr h
end L2
namespace L2
open PySem PySem.Spec PyProof.Rows
def Dk (h h':Heap):Prop:=∀ b o,h.get? b=some o->∃ o',h'.get? b=some o'/\o'.cls=o.cls/\o'.dict=o.dict
structure KD {α:Type} (t:Sem α):Prop where
 out:∀ (M:Model) (Γ:PySem.Ctx) (P:α->Pos->Shared->Prop) (Ee:Value->Pos->Shared->Prop) (p:Pos) (s:Shared),
  Sem.wp M Γ t P Ee p s->Sem.wp M Γ t (fun a p' s'=>P a p' s'/\Dk s.heap s'.heap) Ee p s
def cut (h:Heap) (fs:List Addr):Heap:={ h with objs:=h.objs.mapIdx fun i o=>if i∈fs then { o with data:=.freed } else o }
section
variable {P:Program} {w:World} {K:Frag} {mg:Str->Option Value} {base:Heap} {N:List Str} {qual:Str} {scope:Scope} {f:Addr} {cd:Value} {A:Around} {outer:List Env} {s:Shared} {H:Hp} {E:XK}
 {pins:List (Addr×Obj)} {σ:St} {H':Hp} {s2:Shared} {a:Addr}
end
end L2
namespace L2
open PySem PySem.Spec PyProof.Rows
section
variable {prog:Program} {w:World} {A:Around} {E:Value->Shared->Prop} {s:Shared} {K:Frag} {x C:Addr} {ox:Obj} {od:Option Obj} {name:Str} {tk:Tok} {fill expr:Bool} {v:Value} {Q:Value->Shared->Prop}
end
end L2
namespace L2
open PySem PySem.Spec PyProof.Rows
section
variable {prog:Program} {w:World} {A:Around} {E:Value->Shared->Prop} {s:Shared} {K:Frag} {x C:Addr} {ox:Obj} {name:Str} {tk:Tok} {v:Value} {Q:Unit->Shared->Prop}
end
end L2
namespace L2
open PySem PySem.Spec PyProof.Rows
section
variable {prog:Program} {w:World} {A:Around} {s:Shared} {K:Frag} {C f:Addr} {R:Result->Shared->Prop} {nm q:Str} {N:Addr} {bs bm bmB:List Value} {hdct:Bool} {sn:List Str} {sub:List Value} {ab:Bool} {col:Option Bool} {dd:Option Addr} {k0 k1 k2 k3 k5:Option Value}
 {B Bn newId nid initId inN:String} {bmN:List Value} {rest:List Value}
end
end L2
namespace L2
open PySem PySem.Spec PyProof.Rows
section
variable {prog:Program} {w:World} {A:Around} {E:Value->Shared->Prop} {s:Shared} {K:Frag} {env:Env} {x:Expr} {pos:Pos} {Q:Flow->Shared->Prop}
end
end L2
namespace L2
open PySem PySem.Spec PyProof.Rows
section
variable {X:Cx} {pins:List (Addr×Obj)} {σ σ':St} {H:Hp} {s:Shared}
end
end L2
namespace L2
open PySem PySem.Spec PyProof.Rows
section
variable {X:Cx} {pins:List (Addr×Obj)} {σ:St} {H H':Hp} {s s1:Shared}
end
end L2
namespace L2
open PySem PySem.Spec PyProof.Rows
section
variable {X:Cx} {pins:List (Addr×Obj)} {σ:St} {H H':Hp} {s s1:Shared} {a:Addr} {B:Heap} {cls:Value} {od:Option Addr}
structure Here (X:Cx) (pins:List (Addr×Obj)) (σ:St) (H':Hp) (a:Addr) (B:Heap) (cls:Value) (od:Option Addr) (s:Shared):Prop where
 inv:Inv X pins σ H' s
 dict:∃ o,s.heap.get? a=some o/\o.dict=od
end
end L2
namespace L2
open PySem PySem.Spec PyProof.Rows
section
variable {X:Cx} {k:Nat} {f:Addr} {fd:FuncData} {ps:List Str} {sp:Sp} {fn cn n y:Str} {fp cp ap np hpos yp pos:Pos} {e:Expr} {es:List Expr} {t:TA} {C:Addr} {i jn:Nat} {b0:Stmt} {suite:List Stmt} {tb:TS}
def tCatch (X:Cx) (C:Addr) (jn:Nat) (tb:TS) (D:Ends) (σ:St):XK:=fun cls od H'=>∃ Dc,cls=.ref Dc/\PySem.W.exmOne X.K (.ref Dc) (.ref C)=some true /\
 ∀ (a:Addr) (o:Obj),H' a=none->o.cls=cls->o.dict=od->(∃ vs:Array Value,o.data=.fields vs) ->
  tb { nx:=fun σ' H'=>D.nx (σ'.set jn none) H',rt:=D.rt,bk:=fun σ' H'=>D.bk (σ'.set jn none) H',ct:=fun σ' H'=>D.ct (σ'.set jn none) H' } (σ.set jn (some (.ref a))) (upd H' a (.ext fun h=>h.get? a=some o))
end
end L2
namespace L2
open PySem PySem.Spec PyProof.Rows
section
variable {X:Cx} {pins:List (Addr×Obj)} {σ:St} {H:Hp} {s:Shared}
end
end L2
namespace L2
open PySem PySem.Spec PyProof.Rows
section
variable {X:Cx}
end
end L2
namespace L2
open PySem PySem.Spec PyProof.Rows
section
variable {X:Cx} {pins:List (Addr×Obj)} {σ:St} {H:Hp} {s:Shared}
end
end L2
namespace L2
open PySem PySem.Spec PyProof.Rows
section
variable {P:Program} {w:World} {K:Frag} {mg:Str->Option Value} {base:Heap} {N:List Str} {qual:Str} {scope:Scope} {f0:Addr} {cd:Value} {A:Around} {outer:List Env} {s0:Shared} {H0:Hp} {E:XK}
 {k:Nat} {C f:Addr} {fd:FuncData} {ps:List Str} {sp:Sp} {cn:Str} {np cp pos:Pos} {e:Expr} {es:List Expr} {t:TA}
end
end L2
namespace L2
open PySem PySem.Spec PyProof.Rows
section
variable {P:Program} {w:World} {K:Frag} {mg:Str->Option Value} {base:Heap} {k:Nat} {f:Addr} {fd:FuncData} {ps N:List Str} {sp:Sp} {CX:CXT}
end
end L2
namespace L2
open PySem PySem.Spec PyProof.Rows
section
variable {X:Cx} {o:Expr} {ta:TE} {name:Str} {pos:Pos}
end
end L2
namespace L2
open PySem PySem.Spec PyProof.Rows
section
variable {X:Cx} {pins:List (Addr×Obj)} {σ:St} {H:Hp} {s:Shared} {A:Around} {E:Value->Shared->Prop} {Q:Value->Shared->Prop} {c:Value} {b:Bool} {a C:Addr} {ox:Obj} {vs:Array Value}
end
end L2
namespace L2
open PySem PySem.Spec PyProof.Rows
section
variable {P:Program} {w:World} {K:Frag} {mg:Str->Option Value} {base:Heap} {N:List Str} {qual:Str} {scope:Scope} {f0:Addr} {cd:Value} {A:Around} {outer:List Env} {s0:Shared} {H0:Hp} {E:XK}
 {C:Addr} {cn:Str} {np cp pos:Pos} {e:Expr} {es:List Expr} {t:TA}
end
end L2
namespace L2
open PySem
structure Nx {α:Type} (t:Sem α):Prop where
 out:∀ (M:Model) (Γ:PySem.Ctx) (P:α->Pos->Shared->Prop) (Ee Ef:Value->Pos->Shared->Prop) (p:Pos) (s:Shared),Sem.wp M Γ t P Ee p s->Sem.wp M Γ t P Ef p s
structure Po {α:Type} (t:Sem α) (pre:Shared->Prop) (post:α->Shared->Prop):Prop where
 out:∀ (M:Model) (Γ:PySem.Ctx) (P:α->Pos->Shared->Prop) (Ee Ef:Value->Pos->Shared->Prop) (p:Pos) (s:Shared),
  pre s->Sem.wp M Γ t P Ee p s->Sem.wp M Γ t (fun a p' s'=>P a p' s'/\post a s') Ef p s
def FldAt (v:Value) (i:Nat) (x:Value) (h:Heap):Prop:=∃ (a:Addr) (o:Obj) (vs:Array Value),v=.ref a/\h.get? a=some o/\o.data=.fields vs/\vs[i]?=some x
def Marked (e:Value) (f:Addr) (h:Heap):Prop:=∃ t,FldAt e 1 t h/\FldAt t 3 (rawInt f) h/\t≠.none
structure Free {α:Type} (t:Sem α):Prop where
 out:∀ (M:Model) (Γ Γ':PySem.Ctx) (P P':α->Pos->Shared->Prop) (E E':Value->Pos->Shared->Prop) (p p':Pos) (s:Shared),(∀ a p p' s,P a p s->P' a p' s)->(∀ a p p' s,E a p s->E' a p' s)->Sem.wp M Γ t P E p s->Sem.wp M Γ' t P' E' p' s
end L2
namespace L2
open PySem PySem.Spec PyProof.Rows
section
variable {X:Cx} {k:Nat} {f:Addr} {fd:FuncData} {ps:List Str} {sp:Sp} {fn cn n y:Str} {fp cp ap np hpos yp pos:Pos} {e:Expr} {es:List Expr} {t:TA} {C:Addr} {i jn:Nat} {b0:Stmt} {suite:List Stmt} {tb:TS}
end
end L2
namespace L2
open PySem PySem.Spec PyProof.Rows
section
variable {X:Cx} {k:Nat} {C f:Addr} {fd:FuncData} {ps:List Str} {sp:Sp} {cn:Str} {np cp pos:Pos} {e:Expr} {es:List Expr} {t:TA}
end
end L2
namespace L2
open PySem PySem.Spec PyProof.Rows
section
variable {κ:Type} [DecidableEq κ]
def valV (kvs:List (κ×V)) (k:κ):Option V:=(kvs.find? fun kv=>decide (kv.1=k)).map (·.2)
def putK (kvs:List (κ×V)) (k:κ) (v:V):List (κ×V):=
 if (kvs.any fun kv=>decide (kv.1=k))=true then kvs.map (fun kv=>if kv.1=k then (kv.1,v) else kv) else kvs ++ [(k,v)]
def dropK (kvs:List (κ×V)) (k:κ):List (κ×V):=kvs.filter fun kv=>decide (kv.1≠k)
theorem valV_pos {p:κ×V} {r:List (κ×V)} {k:κ} (e:p.1=k):valV (p::r) k=some p.2:=by simp [valV,List.find?_cons,e]
theorem valV_neg {p:κ×V} {r:List (κ×V)} {k:κ} (e:¬ p.1=k):valV (p::r) k=valV r k:=by simp [valV,List.find?_cons,e]
theorem valV_any (k:κ):∀ kvs:List (κ×V),(kvs.any fun kv=>decide (kv.1=k))=(valV kvs k).isSome
 | []=>rfl
 | p::r=>by
  rw [List.any_cons]
  by_cases e:p.1=k
  ·simp only [valV_pos e,decide_eq_true e,Bool.true_or,Option.isSome_some]
  ·rw [valV_neg e,decide_eq_false e,Bool.false_or]; exact valV_any k r
theorem length_putK (kvs:List (κ×V)) (k:κ) (v:V):(putK kvs k v).length<=kvs.length+1:=by
 unfold putK
 split
 ·rw [List.length_map]; omega
 ·rw [List.length_append,List.length_cons,List.length_nil]; omega
theorem putK_new {kvs:List (κ×V)} {k:κ} (v:V) (h:valV kvs k=none):putK kvs k v=kvs ++ [(k,v)]:=by
 unfold putK
 rw [valV_any,h]
 exact if_neg (by decide)
theorem RelO.isSome_eq {o:Option V} {u:Option Value} (r:RelO o u):o.isSome=u.isSome:=by
 cases o with
 | none=>cases u with
  | none=>rfl
  | some _=>exact (show False from r).elim
 | some _=>cases u with
  | none=>exact (show False from r).elim
  | some _=>rfl
theorem RelO.getD {o:Option V} {u:Option Value} {d:V} {d':Value} (r:RelO o u) (rd:RelV d d'):RelV (o.getD d) (u.getD d'):=by
 cases o with
 | none=>cases u with
  | none=>exact rd
  | some _=>exact (show False from r).elim
 | some _=>cases u with
  | none=>exact (show False from r).elim
  | some _=>exact r
theorem KV.val {kvs:List (κ×V)} {vs:List (κ×Value)} (r:KV kvs vs) (k:κ):RelO (valV kvs k) (valueAt vs k):=by
 unfold KV at r
 induction r with
 | nil=>exact True.intro
 | @cons p q ps qs h t ih=>
  obtain ⟨h1,h2⟩:=h
  by_cases e:p.1=k
  ·have e':q.1=k:=h1.symm.trans e
   have b:valueAt (q::qs) k=some q.2:=by simp [valueAt,List.find?_cons,e']
   rw [valV_pos e,b]; exact h2
  ·have e':¬ q.1=k:=fun z=>e (h1.trans z)
   have b:valueAt (q::qs) k=valueAt qs k:=by simp [valueAt,List.find?_cons,e']
   rw [valV_neg e,b]; exact ih
theorem KV.any {kvs:List (κ×V)} {vs:List (κ×Value)} (r:KV kvs vs) (k:κ):(kvs.any fun kv=>decide (kv.1=k))=vs.any fun kv=>decide (kv.1=k):=by
 unfold KV at r
 induction r with
 | nil=>rfl
 | cons h t ih=>rw [List.any_cons,List.any_cons,ih,h.1]
theorem KV.repl {kvs:List (κ×V)} {vs:List (κ×Value)} (r:KV kvs vs) (k:κ) {y:V} {u:Value} (ry:RelV y u) :
  KV (kvs.map fun kv=>if kv.1=k then (kv.1,y) else kv) (vs.map fun kv=>if kv.1=k then (kv.1,u) else kv):=by
 unfold KV at r ⊢
 induction r with
 | nil=>exact .nil
 | @cons p q ps qs h t ih=>
  rw [List.map_cons,List.map_cons]
  refine .cons ?_ ih
  obtain ⟨h1,h2⟩:=h
  by_cases e:p.1=k
  ·rw [if_pos e,if_pos (h1.symm.trans e)]; exact ⟨h1,ry⟩
  ·rw [if_neg e,if_neg (fun z=>e (h1.trans z))]; exact ⟨h1,h2⟩
theorem KV.put {kvs:List (κ×V)} {vs:List (κ×Value)} (r:KV kvs vs) (k:κ) {y:V} {u:Value} (ry:RelV y u):KV (putK kvs k y) (stored vs k u):=by
 unfold putK stored
 rw [r.any k]
 by_cases e:(vs.any fun kv=>decide (kv.1=k))=true
 ·rw [if_pos e,if_pos e]; exact r.repl k ry
 ·rw [if_neg e,if_neg e]; exact Paired.snoc r ⟨rfl,ry⟩
theorem KV.keys {kvs:List (κ×V)} {vs:List (κ×Value)} (r:KV kvs vs):kvs.map (·.1)=vs.map (·.1):=by
 unfold KV at r
 induction r with
 | nil=>rfl
 | cons h t ih=>rw [List.map_cons,List.map_cons,ih,h.1]
theorem KV.length {kvs:List (κ×V)} {vs:List (κ×Value)} (r:KV kvs vs):kvs.length=vs.length:=Paired.length r
end
theorem kV_is {P:Program} {w:World} {k:Key} {u:Value} (r:RelV (kV k) u):(mixKind P w).is k u=true:=by
 cases k with
 | inl i=>obtain ⟨t,e⟩:=(show ∃ t,u=Value.int i t from r); subst e; exact mixKind_int P w i t
 | inr x=>obtain ⟨t,e⟩:=(show ∃ t,u=Value.str x t from r); subst e; exact mixKind_str P w x t
theorem items_are {P:Program} {w:World}:∀ {ks:List Key} {us:List Value},Vals (ks.map kV) us->ItemsAre (mixKind P w) ks us
 | [],_,r=>by rw [List.map_nil] at r; cases r; exact .nil
 | k::ks,_,r=>by
  rw [List.map_cons] at r
  cases r with
  | cons h t=>exact .cons (kV_is h) (items_are t)
abbrev KT (H:Hp):List (List Key×V)->List (List Key×Addr×Value)->Prop:=Paired fun p q=>p.1=q.1/\H q.2.1=some (.tup (p.1.map kV))/\RelV p.2 q.2.2
theorem KT.val {H:Hp} {kvs:List (List Key×V)} {xs:List (List Key×Addr×Value)} (r:KT H kvs xs) (k:List Key):RelO (valV kvs k) ((atKey xs k).map (·.2)):=by
 induction r with
 | nil=>exact True.intro
 | @cons p q ps qs h t ih=>
  obtain ⟨h1,_,h2⟩:=h
  by_cases e:p.1=k
  ·have e':q.1=k:=h1.symm.trans e
   have b:atKey (q::qs) k=some q.2:=by simp [atKey,List.find?_cons,e']
   rw [valV_pos e,b]; exact h2
  ·have e':¬ q.1=k:=fun z=>e (h1.trans z)
   have b:atKey (q::qs) k=atKey qs k:=by simp [atKey,List.find?_cons,e']
   rw [valV_neg e,b]; exact ih
theorem KT.repl {H:Hp} {kvs:List (List Key×V)} {xs:List (List Key×Addr×Value)} (r:KT H kvs xs) (k:List Key) {y:V} {u:Value} (ry:RelV y u) :
  KT H (kvs.map fun kv=>if kv.1=k then (kv.1,y) else kv) (xs.map (putAt k u)):=by
 induction r with
 | nil=>exact .nil
 | @cons p q ps qs h t ih=>
  rw [List.map_cons,List.map_cons]
  refine .cons ?_ ih
  obtain ⟨h1,h2,h3⟩:=h
  unfold putAt
  by_cases e:p.1=k
  ·rw [if_pos e,if_pos (h1.symm.trans e)]; exact ⟨h1,h2,ry⟩
  ·rw [if_neg e,if_neg (fun z=>e (h1.trans z))]; exact ⟨h1,h2,h3⟩
theorem KT.put {H:Hp} {kvs:List (List Key×V)} {xs:List (List Key×Addr×Value)} (r:KT H kvs xs) (k:List Key) {b:Addr} {y:V} {u:Value} (hb:H b=some (.tup (k.map kV))) (ry:RelV y u) :
  KT H (putK kvs k y) (storedH xs k b u):=by
 have e:(kvs.any fun kv=>decide (kv.1=k))=(atKey xs k).isSome:=by
  rw [valV_any,(r.val k).isSome_eq,Option.isSome_map]
 unfold putK storedH
 rw [e]
 by_cases q:(atKey xs k).isSome=true
 ·rw [if_pos q,if_pos q]; exact r.repl k ry
 ·rw [if_neg q,if_neg q]; exact Paired.snoc r ⟨rfl,hb,ry⟩
theorem KT.keeps {H H':Hp} {kvs:List (List Key×V)} {xs:List (List Key×Addr×Value)} (r:KT H kvs xs) (ht:∀ b ys,H b=some (.tup ys)->H' b=some (.tup ys)):KT H' kvs xs:=
 Paired.mapP r fun _ _ z=>⟨z.1,ht _ _ z.2.1,z.2.2⟩
section
variable {P:Program} {w:World} {H:Hp} {h:Heap} {a:Addr}
theorem rd_of {u:HO} (ok:HOk P w H h) (e:Rd H a u):ObjOk P w H h a u:=e.ok ok
theorem dk_rd {kvs:List (Key×V)} (ok:HOk P w H h) (e:Rd H a (.dK kvs)):kvs.length<=sizeLine/\(a == sysModules)=false/\∃ vs,KV kvs vs/\h.DictOf (mixKind P w) a vs:=
 show ObjOk P w H h a (.dK kvs) from rd_of ok e
theorem dk_of {kvs:List (Key×V)} (ok:HOk P w H h) (e:H a=some (.dK kvs)):kvs.length<=sizeLine/\(a == sysModules)=false/\∃ vs,KV kvs vs/\h.DictOf (mixKind P w) a vs:=dk_rd ok (.inl e)
theorem key_of {ks:List Key} (ok:HOk P w H h) (e:H a=some (.tup (ks.map kV))):(tupleKind (mixKind P w)).is h ks a:=by
 obtain ⟨_,its,r,o,h1,h2,n,h3⟩:=(show ObjOk P w H h a (.tup (ks.map kV)) from ok a _ e)
 exact ⟨o,its.toArray,n,h1,h2,h3,by simpa using items_are r⟩
theorem dt_rd {kvs:List (List Key×V)} (ok:HOk P w H h) (e:Rd H a (.dT kvs)):kvs.length<=sizeLine/\(a == sysModules)=false /\
  ∃ xs,KT H kvs xs/\h.DictOfH (tupleKind (mixKind P w)) a xs:=by
 obtain ⟨z,y,xs,r,o,es,ep,h1,h2,h3,h4,h5⟩:=(show ObjOk P w H h a (.dT kvs) from rd_of ok e)
 refine ⟨z,y,xs,r,o,es,ep,h1,h2,h3,h4,fun x hx=>?_,h5⟩
 have all:∀ {l:List (List Key×V)} {m:List (List Key×Addr×Value)},KT H l m->∀ x∈m,(tupleKind (mixKind P w)).is h x.1 x.2.1:=by
  intro l m q
  induction q with
  | nil=>intro x hx; exact nomatch hx
  | @cons p q ps qs hq t ih=>
   intro x hx
   rcases List.mem_cons.mp hx with e | hx
   ·subst e
    exact key_of ok (by rw [<- hq.1]; exact hq.2.1)
   ·exact ih x hx
 exact all r x hx
theorem dt_of {kvs:List (List Key×V)} (ok:HOk P w H h) (e:H a=some (.dT kvs)):kvs.length<=sizeLine/\(a == sysModules)=false /\
  ∃ xs,KT H kvs xs/\h.DictOfH (tupleKind (mixKind P w)) a xs:=dt_rd ok (.inl e)
end
def DGet (H:Hp) (a:Addr) (y:V) (r:Option V):Prop:=
 (∃ kvs k,Rd H a (.dK kvs)/\y=kV k/\r=valV kvs k)\/∃ kvs k b,Rd H a (.dT kvs)/\y=.ref b/\H b=some (.tup (k.map kV))/\r=valV kvs k
def DPut (H:Hp) (a:Addr) (y v:V) (H':Hp):Prop:=
 (∃ kvs k,H a=some (.dK kvs)/\y=kV k/\kvs.length<sizeLine/\H'=upd H a (.dK (putK kvs k v))) \/
 ∃ kvs k b,H a=some (.dT kvs)/\y=.ref b/\H b=some (.tup (k.map kV))/\kvs.length<sizeLine/\H'=upd H a (.dT (putK kvs k v))
theorem DPut.k {H:Hp} {a:Addr} {kvs:List (Key×V)} {k:Key} {v:V} (e:H a=some (.dK kvs)) (hl:kvs.length<sizeLine):DPut H a (kV k) v (upd H a (.dK (putK kvs k v))):=.inl ⟨kvs,k,e,rfl,hl,rfl⟩
section
variable {X:Cx} {pins:List (Addr×Obj)} {σ:St} {H:Hp} {s:Shared} {a:Addr} {y v:V} {u r:Value} {o:Option V} {A:Around} {E:Value->Shared->Prop}
theorem Inv.big (I:Inv X pins σ H s):sysModules<s.heap.objs.size:=by
 have h:mainGlobals<s.heap.objs.size:=(I.mod.glob.keeps I.bk).lt
 exact Nat.lt_trans (by decide) h
theorem d_in {Q:Value->Shared->Prop} (hu:A.units+1<cLine) (I:Inv X pins σ H s) (g:DGet H a y o) (ry:RelV y u) (h:∀ s',Inv X pins σ H s'->Q (.bool o.isSome) s') :
  wpAny (model X.prog X.w) A (compareOp .In u (.ref a)) Q E s:=by
 rcases g with ⟨kvs,k,e,ey,l⟩ | ⟨kvs,k,b,e,ey,eb,l⟩
 ·subst ey
  obtain ⟨z,hd,vs,rel,dd⟩:=dk_rd I.hok e
  refine wpAny_in_of (kV_is ry) hd dd.mapOf ?_
  rw [<- (rel.val k).isSome_eq,<- l]
  exact h _ (I.tok _)
 ·subst ey
  cases (show u=Value.ref b from ry)
  obtain ⟨z,hd,xs,rel,dd⟩:=dt_rd I.hok e
  refine wpAny_in_heap (tupleKind_room_in1 hu) (key_of I.hok eb) hd dd ?_
  have q:=(rel.val k).isSome_eq
  rw [Option.isSome_map] at q
  rw [<- q,<- l]
  exact h _ (I.tok _)
theorem d_notIn {Q:Value->Shared->Prop} (hu:A.units+1<cLine) (I:Inv X pins σ H s) (g:DGet H a y o) (ry:RelV y u) (h:∀ s',Inv X pins σ H s'->Q (.bool (!o.isSome)) s') :
  wpAny (model X.prog X.w) A (compareOp .NotIn u (.ref a)) Q E s:=by
 rcases g with ⟨kvs,k,e,ey,l⟩ | ⟨kvs,k,b,e,ey,eb,l⟩
 ·subst ey
  obtain ⟨z,hd,vs,rel,dd⟩:=dk_rd I.hok e
  refine wpAny_notIn_of (kV_is ry) hd dd.mapOf ?_
  rw [<- (rel.val k).isSome_eq,<- l]
  exact h _ (I.tok _)
 ·subst ey
  cases (show u=Value.ref b from ry)
  obtain ⟨z,hd,xs,rel,dd⟩:=dt_rd I.hok e
  refine wpAny_notIn_heap (tupleKind_room_in1 hu) (key_of I.hok eb) hd dd ?_
  have q:=(rel.val k).isSome_eq
  rw [Option.isSome_map] at q
  rw [<- q,<- l]
  exact h _ (I.tok _)
theorem d_write {h':Heap} {t':Nat} {ob:HO} (I:Inv X pins σ H s) (mu:Mut (H a)) (hs:Heap.SameBut a s.heap h') (he:∃ q,h'.get? a=some q) (new:ObjOk X.prog X.w (upd H a ob) h' a ob) :
  Inv X pins σ (upd H a ob) { s with heap:=h',toks:=t' }:=
 I.write (x:=a) (e:=a) mu (.inl rfl) (fun b q hb z=>(hs.2 b hb).trans z) he new
theorem dk_new {P:Program} {w:World} {H':Hp} {h':Heap} {kvs:List (Key×V)} {vs:List (Key×Value)} (z:kvs.length<=sizeLine) (hd:(a == sysModules)=false) (rel:KV kvs vs) (dd:h'.DictOf (mixKind P w) a vs) :
  ObjOk P w H' h' a (.dK kvs):=⟨z,hd,vs,rel,dd⟩
theorem d_setItem {H':Hp} {Q:Unit->Shared->Prop} (hu:A.units+1<cLine) (I:Inv X pins σ H s) (g:DPut H a y v H') (ry:RelV y u) (rv:RelV v r) (h:∀ s',Inv X pins σ H' s'->Q () s') :
  wpAny (model X.prog X.w) A (setItem (.ref a) u r) Q E s:=by
 rcases g with ⟨kvs,k,e,ey,l,eH⟩ | ⟨kvs,k,b,e,ey,eb,l,eH⟩
 ·subst ey eH
  obtain ⟨z,hd,vs,rel,dd⟩:=dk_of I.hok e
  have hz:vs.length<=sizeLine:=by rw [<- rel.length]; exact z
  have hl:(putK kvs k v).length<=sizeLine:=by have:=length_putK kvs k v; omega
  refine wpAny_setItem_pairs (hsz:=hz) (kV_is ry) dd fun h' dd' hs=>h _ ?_
  have he:∃ q,h'.get? a=some q:=let ⟨q,_,_,hq,_⟩:=dd'; ⟨q,hq⟩
  exact d_write I (by rw [e]; exact True.intro) hs he (dk_new hl hd (rel.put k rv) dd')
 ·subst ey eH
  cases (show u=Value.ref b from ry)
  obtain ⟨z,hd,xs,rel,dd⟩:=dt_of I.hok e
  have hz:xs.length<=sizeLine:=by rw [<- Paired.length rel]; exact z
  have hl:(putK kvs k v).length<=sizeLine:=by have:=length_putK kvs k v; omega
  refine wpAny_setItem_heap (hsz:=hz) (tupleKind_room_in1 hu) (key_of I.hok eb) dd fun h' dd' hs=>h _ ?_
  obtain ⟨q,es,ep,hq,h2,h3,h4,_,h5⟩:=dd'
  refine d_write I (by rw [e]; exact True.intro) hs ⟨q,hq⟩ ⟨hl,hd,_,(rel.put k eb rv).keeps fun c ys ec=>?_,q,es,ep,hq,h2,h3,h4,h5⟩
  rw [upd_ne (ne_of ec e (fun z=>nomatch z))]
  exact ec
end
section
variable {X:Cx} {pins:List (Addr×Obj)} {σ:St} {H:Hp} {s:Shared} {a:Addr} {kvs:List (Key×V)} {k:Key} {u:Value} {A:Around} {E:Value->Shared->Prop}
theorem d_len {Q:Value->Shared->Prop} (I:Inv X pins σ H s) (e:Rd H a (.dK kvs)) (h:∀ t s',Inv X pins σ H s'->Q (.int kvs.length t) s'):wpAny (model X.prog X.w) A (call (.builtin "len") [.ref a]) Q E s:=by
 obtain ⟨z,hd,vs,rel,dd⟩:=dk_rd I.hok e
 refine call_len_dict hd dd (by rw [<- rel.length]; rw [sizeLine_eq] at z; omega) ?_
 rw [<- rel.length]
 exact h _ _ (I.tok _)
end
def tDIn (ty td:TE):TE:=fun σ H Q=>ty σ H fun y H1=>td σ H1 fun x H2=>∃ a o,x=.ref a/\DGet H2 a y o/\Q (.bl o.isSome) H2
def tDNotIn (ty td:TE):TE:=fun σ H Q=>ty σ H fun y H1=>td σ H1 fun x H2=>∃ a o,x=.ref a/\DGet H2 a y o/\Q (.bl (!o.isSome)) H2
def sDPut (td ty tv:TE):TS:=fun D σ H=>tv σ H fun v H1=>td σ H1 fun x H2=>ty σ H2 fun y H3=>∃ a H4,x=.ref a/\DPut H3 a y v H4/\D.nx σ H4
section
variable {X:Cx} {o i e value:Expr} {pos pos' tpos:Pos} {td ty tv:TE}
theorem pc_din (hu:X.A.units+1<cLine) (hi:PE X i ty) (ho:PE X o td):PC X .In i o (tDIn ty td):=by
 intro pins s σ H Q I h
 refine thn (hi pins s σ H _ I h) fun iv s1 ⟨y,H1,I1,ry,q1⟩=>thn (ho pins s1 σ H1 _ I1 q1) fun u s2 zz46=>?_
 obtain ⟨x,H2,I2,rx,a,ov,ex,g,q2⟩:=zz46
 subst ex
 obtain rfl:u=Value.ref a:=rx
 exact d_in hu I2 g ry fun s3 I3=>⟨.bl ov.isSome,H2,I3,rfl,q2⟩
theorem pc_dnotin (hu:X.A.units+1<cLine) (hi:PE X i ty) (ho:PE X o td):PC X .NotIn i o (tDNotIn ty td):=by
 intro pins s σ H Q I h
 refine thn (hi pins s σ H _ I h) fun iv s1 ⟨y,H1,I1,ry,q1⟩=>thn (ho pins s1 σ H1 _ I1 q1) fun u s2 zz48=>?_
 obtain ⟨x,H2,I2,rx,a,ov,ex,g,q2⟩:=zz48
 subst ex
 obtain rfl:u=Value.ref a:=rx
 exact d_notIn hu I2 g ry fun s3 I3=>⟨.bl (!ov.isSome),H2,I3,rfl,q2⟩
theorem ps_dput (hu:X.A.units+1<cLine) (ho:PE X o td) (hi:PE X i ty) (hv:PE X value tv) (hs:swapsWith value (some (.Subscript o i pos')) pos.line X.env=pure false) :
  PS X (.Assign [.Subscript o i pos'] value pos) (sDPut td ty tv):=by
 intro pins s σ H D I h
 refine wpAny_Assign_Subscript (thn (hv pins s σ H _ I h) fun r s1 ⟨v,H1,I1,rv,q1⟩=>thn (ho pins s1 σ H1 _ I1 q1) fun u s2 ⟨x,H2,I2,rx,q2⟩=>thn (hi pins s2 σ H2 _ I2 q2) fun iv s3 zz51=>?_) hs
 obtain ⟨y,H3,I3,ry,a,H4,ex,g,q3⟩:=zz51
 subst ex
 obtain rfl:u=Value.ref a:=rx
 exact d_setItem hu I3 g ry rv fun s4 I4=>⟨σ,H4,I4,q3⟩
end
theorem dk_empty {P:Program} {w:World} {H:Hp} (h:Heap) (hb:sysModules<h.objs.size):ObjOk P w H (h.push { cls:=.type "dict",data:=.dict #[] }) h.objs.size (.dK []):=
 ⟨Nat.zero_le _,beq_eq_false_iff_ne.mpr (Ne.symm (Nat.ne_of_lt hb)),[],.nil,Heap.DictOf.new h⟩
def tDNewK:TE:=fun _ H Q=>∀ p,H p=none->Q (.ref p) (upd H p (.dK []))
section
variable {X:Cx} {pos:Pos}
theorem pe_dnewK:PE X (.Dict [] [] pos) tDNewK:=fun pins s σ H Q I h=>
 wpAny_Dict_empty ⟨.ref s.heap.objs.size,_,I.laid (a:=s.heap.objs.size) (o:=.dK []) (t':=s.toks) (fun _ _ q=>Heap.get?_push_of_some _ q) (Nat.le_refl _) (dk_empty s.heap I.big),rfl,h _ (I.hok.fresh (Nat.le_refl _))⟩
end
end L2
namespace L2
open PySem
structure Sub where
 t:Bool
 i:Addr
 l:Addr
def Sub.At (u:Sub) (h:Heap) (n:Nat):Prop:=if u.t=true then h.IsTupleIter u.i u.l n else h.IsListIter u.i u.l n
def Sub.Src (u:Sub) (h:Heap) (xs:Array Value):Prop:=if u.t=true then h.IsTuple u.l xs else h.IsList u.l xs
theorem Sub.At.obj {u:Sub} {h:Heap} {n:Nat} (x:u.At h n):∃ o,h.get? u.i=some o/\o.data=.fields #[.ref u.l,.int n 0]:=by
 unfold Sub.At at x
 split at x <;> (obtain ⟨o,e,_,d⟩:=x; exact ⟨o,e,d⟩)
theorem Sub.At.keep {u:Sub} {h h':Heap} {n:Nat} (x:u.At h n) (k:∀ o,h.get? u.i=some o->h'.get? u.i=some o):u.At h' n:=by
 unfold Sub.At at x ⊢
 split at x <;> (rename_i ht; obtain ⟨o,e,r⟩:=x; simp only [ht,if_true,if_false,Bool.false_eq_true]; exact ⟨o,k o e,r⟩)
theorem Sub.Src.keep {u:Sub} {h h':Heap} {xs:Array Value} (x:u.Src h xs) (k:∀ o,h.get? u.l=some o->h'.get? u.l=some o):u.Src h' xs:=by
 unfold Sub.Src at x ⊢
 split at x <;> (rename_i ht; obtain ⟨o,e,r⟩:=x; simp only [ht,if_true,if_false,Bool.false_eq_true]; exact ⟨o,k o e,r⟩)
section
variable {prog:Program} {w:World} {A:Around} {E:Value->Shared->Prop} {s:Shared}
theorem nextOf_tup_item {it t:Addr} {i:Nat} {items:Array Value} {x:Value} {Q:Value->Shared->Prop} (hit:s.heap.IsTupleIter it t i) (ht:s.heap.IsTuple t items) (hx:items[i]?=some x)
  (hQ:∀ h',h'.IsTupleIter it t (i+1)->Heap.SameBut it s.heap h'->Q x { s with heap:=h' }):wpAny (model prog w) A (Builtin.SmallTypes.nextOf (.ref it)) Q E s:=by
 obtain ⟨o,ho,hc,hd⟩:=id hit; obtain ⟨ol,hol,_,nl,hdl⟩:=ht; unfold Builtin.SmallTypes.nextOf
 refine wpAny_bind (wpAny_callSpecial?_slot (name:=Str.ofString "__next__") hit.typeIs F.slot_tuple_iterator_next (wpAny_call_entry F.slot_tuple_iterator_next hit.typeIs F.entry_tuple_iterator_next ?_ (F.args_tuple_iterator_next_1 _)))
 show wpAny _ _ (field (.ref it) 0>>=_) _ _ s; refine wpAny_bind (wpAny_field ho hd (x:=.ref t) rfl ?_)
 show wpAny _ _ (if (Value.ref t == Value.none)=true then _ else _) _ _ s; rw [if_neg (show ¬ ((Value.ref t == Value.none)=true) from Bool.false_ne_true)]
 show wpAny _ _ (field (.ref it) 1>>=_) _ _ s; refine wpAny_bind (wpAny_field ho hd (x:=.int i 0) rfl ?_)
 show wpAny _ _ (seqItems? (.ref t)>>=_) _ _ s; refine wpAny_bind (wpAny_seqItems hol hdl ?_); simp only [Int.toNat_natCast,hx]
 refine wpAny_bind (wpAny_setField ho hd (by simp) (wpAny_pure ⟨x,rfl,wpAny_pure (hQ _ ?_ (Heap.SameBut.update ..))⟩)); exact ⟨_,Heap.get?_update_self _ ho (Obj.isFreed_of_fields (Obj.data_mapFields hd _)),(Obj.cls_mapFields ..).trans hc,by rw [Obj.data_mapFields hd]; simp [rawInt]⟩
theorem nextOf_tup_end {it t:Addr} {i:Nat} {items:Array Value} {Q:Value->Shared->Prop} (hh:A.handled=none) (hit:s.heap.IsTupleIter it t i) (ht:s.heap.IsTuple t items) (hx:items[i]?=none)
  (hE:∀ h' e,Heap.ExtBut it s.heap h'->(∃ o,h'.get? e=some o/\o.cls=.type "StopIteration")->E (.ref e) { s with heap:=h' }):wpAny (model prog w) A (Builtin.SmallTypes.nextOf (.ref it)) Q E s:=by
 obtain ⟨o,ho,hc,hd⟩:=id hit; obtain ⟨ol,hol,_,nl,hdl⟩:=ht; unfold Builtin.SmallTypes.nextOf
 refine wpAny_bind (wpAny_callSpecial?_slot (name:=Str.ofString "__next__") hit.typeIs F.slot_tuple_iterator_next (wpAny_call_entry F.slot_tuple_iterator_next hit.typeIs F.entry_tuple_iterator_next ?_ (F.args_tuple_iterator_next_1 _)))
 show wpAny _ _ (field (.ref it) 0>>=_) _ _ s; refine wpAny_bind (wpAny_field ho hd (x:=.ref t) rfl ?_)
 show wpAny _ _ (if (Value.ref t == Value.none)=true then _ else _) _ _ s; rw [if_neg (show ¬ ((Value.ref t == Value.none)=true) from Bool.false_ne_true)]
 show wpAny _ _ (field (.ref it) 1>>=_) _ _ s; refine wpAny_bind (wpAny_field ho hd (x:=.int i 0) rfl ?_)
 show wpAny _ _ (seqItems? (.ref t)>>=_) _ _ s; refine wpAny_bind (wpAny_seqItems hol hdl ?_); simp only [Int.toNat_natCast,hx]
 refine wpAny_bind (wpAny_rule (wpAny_bind (wpAny_setField ho hd (by simp) ?_))); show wpAny _ _ (newExc (.type "StopIteration") []>>=_) _ _ _
 refine wpAny_bind ?_; simp only [newExc,newTuple]; refine wpAny_bind (wpAny_newObj_type ?_ (by size_fits))
 refine wpAny_bind (m:=firstArgMember _ _) (wpAny_of_eq (a:=Value.none) (by first | rfl | (simp only [firstArgMember]; rfl)) ?_); refine wpAny_newObj_type ?_ (by size_fits); simp only [raiseNew]
 refine wpAny_bind (wpAny_handled ?_); first | rw [show A.in1.handled=none from hh] | rw [hh]
 refine wpAny_bind (wpAny_pure (wpAny_throw ?_)); exact hE _ _ (((Heap.SameBut.update ..).extBut.push _).push _) ⟨_,Heap.get?_push_size _ rfl,rfl⟩
theorem Sub.item {u:Sub} {n:Nat} {xs:Array Value} {x:Value} {Q:Value->Shared->Prop} (ha:u.At s.heap n) (hs:u.Src s.heap xs) (hx:xs[n]?=some x)
  (hQ:∀ h',u.At h' (n+1)->Heap.SameBut u.i s.heap h'->Q x { s with heap:=h' }):wpAny (model prog w) A (Builtin.SmallTypes.nextOf (.ref u.i)) Q E s:=by
 unfold Sub.At at ha hQ; unfold Sub.Src at hs
 cases ht:u.t with
 | true=>simp only [ht,if_true] at ha hs hQ; exact nextOf_tup_item ha hs hx hQ
 | false=>simp only [ht,if_false,Bool.false_eq_true] at ha hs hQ; exact wpAny_nextOf_list_item ha hs hx hQ
theorem Sub.ends {u:Sub} {n:Nat} {xs:Array Value} {Q:Value->Shared->Prop} (hh:A.handled=none) (ha:u.At s.heap n) (hs:u.Src s.heap xs) (hx:xs[n]?=none)
  (hE:∀ h' e,Heap.ExtBut u.i s.heap h'->(∃ o,h'.get? e=some o/\o.cls=.type "StopIteration")->E (.ref e) { s with heap:=h' }):wpAny (model prog w) A (Builtin.SmallTypes.nextOf (.ref u.i)) Q E s:=by
 unfold Sub.At at ha; unfold Sub.Src at hs
 cases ht:u.t with
 | true=>simp only [ht,if_true] at ha hs; exact nextOf_tup_end hh ha hs hx hE
 | false=>simp only [ht,if_false,Bool.false_eq_true] at ha hs; exact wpAny_nextOf_list_end hh ha hs hx hE
abbrev TupO (h:Heap) (T:Addr) (arr:Array Value):Prop:=h.get? T=some { cls:=.type "tuple",data:=.seq arr }
def drawn (n:Nat):List (Sub×Array Value)->Nat->Array Value->Array Value
 | [],_,arr=>arr
 | u::r,c,arr=>drawn n r (c+1) (arr.setIfInBounds c (u.2.getD n .none))
def DrawB (prog:Program) (w:World) (A:Around) (z TO:Addr) (E:Value->Shared->Prop) (B:Value×Nat->Option Fin×Unit->Sem (ForInStep (Option Fin×Unit))):Prop:=
 ∀ (v:Value) (k:Nat) (s:Shared) (Q:ForInStep (Option Fin×Unit)->Shared->Prop),
  wpAny (model prog w) A (Builtin.SmallTypes.nextOf v) (fun x s1=>∃ arr,TupO s1.heap TO arr/\arr.size<=sizeLine/\∀ h',TupO h' TO (arr.setIfInBounds k x)->Heap.SameBut TO s1.heap h'->Q (.yield (none,())) { s1 with heap:=h' })
   (fun e s1=>wpAny (model prog w) A (setField (.ref z) 0 .none) (fun _ s2=>E e s2) E s1) s->wpAny (model prog w) A (B (v,k) (none,())) Q E s
structure Apart (z TO:Addr) (ss:List (Sub×Array Value)):Prop where
 zTO:z≠TO
 zi:∀ u∈ss,u.1.i≠z
 ti:∀ u∈ss,u.1.i≠TO
 nd:ss.Pairwise fun u v=>u.1.i≠v.1.i
 lz:∀ u∈ss,u.1.l≠z
 lt:∀ u∈ss,u.1.l≠TO
 li:∀ u∈ss,∀ v∈ss,u.1.l≠v.1.i
theorem Apart.tail {z TO:Addr} {u:Sub×Array Value} {ss:List (Sub×Array Value)} (D:Apart z TO (u::ss)):Apart z TO ss:=
 ⟨D.zTO,fun v hv=>D.zi v (List.mem_cons_of_mem _ hv),fun v hv=>D.ti v (List.mem_cons_of_mem _ hv),(List.pairwise_cons.mp D.nd).2,fun v hv=>D.lz v (List.mem_cons_of_mem _ hv),fun v hv=>D.lt v (List.mem_cons_of_mem _ hv),
  fun v hv x hx=>D.li v (List.mem_cons_of_mem _ hv) x (List.mem_cons_of_mem _ hx)⟩
theorem draws {z TI TO:Addr} {n:Nat} {B:Value×Nat->Option Fin×Unit->Sem (ForInStep (Option Fin×Unit))} (hB:DrawB prog w A z TO E B) :
  ∀ (ss:List (Sub×Array Value)) (c:Nat) (arr:Array Value) (s:Shared) (Q:Option Fin×Unit->Shared->Prop),Apart z TO ss->IsZip s.heap z TI TO .ellipsis->TupO s.heap TO arr->arr.size<=sizeLine ->
   (∀ u∈ss,u.1.At s.heap n/\u.1.Src s.heap u.2/\∃ x,u.2[n]?=some x) ->
   (∀ h',IsZip h' z TI TO .ellipsis->TupO h' TO (drawn n ss c arr)->(∀ u∈ss,u.1.At h' (n+1))->h'.objs.size=s.heap.objs.size ->
    (∀ b o,b≠TO->(∀ u∈ss,b≠u.1.i)->s.heap.get? b=some o->h'.get? b=some o)->Q (none,()) { s with heap:=h' }) ->
   wpAny (model prog w) A (forIn ((ss.map fun u=>Value.ref u.1.i).zipIdx c) (none,()) B) Q E s:=by
 intro ss
 induction ss with
 | nil=>
  intro c arr s Q D hz hT hl hu hQ
  simp only [List.map_nil,List.zipIdx_nil,List.forIn_nil]
  exact wpAny_pure (hQ s.heap hz hT (fun _ h=>absurd h List.not_mem_nil) rfl fun _ _ _ _ e=>e)
 | cons u r ih=>
  intro c arr s Q D hz hT hl hu hQ
  simp only [List.map_cons,List.zipIdx_cons,List.forIn_cons]
  obtain ⟨ha,hsrc,x,hx⟩:=hu u List.mem_cons_self
  refine wpAny_bind (hB _ _ _ _ (Sub.item ha hsrc hx fun h1 ha1 sb1=>⟨arr,sb1.extBut _ _ (D.ti u List.mem_cons_self).symm hT,hl,fun h2 hT2 sb2=>?_⟩))
  have uz:=D.zi u List.mem_cons_self
  have ut:=D.ti u List.mem_cons_self
  have kp:∀ b o,b≠TO->b≠u.1.i->s.heap.get? b=some o->h2.get? b=some o:=fun b o h1 h2 e=>sb2.extBut _ _ h1 (sb1.extBut _ _ h2 e)
  have hui:∀ v∈r,v.1.i≠u.1.i:=fun v hv=>((List.pairwise_cons.mp D.nd).1 v hv).symm
  refine ih (c+1) (arr.setIfInBounds c x) { s with heap:=h2 } Q D.tail (kp _ _ D.zTO uz.symm hz) hT2 (by simpa using hl) (fun v hv=>?_) fun h3 z3 T3 a3 s3 k3=>?_
  ·obtain ⟨a,b,y⟩:=hu v (List.mem_cons_of_mem _ hv)
   exact ⟨a.keep fun o e=>kp _ o (D.ti v (List.mem_cons_of_mem _ hv)) (hui v hv) e,b.keep fun o e=>kp _ o (D.lt v (List.mem_cons_of_mem _ hv)) (D.li v (List.mem_cons_of_mem _ hv) u List.mem_cons_self) e,y⟩
  ·refine hQ h3 z3 ?_ (fun v hv=>?_) (by rw [s3]; show h2.objs.size=_; rw [sb2.1,sb1.1]) fun b o h1 h2 e=>k3 b o h1 (fun v hv=>h2 v (List.mem_cons_of_mem _ hv)) (kp b o h1 (h2 u List.mem_cons_self) e)
   ·have e:u.2.getD n .none=x:=by simp [Array.getD_eq_getD_getElem?,hx]
    show TupO h3 TO (drawn n r (c+1) (arr.setIfInBounds c (u.2.getD n .none)))
    rw [e]; exact T3
   ·rcases List.mem_cons.mp hv with rfl | hv
    ·exact ha1.keep fun o e=>k3 _ o ut (fun v' hv'=>(hui v' hv').symm) (sb2.extBut _ _ ut e)
    ·exact a3 v hv
theorem draws_end {z TI TO:Addr} {n:Nat} {B:Value×Nat->Option Fin×Unit->Sem (ForInStep (Option Fin×Unit))} (hh:A.handled=none) (hB:DrawB prog w A z TO E B) :
  ∀ (ss:List (Sub×Array Value)) (c:Nat) (arr:Array Value) (s:Shared) (Q:Option Fin×Unit->Shared->Prop),Apart z TO ss->IsZip s.heap z TI TO .ellipsis->TupO s.heap TO arr->arr.size<=sizeLine ->
   (∀ u∈ss,u.1.At s.heap n/\u.1.Src s.heap u.2)->(∃ u∈ss,u.2[n]?=none) ->
   (∀ h' e,(∀ b o,b≠z->b≠TO->(∀ u∈ss,b≠u.1.i)->s.heap.get? b=some o->h'.get? b=some o)->(∃ o,h'.get? e=some o/\o.cls=.type "StopIteration")->E (.ref e) { s with heap:=h' }) ->
   wpAny (model prog w) A (forIn ((ss.map fun u=>Value.ref u.1.i).zipIdx c) (none,()) B) Q E s:=by
 intro ss
 induction ss with
 | nil=>
  intro c arr s Q D hz hT hl hu hx hQ
  obtain ⟨_,h,_⟩:=hx
  exact absurd h List.not_mem_nil
 | cons u r ih=>
  intro c arr s Q D hz hT hl hu hx hQ
  simp only [List.map_cons,List.zipIdx_cons,List.forIn_cons]
  obtain ⟨ha,hsrc⟩:=hu u List.mem_cons_self
  have uz:=D.zi u List.mem_cons_self
  have ut:=D.ti u List.mem_cons_self
  cases hu0:u.2[n]? with
  | none=>
   refine wpAny_bind (hB _ _ _ _ (Sub.ends hh ha hsrc hu0 fun h1 e eb he=>?_))
   obtain ⟨oe,hoe,hce⟩:=he
   have hz1:IsZip h1 z TI TO .ellipsis:=eb _ _ uz.symm hz
   have hez:e≠z:=fun x=>by subst x; rw [hz1] at hoe; cases hoe; simp at hce
   exact wpAny_setField_rec hz1 (by simp) fun h3 _ sb3=>hQ h3 e (fun b o b1 b2 b3 q=>sb3.extBut _ _ b1 (eb _ _ (b3 u List.mem_cons_self) q)) ⟨oe,sb3.extBut _ _ hez hoe,hce⟩
  | some x=>
   refine wpAny_bind (hB _ _ _ _ (Sub.item ha hsrc hu0 fun h1 ha1 sb1=>⟨arr,sb1.extBut _ _ ut.symm hT,hl,fun h2 hT2 sb2=>?_⟩))
   have kp:∀ b o,b≠TO->b≠u.1.i->s.heap.get? b=some o->h2.get? b=some o:=fun b o h1 h2 e=>sb2.extBut _ _ h1 (sb1.extBut _ _ h2 e)
   have hui:∀ v∈r,v.1.i≠u.1.i:=fun v hv=>((List.pairwise_cons.mp D.nd).1 v hv).symm
   refine ih (c+1) (arr.setIfInBounds c x) { s with heap:=h2 } Q D.tail (kp _ _ D.zTO uz.symm hz) hT2 (by simpa using hl) (fun v hv=>?_) ?_ fun h3 e k3 he=>?_
   ·obtain ⟨a,b⟩:=hu v (List.mem_cons_of_mem _ hv)
    exact ⟨a.keep fun o e=>kp _ o (D.ti v (List.mem_cons_of_mem _ hv)) (hui v hv) e,b.keep fun o e=>kp _ o (D.lt v (List.mem_cons_of_mem _ hv)) (D.li v (List.mem_cons_of_mem _ hv) u List.mem_cons_self) e⟩
   ·obtain ⟨v,hv,e⟩:=hx
    rcases List.mem_cons.mp hv with rfl | hv
    ·rw [hu0] at e; cases e
    ·exact ⟨v,hv,e⟩
   ·exact hQ h3 e (fun b o b1 b2 b3 q=>k3 b o b1 b2 (fun v hv=>b3 v (List.mem_cons_of_mem _ hv)) (kp b o b2 (b3 u List.mem_cons_self) q)) he
theorem drawn_size (n:Nat):∀ (ss:List (Sub×Array Value)) (c:Nat) (arr:Array Value),(drawn n ss c arr).size=arr.size:=by
 intro ss
 induction ss with
 | nil=>intro c arr; rfl
 | cons u r ih=>intro c arr; unfold drawn; rw [ih]; simp
theorem drawn_get (n:Nat):∀ (ss:List (Sub×Array Value)) (c:Nat) (arr:Array Value),c+ss.length=arr.size->(drawn n ss c arr).toList=arr.toList.take c++ss.map fun u=>u.2.getD n .none:=by
 intro ss
 induction ss with
 | nil=>
  intro c arr h
  unfold drawn
  simp at h; subst h
  rw [List.map_nil,List.append_nil]
  exact (List.take_of_length_le (by simp)).symm
 | cons u r ih=>
  intro c arr h
  unfold drawn
  have hc:c<arr.size:=by simp at h; omega
  rw [ih (c+1) _ (by simp at h ⊢; omega)]
  rw [List.map_cons,Array.toList_setIfInBounds]
  have:(arr.toList.set c (u.2.getD n Value.none)).take (c+1)=arr.toList.take c ++ [u.2.getD n Value.none]:=by
   rw [List.take_add_one,List.take_set,List.getElem?_set_self (by simpa using hc)]
   rw [List.set_eq_of_length_le (by simp; omega)]; rfl
  rw [this,List.append_assoc]; rfl
theorem zip_item {z TI TO:Addr} {n:Nat} {ss:List (Sub×Array Value)} {arr:Array Value} {Q:Option Value->Shared->Prop} (D:Apart z TO ss) (hne:ss ≠ []) (hsz:arr.size=ss.length) (hline:ss.length<=sizeLine)
  (hz:IsZip s.heap z TI TO .none) (hTI:TupO s.heap TI (ss.map fun u=>Value.ref u.1.i).toArray) (hTO:TupO s.heap TO arr) (hu:∀ u∈ss,u.1.At s.heap n/\u.1.Src s.heap u.2/\∃ x,u.2[n]?=some x)
  (hQ:∀ h',IsZip h' z TI TO (rawInt s.heap.objs.size)->(∃ arr',TupO h' TO arr'/\arr'.size=ss.length)->(∀ u∈ss,u.1.At h' (n+1))->TupO h' s.heap.objs.size (ss.map fun u=>u.2.getD n .none).toArray ->
   (∀ b o,b≠z->b≠TO->(∀ u∈ss,b≠u.1.i)->s.heap.get? b=some o->h'.get? b=some o)->Q (some (.ref s.heap.objs.size)) { s with heap:=h' }) :
  wpAny (model prog w) A (pyNext (.ref z)) Q E s:=by
 have hT:s.TypeIs (.ref z) "zip" := ⟨_,hz,rfl⟩
 unfold pyNext
 refine wpAny_bind (wpAny_attempt (wpAny_callSpecial?_slot (name:=Str.ofString "__next__") hT F.slot_zip_next (wpAny_call_entry F.slot_zip_next hT F.entry_zip_next ?_ (F.args_zip_next_1 _))))
 show wpAny _ _ (field (.ref z) 2>>=_) _ _ _; refine wpAny_bind (wpAny_field hz rfl (x:=.bool false) rfl ?_)
 show wpAny _ _ (field (.ref z) 3>>=_) _ _ _; refine wpAny_bind (wpAny_field hz rfl (x:=.ref TI) rfl ?_); refine wpAny_bind (wpAny_seqItems hTI rfl ?_)
 have e1:(ss.map fun u=>Value.ref u.1.i).toArray.isEmpty=false:=by cases ss <;> simp_all
 simp only [e1]
 refine wpAny_bind ?_; unfold Builtin.SmallTypes.ownedTupleIsFree; refine wpAny_bind (wpAny_field hz rfl (x:=.none) rfl (wpAny_pure ?_)); simp only [if_true]
 refine wpAny_bind (wpAny_rule ?_); refine wpAny_bind (wpAny_field hz rfl (x:=.ref TO) rfl ?_)
 refine wpAny_bind (wpAny_setField_rec hz (by simp) fun h1 z1 sb1=>?_); replace z1:IsZip h1 z TI TO .ellipsis:=z1
 refine wpAny_bind (draws (TI:=TI) (n:=n) (z:=z) (TO:=TO) ?_ ss 0 arr _ _ D z1 (sb1.extBut _ _ D.zTO.symm hTO) (by omega) (fun u hm=>?_) fun h2 z2 T2 a2 s2 k2=>?_)
 ·intro v k s Q h
  refine wpAny_bind (wpAny_onRaise ?_)
  show wpAny _ _ (Builtin.SmallTypes.nextOf v>>=_) _ _ _
  refine wpAny_bind (wpAny_mono h (fun x s1 ⟨arr,hT1,hl,hq⟩=>wpAny_pure ?_) fun e s1 he=>he)
  refine wpAny_bind (wpAny_seqItems hT1 rfl ?_)
  refine wpAny_bind (wpAny_updateSeq hT1 rfl ?_ hl (by rw [Array.size_setIfInBounds]; omega))
  refine wpAny_bind (wpAny_letGo (wpAny_pure (hq _ ?_ (Heap.SameBut.update ..))))
  show Heap.get? _ _=_
  rw [Heap.get?_update_self _ hT1 rfl]; simp [Obj.mapSeq]
 ·obtain ⟨a,b,x⟩:=hu u hm
  exact ⟨a.keep fun o e=>sb1.extBut _ _ (D.zi u hm) e,b.keep fun o e=>sb1.extBut _ _ (D.lz u hm) e,x⟩
 ·have ed:(drawn n ss 0 arr).toList=ss.map fun u=>u.2.getD n .none:=by rw [drawn_get n ss 0 arr (by omega)]; simp
  refine wpAny_bind (wpAny_seqItems T2 rfl ?_)
  have hs2:h2.objs.size=s.heap.objs.size:=by rw [s2]; exact sb1.1
  have hlz:z<h2.objs.size:=Heap.lt_size z2
  refine wpAny_bind (wpAny_newTuple (wpAny_bind ?_) (by rw [ed,List.length_map]; exact hline))
  unfold Builtin.SmallTypes.ownedTupleHandOut
  have z3:IsZip (h2.push { cls:=.type "tuple",data:=.seq (drawn n ss 0 arr).toList.toArray }) z TI TO .ellipsis:=Heap.get?_push_of_some _ z2
  refine wpAny_bind (wpAny_setField_rec z3 (by simp) fun h4 z4 sb4=>?_); replace z4:IsZip h4 z TI TO (rawInt h2.objs.size):=z4
  refine wpAny_setField_rec z4 (by simp) fun h5 z5 sb5=>?_; replace z5:IsZip h5 z TI TO (rawInt h2.objs.size):=z5
  have up:∀ b o,b≠z->h2.get? b=some o->h5.get? b=some o:=fun b o hb e=>sb5.extBut _ _ hb (sb4.extBut _ _ hb (Heap.get?_push_of_some _ e))
  have T5:TupO h5 h2.objs.size (drawn n ss 0 arr).toList.toArray:=sb5.extBut _ _ (Nat.ne_of_gt hlz) (sb4.extBut _ _ (Nat.ne_of_gt hlz) (Heap.get?_push_size _ rfl))
  rw [ed] at T5
  rw [hs2] at z5 T5
  refine wpAny_pure ⟨_,rfl,wpAny_pure ?_⟩
  show Q (some (.ref h2.objs.size)) _
  rw [hs2]
  exact hQ h5 z5 ⟨_,up _ _ D.zTO.symm T2,by rw [drawn_size,hsz]⟩ (fun u hm=>(a2 u hm).keep fun o e=>up _ o (D.zi u hm) e) T5 fun b o b1 b2 b3 e=>up b o b1 (k2 b o b2 b3 (sb1.extBut _ _ b1 e))
theorem zip_stop {z TI TO:Addr} {n:Nat} {ss:List (Sub×Array Value)} {arr:Array Value} {Q:Option Value->Shared->Prop} (hh:A.handled=none) (D:Apart z TO ss) (hsz:arr.size=ss.length) (hline:ss.length<=sizeLine)
  (hz:IsZip s.heap z TI TO .none) (hTI:TupO s.heap TI (ss.map fun u=>Value.ref u.1.i).toArray) (hTO:TupO s.heap TO arr) (hu:∀ u∈ss,u.1.At s.heap n/\u.1.Src s.heap u.2) (hx:∃ u∈ss,u.2[n]?=none)
  (hQ:∀ h',(∀ b o,b≠z->b≠TO->(∀ u∈ss,b≠u.1.i)->s.heap.get? b=some o->h'.get? b=some o)->Q none { s with heap:=h' }) :
  wpAny (model prog w) A (pyNext (.ref z)) Q E s:=by
 have hT:s.TypeIs (.ref z) "zip" := ⟨_,hz,rfl⟩
 unfold pyNext
 refine wpAny_bind (wpAny_attempt (wpAny_callSpecial?_slot (name:=Str.ofString "__next__") hT F.slot_zip_next (wpAny_call_entry F.slot_zip_next hT F.entry_zip_next ?_ (F.args_zip_next_1 _))))
 show wpAny _ _ (field (.ref z) 2>>=_) _ _ _; refine wpAny_bind (wpAny_field hz rfl (x:=.bool false) rfl ?_)
 show wpAny _ _ (field (.ref z) 3>>=_) _ _ _; refine wpAny_bind (wpAny_field hz rfl (x:=.ref TI) rfl ?_); refine wpAny_bind (wpAny_seqItems hTI rfl ?_)
 have e1:(ss.map fun u=>Value.ref u.1.i).toArray.isEmpty=false:=by
  obtain ⟨u,hm,_⟩:=hx
  cases ss with
  | nil=>exact nomatch hm
  | cons a b=>simp
 simp only [e1]
 refine wpAny_bind ?_; unfold Builtin.SmallTypes.ownedTupleIsFree; refine wpAny_bind (wpAny_field hz rfl (x:=.none) rfl (wpAny_pure ?_)); simp only [if_true]
 refine wpAny_bind (wpAny_rule ?_); refine wpAny_bind (wpAny_field hz rfl (x:=.ref TO) rfl ?_)
 refine wpAny_bind (wpAny_setField_rec hz (by simp) fun h1 z1 sb1=>?_); replace z1:IsZip h1 z TI TO .ellipsis:=z1
 refine wpAny_bind (draws_end (A:=A.in1) (TI:=TI) (n:=n) (z:=z) (TO:=TO) (show A.in1.handled=none from hh) ?_ ss 0 arr _ _ D z1 (sb1.extBut _ _ D.zTO.symm hTO) (by omega) (fun u hm=>?_) hx fun h2 e k2 he=>?_)
 ·intro v k s Q h
  refine wpAny_bind (wpAny_onRaise ?_)
  show wpAny _ _ (Builtin.SmallTypes.nextOf v>>=_) _ _ _
  refine wpAny_bind (wpAny_mono h (fun x s1 ⟨arr,hT1,hl,hq⟩=>wpAny_pure ?_) fun e s1 he=>he)
  refine wpAny_bind (wpAny_seqItems hT1 rfl ?_)
  refine wpAny_bind (wpAny_updateSeq hT1 rfl ?_ hl (by rw [Array.size_setIfInBounds]; omega))
  refine wpAny_bind (wpAny_letGo (wpAny_pure (hq _ ?_ (Heap.SameBut.update ..))))
  show Heap.get? _ _=_
  rw [Heap.get?_update_self _ hT1 rfl]; simp [Obj.mapSeq]
 ·obtain ⟨a,b⟩:=hu u hm
  exact ⟨a.keep fun o e=>sb1.extBut _ _ (D.zi u hm) e,b.keep fun o e=>sb1.extBut _ _ (D.lz u hm) e⟩
 ·obtain ⟨o,ho,hc⟩:=he
  refine wpAny_bind (wpAny_isInstance (T := "StopIteration") (b:=true) ⟨o,ho,hc⟩ isSubtype_stop ?_)
  exact wpAny_pure (hQ _ fun b o b1 b2 b3 e=>k2 b o b1 b2 b3 (sb1.extBut _ _ b1 e))
def SrcAt (h:Heap) (u:Bool×Addr×Array Value):Prop:=if u.1=true then h.IsTuple u.2.1 u.2.2 else h.IsList u.2.1 u.2.2
def subsFrom (n:Nat):List (Bool×Addr×Array Value)->List (Sub×Array Value)
 | []=>[]
 | u::r=>(⟨u.1,n,u.2.1⟩,u.2.2)::subsFrom (n+1) r
theorem iter_src {u:Bool×Addr×Array Value} {Q:Value->Shared->Prop} (hs:SrcAt s.heap u)
  (hQ:∀ h',(Sub.mk u.1 s.heap.objs.size u.2.1).At h' 0->h'.objs.size=s.heap.objs.size+1->(∀ b o,s.heap.get? b=some o->h'.get? b=some o)->Q (.ref s.heap.objs.size) { s with heap:=h' }) :
  wpAny (model prog w) A (pyIter (.ref u.2.1)) Q E s:=by
 unfold SrcAt at hs
 cases ht:u.1 with
 | true=>
  simp only [ht,if_true] at hs
  refine wpAny_pyIter_tuple hs (hQ _ ?_ (Heap.size_push ..) fun b o e=>Heap.get?_push_of_some _ e)
  unfold Sub.At
  simp only [ht,if_true]
  exact ⟨_,Heap.get?_push_size _ rfl,rfl,rfl⟩
 | false=>
  simp only [ht,Bool.false_eq_true,if_false] at hs
  refine wpAny_pyIter_list hs (hQ _ ?_ (Heap.size_push ..) fun b o e=>Heap.get?_push_of_some _ e)
  unfold Sub.At
  simp only [ht,Bool.false_eq_true,if_false]
  exact ⟨_,Heap.get?_push_size _ rfl,rfl,rfl⟩
theorem SrcAt.keep {h h':Heap} {u:Bool×Addr×Array Value} (x:SrcAt h u) (k:∀ b o,h.get? b=some o->h'.get? b=some o):SrcAt h' u:=by
 unfold SrcAt at x ⊢
 split at x <;> (rename_i ht; obtain ⟨o,e,r⟩:=x; simp only [ht,if_true,if_false,Bool.false_eq_true]; exact ⟨o,k _ o e,r⟩)
theorem iter_all_go:∀ (us:List (Bool×Addr×Array Value)) (acc:Array Value) (s:Shared) (Q:Array Value->Shared->Prop),(∀ u∈us,SrcAt s.heap u) ->
  (∀ h',(∀ v∈subsFrom s.heap.objs.size us,v.1.At h' 0)->h'.objs.size=s.heap.objs.size+us.length->(∀ b o,s.heap.get? b=some o->h'.get? b=some o) ->
   Q (acc++((subsFrom s.heap.objs.size us).map fun v=>Value.ref v.1.i).toArray) { s with heap:=h' }) ->
  wpAny (model prog w) A (forIn (us.map fun u=>Value.ref u.2.1) acc fun x r=>do let y <- holding r.toList (pyIter x); pure (ForInStep.yield (r.push y))) Q E s:=by
 intro us
 induction us with
 | nil=>
  intro acc s Q _ hQ
  simp only [List.map_nil,List.forIn_nil]
  have:=hQ s.heap (fun _ h=>absurd h List.not_mem_nil) rfl fun _ _ e=>e
  exact wpAny_pure (by simpa [subsFrom] using this)
 | cons u r ih=>
  intro acc s Q hs hQ
  simp only [List.map_cons,List.forIn_cons]
  refine wpAny_bind (wpAny_bind (wpAny_holding (iter_src (hs u List.mem_cons_self) fun h1 a1 s1 k1=>wpAny_pure ?_)))
  refine ih (acc.push (.ref s.heap.objs.size)) { s with heap:=h1 } Q (fun v hv=>(hs v (List.mem_cons_of_mem _ hv)).keep k1) fun h2 a2 s2 k2=>?_
  have e0:subsFrom h1.objs.size r=subsFrom (s.heap.objs.size+1) r:=by rw [s1]
  have q:=hQ h2 (fun v hv=>?_) (by rw [s2]; show h1.objs.size+_=_; rw [s1,List.length_cons]; omega) fun b o e=>k2 b o (k1 b o e)
  ·have e:acc.push (Value.ref s.heap.objs.size)++(List.map (fun v=>Value.ref v.1.i) (subsFrom h1.objs.size r)).toArray=acc++(List.map (fun v=>Value.ref v.1.i) (subsFrom s.heap.objs.size (u::r))).toArray:=by
    rw [e0]; simp [subsFrom]
   show Q (acc.push (Value.ref s.heap.objs.size)++(List.map (fun v=>Value.ref v.1.i) (subsFrom h1.objs.size r)).toArray) _
   rw [e]; exact q
  ·rcases List.mem_cons.mp hv with rfl | hv
   ·exact a1.keep fun o e=>k2 _ o e
   ·exact a2 v (by show v∈subsFrom h1.objs.size r; rw [e0]; exact hv)
theorem iter_all {us:List (Bool×Addr×Array Value)} {Q:List Value->Shared->Prop} (hs:∀ u∈us,SrcAt s.heap u)
  (hQ:∀ h',(∀ v∈subsFrom s.heap.objs.size us,v.1.At h' 0)->h'.objs.size=s.heap.objs.size+us.length->(∀ b o,s.heap.get? b=some o->h'.get? b=some o) ->
   Q ((subsFrom s.heap.objs.size us).map fun v=>Value.ref v.1.i) { s with heap:=h' }):wpAny (model prog w) A (Builtin.SmallTypes.iterAll (us.map fun u=>Value.ref u.2.1)) Q E s:=by
 unfold Builtin.SmallTypes.iterAll
 refine wpAny_bind (iter_all_go us #[] s _ hs fun h' a1 s1 k1=>wpAny_pure ?_)
 have:=hQ h' a1 s1 k1
 simpa using this
theorem subs_length:∀ (us:List (Bool×Addr×Array Value)) (n:Nat),(subsFrom n us).length=us.length:=by
 intro us
 induction us with
 | nil=>intro n; rfl
 | cons u r ih=>intro n; unfold subsFrom; rw [List.length_cons,ih,List.length_cons]
theorem meets_zip (us:List (Bool×Addr×Array Value)) (hl:us.length<=sizeLine) :
  Meets (Builtin.«zip.__new__» ⟨.type "zip" :: us.map fun u=>Value.ref u.2.1,[]⟩) (fun _ R s=>(∀ u∈us,SrcAt s.heap u) /\
   ∀ h',(∀ v∈subsFrom s.heap.objs.size us,v.1.At h' 0)->TupO h' (s.heap.objs.size+us.length) ((subsFrom s.heap.objs.size us).map fun v=>Value.ref v.1.i).toArray ->
    (∃ arr,TupO h' (s.heap.objs.size+us.length+1) arr/\arr.size=us.length)->IsZip h' (s.heap.objs.size+us.length+2) (s.heap.objs.size+us.length) (s.heap.objs.size+us.length+1) .none ->
    (∀ b o,s.heap.get? b=some o->h'.get? b=some o)->R (.ok (.ret (.ref (s.heap.objs.size+us.length+2)))) { s with heap:=h' }):=
 .of_wp fun prog w A R s h=>by
  obtain ⟨hs,h⟩:=h
  show wpAny _ _ (Builtin.SmallTypes.newClass "zip" _>>=_) _ _ _
  refine wpAny_bind ?_
  unfold Builtin.SmallTypes.newClass
  refine wpAny_bind (wpAny_of_eq (a:=true) rfl ?_)
  simp only [Bool.not_true,Bool.false_eq_true,if_false]
  refine wpAny_bind (wpAny_of_eq (a:=true) sub_zip ?_)
  simp only [Bool.not_true,Bool.false_eq_true,if_false]
  refine wpAny_pure ?_
  simp only [List.length_nil,show ¬ (0>1) by decide,if_false]
  refine wpAny_bind (iter_all hs fun h1 a1 s1 k1=>?_)
  refine wpAny_bind (wpAny_newTuple ?_ (by simp [subs_length,hl]))
  refine wpAny_bind (wpAny_newTuple ?_ (by simp [subs_length,hl]))
  generalize hI:((subsFrom s.heap.objs.size us).map fun v=>Value.ref v.1.i)=I at h ⊢
  have hIl:I.length=us.length:=by rw [<- hI,List.length_map,subs_length]
  refine wpAny_bind ?_
  show wpAny _ _ (newObj (.type "zip") (.fields #[.none,.bool false,.bool false,.ref h1.objs.size,.ref (h1.push { cls:=.type "tuple",data:=.seq I.toArray }).objs.size]) none) _ _ _
  refine wpAny_newObj_type (wpAny_pure ?_) (by size_fits)
  have z0:h1.objs.size=s.heap.objs.size+us.length:=s1
  have z1:(h1.push { cls:=.type "tuple",data:=.seq I.toArray }).objs.size=s.heap.objs.size+us.length+1:=by rw [Heap.size_push,s1]
  have z2:((h1.push { cls:=.type "tuple",data:=.seq I.toArray }).push { cls:=.type "tuple",data:=.seq (I.map fun _=>Value.none).toArray }).objs.size=s.heap.objs.size+us.length+2:=by rw [Heap.size_push,z1]
  refine ⟨_,rfl,?_⟩
  have g:=h (((h1.push { cls:=.type "tuple",data:=.seq I.toArray }).push { cls:=.type "tuple",data:=.seq (I.map fun _=>Value.none).toArray }).push { cls:=.type "zip",data:=.fields #[.none,.bool false,.bool false,.ref h1.objs.size,.ref (h1.push { cls:=.type "tuple",data:=.seq I.toArray }).objs.size] })
   (fun v hv=>(a1 v hv).keep fun o e=>Heap.get?_push_of_some _ (Heap.get?_push_of_some _ (Heap.get?_push_of_some _ e))) ?_ ⟨(I.map fun _=>Value.none).toArray,?_,by simp [hIl]⟩ ?_ fun b o e=>Heap.get?_push_of_some _ (Heap.get?_push_of_some _ (Heap.get?_push_of_some _ (k1 b o e)))
  ·rw [<- z2] at g
   exact g
  ·rw [<- z0]; exact Heap.get?_push_of_some _ (Heap.get?_push_of_some _ (Heap.get?_push_size _ rfl))
  ·rw [<- z1]; exact Heap.get?_push_of_some _ (Heap.get?_push_size _ rfl)
  ·rw [<- z2,<- z1,<- z0]; exact Heap.get?_push_size _ rfl
theorem tcall_zip3 (a b c:Value):checkTypeCall "zip" ⟨[a,b,c],[]⟩=pure ():=by kernel_rfl
theorem ncall_zip3 (a b c:Value):checkBuiltinCall "zip.__new__" ⟨[.type "zip",a,b,c],[]⟩=pure ():=by kernel_rfl
theorem args_init4 (a b c d:Value):argsOk "object.__init__" ⟨[a,b,c,d],[]⟩:=by
 unfold argsOk; rw [signature?_of (id := "object.__init__") (n:=['_','_','t','i','n','i','_','_']) (o:=['t','c','e','j','b','o']) (by kernel_rfl) F.owner_object]; kernel_rfl
theorem call_zip (us:List (Bool×Addr×Array Value)) (hl:us.length=2\/us.length=3) {Q:Value->Shared->Prop} (hs:∀ u∈us,SrcAt s.heap u)
  (h:∀ h',(∀ v∈subsFrom s.heap.objs.size us,v.1.At h' 0)->TupO h' (s.heap.objs.size+us.length) ((subsFrom s.heap.objs.size us).map fun v=>Value.ref v.1.i).toArray ->
    (∃ arr,TupO h' (s.heap.objs.size+us.length+1) arr/\arr.size=us.length)->IsZip h' (s.heap.objs.size+us.length+2) (s.heap.objs.size+us.length) (s.heap.objs.size+us.length+1) .none ->
    (∀ b o,s.heap.get? b=some o->h'.get? b=some o)->Q (.ref (s.heap.objs.size+us.length+2)) { s with heap:=h' }) :
  wpAny (model prog w) A (call (.type "zip") (us.map fun u=>Value.ref u.2.1)) Q E s:=by
 have hle:us.length<=sizeLine:=Nat.le_trans (show us.length<=3 by omega) (by decide)
 have k:∀ h',_->_->_->_->_->({ s with heap:=h' }:Shared).TypeIs (.ref (s.heap.objs.size+us.length+2)) "zip" /\ Q (.ref (s.heap.objs.size+us.length+2)) { s with heap:=h' }:=fun h' c1 c2 c3 c4 c5=>⟨⟨_,c4,rfl⟩,h h' c1 c2 c3 c4 c5⟩
 cases us with
 | nil=>rcases hl with hl | hl <;> cases hl
 | cons a us=>
  cases us with
  | nil=>rcases hl with hl | hl <;> cases hl
  | cons b us=>
   cases us with
   | nil=>exact callType_new F.called_zip (by decide) (F.typeCall_zip_2 _ _) (F.newCall_zip_2 _ _) (fun obj=>F.args_object_init_3 obj _ _) F.entry_zip_new (meets_zip [a,b] hle) ⟨hs,k⟩
   | cons c us=>
    cases us with
    | nil=>exact callType_new F.called_zip (by decide) (tcall_zip3 _ _ _) (ncall_zip3 _ _ _) (fun obj=>args_init4 obj _ _ _) F.entry_zip_new (meets_zip [a,b,c] hle) ⟨hs,k⟩
    | cons d us=>rcases hl with hl | hl <;> (simp only [List.length_cons] at hl; omega)
end
end L2
namespace L2
open PySem PySem.Spec PyProof.Rows
theorem choose_list {α β:Type} {R:α->β->Prop}:∀ {l:List α},(∀ a∈l,∃ b,R a b)->∃ l':List (α×β),l'.map (·.1)=l/\∀ p∈l',R p.1 p.2:=by
 intro l
 induction l with
 | nil=>exact fun _=>⟨[],rfl,fun _ h=>absurd h List.not_mem_nil⟩
 | cons a l ih=>
  intro h
  obtain ⟨b,hb⟩:=h a List.mem_cons_self
  obtain ⟨l',e,q⟩:=ih fun x hx=>h x (List.mem_cons_of_mem _ hx)
  refine ⟨(a,b)::l',by rw [List.map_cons,e],fun p hp=>?_⟩
  rcases List.mem_cons.mp hp with rfl | hp
  ·exact hb
  ·exact q p hp
def Sq (K:Frag) (H:Hp) (t:Bool) (a:Addr) (xs:List V):Prop:=if t=true then SqT K H a xs else SqL K H a xs
section
variable {X:Cx} {pins:List (Addr×Obj)} {σ:St} {H:Hp} {s:Shared}
theorem kne {b a:Addr} {o:Obj} (I:Inv X pins σ H s) (h:X.K.lookup a=some o) (f:FpOk X pins H b):a≠b:=by
 intro e
 subst e
 have hb:X.base.get? a=some o:=I.mod.kin a o h
 obtain ⟨f0,f1,f2,f3,f4,f5⟩:=f
 rcases f3 with z | z
 ·exact I.ok.noex a o hb z
 ·exact absurd (Nat.lt_of_lt_of_le (Heap.lt_size (I.ok.bs a o hb).1) z) (Nat.lt_irrefl _)
theorem Sq.ne {t:Bool} {a b:Addr} {xs:List V} (I:Inv X pins σ H s) (h:Sq X.K H t a xs) (f:FpOk X pins H b):a≠b:=by
 have tr:∀ {u:HO},Rd H a u->a≠b:=fun {u} r e=>by
  subst e
  have f0:=f.1
  rcases r with r | ⟨o,r⟩ <;> (rw [f0] at r; cases r)
 unfold Sq at h
 split at h
 ·rcases h with h | ⟨o,its,n,hk,_⟩
  ·exact tr h
  ·exact kne I hk f
 ·rcases h with h | ⟨o,its,n,hk,_⟩
  ·exact tr h
  ·exact kne I hk f
theorem Sq.src {t:Bool} {a:Addr} {xs:List V} (I:Inv X pins σ H s) (h:Sq X.K H t a xs):∃ its:List Value,Vals xs its/\(Sub.mk t 0 a).Src s.heap its.toArray:=by
 unfold Sq at h
 unfold Sub.Src
 split at h
 ·rename_i ht
  obtain ⟨its,r,p,_⟩:=I.tuple h
  exact ⟨its,r,by simp only [ht,if_true]; exact p⟩
 ·rename_i ht
  obtain ⟨its,r,p,_⟩:=I.list h
  exact ⟨its,r,by simp only [ht,if_false]; exact p.isList⟩
theorem Sq.inj {t:Bool} {a:Addr} {xs ys:List V} (I:Inv X pins σ H s) (h:Sq X.K H t a xs) (h':Sq X.K H t a ys):xs=ys:=by
 unfold Sq at h h'
 split at h
 ·rename_i ht; simp only [ht,if_true] at h'; exact I.tuple_inj h h'
 ·rename_i ht; simp only [ht,if_false] at h'; exact I.list_inj h h'
end
def ItZ (K:Frag) (us:List (Bool×Addr)):It:=
  ⟨fun i H=>∀ u∈us,∃ xs x,Sq K H u.1 u.2 xs/\xs[i]?=some x,
   fun i H x H'=>∃ p ys,x=.ref p/\H p=none/\H'=upd H p (.tup ys)/\Paired (fun (u:Bool×Addr) (y:V)=>∀ xs,Sq K H u.1 u.2 xs->xs[i]?=some y) us ys,
   fun i H=>(∀ u∈us,∃ xs,Sq K H u.1 u.2 xs)/\∃ u∈us,∃ xs,Sq K H u.1 u.2 xs/\xs.length<=i⟩
structure ZSt (z TI TO:Addr) (subs:List Sub):Prop where
 zTO:z≠TO
 TIz:TI≠z
 TITO:TI≠TO
 zi:∀ u∈subs,u.i≠z
 ti:∀ u∈subs,u.i≠TO
 Ii:∀ u∈subs,u.i≠TI
 nd:subs.Pairwise fun u v=>u.i≠v.i
abbrev zTn (z TI TO:Addr) (subs:List Sub) (i:Nat) (h:Heap):Prop:=
 IsZip h z TI TO .none/\TupO h TI (subs.map fun u=>Value.ref u.i).toArray/\(∃ arr,TupO h TO arr/\arr.size=subs.length)/\∀ u∈subs,u.At h i
theorem paired_map {α β γ:Type} {F:α->γ->Prop} {f:β->α} {g:β->γ}:∀ {l:List β},(∀ b∈l,F (f b) (g b))->Paired F (l.map f) (l.map g)
 | [],_=>.nil
 | _::_,h=>.cons (h _ List.mem_cons_self) (paired_map fun b hb=>h b (List.mem_cons_of_mem _ hb))
theorem turn_zip {P:Program} {w:World} {K:Frag} {elts:List Expr} {k:Nat} {tp:Pos} {z TI TO:Addr} {subs:List Sub} (D:ZSt z TI TO subs) (hne:subs ≠ []) (hln:subs.length<=sizeLine) :
  Turn P w K (.Tuple elts k tp) (ItZ K (subs.map fun u=>(u.t,u.l))) (z::TI::TO::subs.map (·.i)) z (zTn z TI TO subs) where
 mem:=by simp
 obj:=fun i h st b hb=>by
  obtain ⟨hz,hTI,⟨arr,hTO,_⟩,hs⟩:=st
  simp only [List.mem_cons,List.mem_map] at hb
  rcases hb with rfl | rfl | rfl | ⟨u,hu,rfl⟩
  ·exact ⟨_,hz,fun v q=>by cases q⟩
  ·exact ⟨_,hTI,fun v q=>by cases q⟩
  ·exact ⟨_,hTO,fun v q=>by cases q⟩
  ·obtain ⟨o,e,d⟩:=(hs u hu).obj
   exact ⟨o,e,fun v q=>by rw [d] at q; cases q⟩
 keep:=fun i h h' st kp=>by
  obtain ⟨hz,hTI,⟨arr,hTO,ha⟩,hs⟩:=st
  exact ⟨kp z (by simp) _ hz,kp TI (by simp) _ hTI,⟨arr,kp TO (by simp) _ hTO,ha⟩,fun u hu=>(hs u hu).keep fun o e=>kp u.i (by simp only [List.mem_cons,List.mem_map]; exact .inr (.inr (.inr ⟨u,hu,rfl⟩))) o e⟩
 item:=by
  intro X hP hw hK hc i pins s σ H E I hf st hg
  subst hP hw hK
  obtain ⟨hz,hTI,⟨arr,hTO,ha⟩,hs⟩:=st
  have fz:=hf z (by simp)
  have fT:=hf TO (by simp)
  have fi:∀ u∈subs,FpOk X pins H u.i:=fun u hu=>hf u.i (by simp only [List.mem_cons,List.mem_map]; exact .inr (.inr (.inr ⟨u,hu,rfl⟩)))
  obtain ⟨ss,ess,hss⟩:=choose_list (R:=fun (u:Sub) (q:List Value×List V×V)=>Sq X.K H u.t u.l q.2.1/\Vals q.2.1 q.1/\u.Src s.heap q.1.toArray/\q.2.1[i]?=some q.2.2) (l:=subs) (fun u hu=>by
   obtain ⟨xs,x,h1,h2⟩:=hg (u.t,u.l) (List.mem_map.mpr ⟨u,hu,rfl⟩)
   obtain ⟨its,r,hsrc⟩:=Sq.src I h1
   exact ⟨(its,xs,x),h1,r,hsrc,h2⟩)
  have mss:∀ v∈ss,v.1∈subs:=fun v hv=>by rw [<- ess]; exact List.mem_map.mpr ⟨v,hv,rfl⟩
  have nd2:ss.Pairwise fun u v=>u.1.i≠v.1.i:=by
   have:=D.nd
   rw [<- ess,List.pairwise_map] at this
   exact this
  have DA:Apart z TO (ss.map fun v=>(v.1,v.2.1.toArray)):=by
   refine ⟨D.zTO,?_,?_,?_,?_,?_,?_⟩
   ·rintro _ hu; obtain ⟨v,hv,rfl⟩:=List.mem_map.mp hu; exact D.zi _ (mss v hv)
   ·rintro _ hu; obtain ⟨v,hv,rfl⟩:=List.mem_map.mp hu; exact D.ti _ (mss v hv)
   ·rw [List.pairwise_map]; exact nd2
   ·rintro _ hu; obtain ⟨v,hv,rfl⟩:=List.mem_map.mp hu; exact Sq.ne I (hss v hv).1 fz
   ·rintro _ hu; obtain ⟨v,hv,rfl⟩:=List.mem_map.mp hu; exact Sq.ne I (hss v hv).1 fT
   ·rintro _ hu _ hu2; obtain ⟨v,hv,rfl⟩:=List.mem_map.mp hu; obtain ⟨v2,hv2,rfl⟩:=List.mem_map.mp hu2; exact Sq.ne I (hss v hv).1 (fi _ (mss v2 hv2))
  have el:(ss.map fun v=>(v.1,v.2.1.toArray)).length=subs.length:=by rw [List.length_map,<- ess,List.length_map]
  have eI:((ss.map fun v=>(v.1,v.2.1.toArray)).map fun u=>Value.ref u.1.i)=subs.map fun u=>Value.ref u.i:=by rw [<- ess,List.map_map,List.map_map]; rfl
  have ys:∀ v∈ss,∃ u,v.2.1.toArray[i]?=some u/\RelV v.2.2.2 u:=fun v hv=>by
   obtain ⟨u,e,r⟩:=(hss v hv).2.1.get (hss v hv).2.2.2
   exact ⟨u,by simpa using e,r⟩
  refine zip_item (n:=i) DA (by intro q; apply hne; have:=congrArg List.length q; rw [el] at this; exact List.length_eq_zero_iff.mp this) (by rw [ha,el]) (by rw [el]; exact hln) hz (by rw [eI]; exact hTI) hTO (fun u hu=>?_) fun h1 z1 T1 a1 p1 k1=>?_
  ·obtain ⟨v,hv,rfl⟩:=List.mem_map.mp hu
   obtain ⟨u,e,_⟩:=ys v hv
   exact ⟨hs _ (mss v hv),(hss v hv).2.2.1,u,e⟩
  refine ⟨_,rfl,wpAny_letOwnedTupleGo_zip z1 fun h2 z2 sb2=>?_⟩
  have hzl:z<s.heap.objs.size:=Heap.lt_size hz
  have kp:∀ b o,b≠z->b≠TO->(∀ u∈subs,b≠u.i)->s.heap.get? b=some o->h2.get? b=some o:=fun b o b1 b2 b3 e=>sb2.extBut _ _ b1 (k1 b o b1 b2 (fun u hu=>by obtain ⟨v,hv,rfl⟩:=List.mem_map.mp hu; exact b3 _ (mss v hv)) e)
  have hfr:H s.heap.objs.size=none:=I.hok.fresh (Nat.le_refl _)
  have trk:∀ b u,H b=some u->b≠z/\b≠TO/\∀ v∈subs,b≠v.i:=fun b u e=>⟨fun q=>(by subst q; rw [fz.1] at e; cases e),fun q=>(by subst q; rw [fT.1] at e; cases e),fun v hv q=>(by subst q; rw [(fi v hv).1] at e; cases e)⟩
  have hP2:TupO h2 s.heap.objs.size (ss.map fun v=>v.2.1.toArray.getD i .none).toArray:=by
   have:=sb2.extBut _ _ (Nat.ne_of_gt hzl) p1
   rw [List.map_map] at this
   exact this
  have rel:Vals (ss.map fun v=>v.2.2.2) (ss.map fun v=>v.2.1.toArray.getD i .none):=paired_map fun v hv=>by
   obtain ⟨u,e,r⟩:=ys v hv
   rw [show v.2.1.toArray.getD i Value.none=u by simp only [Array.getD_eq_getD_getElem?,e,Option.getD_some]]
   exact r
  have len:(ss.map fun v=>v.2.2.2).length<=sizeLine:=by rw [List.length_map,show ss.length=subs.length by rw [<- ess,List.length_map]]; exact hln
  refine ⟨.ref s.heap.objs.size,upd H s.heap.objs.size (.tup (ss.map fun v=>v.2.2.2)),?_,rfl,⟨_,_,rfl,hfr,rfl,?_⟩,⟨z2,?_,?_,fun u hu=>?_⟩,fun b hb=>?_⟩
  ·show Inv X pins σ _ { s with heap:=h2 }
   refine I.step (g':=s.gens) (t':=s.toks) (d':=s.drawn) (ch:=z::TO::subs.map (·.i)) (fun b hb=>?_) (fun b o _ _ hc e _=>kp b o ?_ ?_ ?_ e) (fun b o _ _ hc e _=>⟨o.slots,kp b o ?_ ?_ ?_ e⟩) (fun b o hc e n=>?_) (fun b o hc e=>⟨o,kp b o ?_ ?_ ?_ e⟩) (fun b xs e=>?_) (fun b o u e=>?_) (fun b ps e=>?_) (fun m hm=>?_) ?_ I.bare
   ·simp only [List.mem_cons,List.mem_map] at hb
    rcases hb with rfl | rfl | ⟨u,hu,rfl⟩
    ·exact ⟨fz.2.2.2.1,fz.2.1,fz.2.2.2.2.1,fz.2.2.2.2.2⟩
    ·exact ⟨fT.2.2.2.1,fT.2.1,fT.2.2.2.2.1,fT.2.2.2.2.2⟩
    ·have f:=fi u hu; exact ⟨f.2.2.2.1,f.2.1,f.2.2.2.2.1,f.2.2.2.2.2⟩
   all_goals first
    | (intro q; exact hc (by simp [q]; done))
    | (intro u hu q; exact hc (by rw [q]; exact List.mem_cons_of_mem _ (List.mem_cons_of_mem _ (List.mem_map.mpr ⟨u,hu,rfl⟩))))
    | skip
   ·rw [upd_ne (Nat.ne_of_lt (Heap.lt_size e))]; exact n
   ·rw [upd_ne (ne_of_none e hfr)]; exact e
   ·rw [upd_ne (ne_of_none e hfr)]; exact e
   ·exact ⟨#[],by rw [upd_ne (ne_of_none e hfr),e]; simp⟩
   ·obtain ⟨o,es,ep,ho,r⟩:=hm
    exact ⟨o,es,ep,kp _ o (Ne.symm fz.2.1) (Ne.symm fT.2.1) (fun u hu=>Ne.symm (fi u hu).2.1) ho,r⟩
   ·intro b u e
    by_cases hb:b=s.heap.objs.size
    ·subst hb
     rw [upd_same] at e; cases e
     exact ⟨len,_,rel,⟨_,hP2,rfl,_,rfl⟩⟩
    ·rw [upd_ne hb] at e
     refine (I.hok b u e).stay (fun c v hcc q=>?_) (fun c q=>by rw [upd_ne (ne_of_none q hfr)]; exact q) fun c xs q=>by rw [upd_ne (ne_of_none q hfr)]; exact q
     rcases hcc with rfl | hcc
     ·exact kp _ v (trk _ _ e).1 (trk _ _ e).2.1 (trk _ _ e).2.2 q
     ·exact kp _ v (trk _ _ hcc).1 (trk _ _ hcc).2.1 (trk _ _ hcc).2.2 q
  ·rw [<- ess,List.map_map]
   exact paired_map fun v hv xs hx=>by rw [Sq.inj I hx (hss v hv).1]; exact (hss v hv).2.2.2
  ·exact kp TI _ D.TIz D.TITO (fun u hu=>Ne.symm (D.Ii u hu)) hTI
  ·obtain ⟨arr',hT',ha'⟩:=T1
   exact ⟨arr',sb2.extBut _ _ D.zTO.symm hT',by rw [ha',el]⟩
  ·have hv:∃ v∈ss,v.1=u:=by rw [<- ess] at hu; exact List.mem_map.mp hu
   obtain ⟨v,hv,rfl⟩:=hv
   exact (a1 (v.1,v.2.1.toArray) (List.mem_map.mpr ⟨v,hv,rfl⟩)).keep fun o e=>sb2.extBut _ _ (D.zi _ (mss v hv)) e
  ·have:b≠s.heap.objs.size:=by
    simp only [List.mem_cons,List.mem_map] at hb
    rcases hb with rfl | rfl | rfl | ⟨u,hu,rfl⟩
    ·exact Nat.ne_of_lt hzl
    ·exact Nat.ne_of_lt (Heap.lt_size hTI)
    ·exact Nat.ne_of_lt (Heap.lt_size hTO)
    ·obtain ⟨o,e,_⟩:=(hs u hu).obj; exact Nat.ne_of_lt (Heap.lt_size e)
   rw [upd_ne this]
   exact (hf b hb).1
 done:=by
  intro X hP hw hK hc i pins s σ H E I hf st hg
  subst hP hw hK
  obtain ⟨hz,hTI,⟨arr,hTO,ha⟩,hs⟩:=st
  obtain ⟨hall,u0,hu0,xs0,hq0,hl0⟩:=hg
  have fz:=hf z (by simp)
  have fT:=hf TO (by simp)
  have fi:∀ u∈subs,FpOk X pins H u.i:=fun u hu=>hf u.i (by simp only [List.mem_cons,List.mem_map]; exact .inr (.inr (.inr ⟨u,hu,rfl⟩)))
  obtain ⟨ss,ess,hss⟩:=choose_list (R:=fun (u:Sub) (q:List Value×List V)=>Sq X.K H u.t u.l q.2/\Vals q.2 q.1/\u.Src s.heap q.1.toArray) (l:=subs) (fun u hu=>by
   obtain ⟨xs,h1⟩:=hall (u.t,u.l) (List.mem_map.mpr ⟨u,hu,rfl⟩)
   obtain ⟨its,r,hsrc⟩:=Sq.src I h1
   exact ⟨(its,xs),h1,r,hsrc⟩)
  have mss:∀ v∈ss,v.1∈subs:=fun v hv=>by rw [<- ess]; exact List.mem_map.mpr ⟨v,hv,rfl⟩
  have nd2:ss.Pairwise fun u v=>u.1.i≠v.1.i:=by
   have:=D.nd
   rw [<- ess,List.pairwise_map] at this
   exact this
  have DA:Apart z TO (ss.map fun v=>(v.1,v.2.1.toArray)):=by
   refine ⟨D.zTO,?_,?_,?_,?_,?_,?_⟩
   ·rintro _ hu; obtain ⟨v,hv,rfl⟩:=List.mem_map.mp hu; exact D.zi _ (mss v hv)
   ·rintro _ hu; obtain ⟨v,hv,rfl⟩:=List.mem_map.mp hu; exact D.ti _ (mss v hv)
   ·rw [List.pairwise_map]; exact nd2
   ·rintro _ hu; obtain ⟨v,hv,rfl⟩:=List.mem_map.mp hu; exact Sq.ne I (hss v hv).1 fz
   ·rintro _ hu; obtain ⟨v,hv,rfl⟩:=List.mem_map.mp hu; exact Sq.ne I (hss v hv).1 fT
   ·rintro _ hu _ hu2; obtain ⟨v,hv,rfl⟩:=List.mem_map.mp hu; obtain ⟨v2,hv2,rfl⟩:=List.mem_map.mp hu2; exact Sq.ne I (hss v hv).1 (fi _ (mss v2 hv2))
  have el:(ss.map fun v=>(v.1,v.2.1.toArray)).length=subs.length:=by rw [List.length_map,<- ess,List.length_map]
  have eI:((ss.map fun v=>(v.1,v.2.1.toArray)).map fun u=>Value.ref u.1.i)=subs.map fun u=>Value.ref u.i:=by rw [<- ess,List.map_map,List.map_map]; rfl
  refine zip_stop (n:=i) (I.ok.hd hc) DA (by rw [ha,el]) (by rw [el]; exact hln) hz (by rw [eI]; exact hTI) hTO (fun u hu=>?_) ?_ fun h1 k1=>⟨rfl,?_⟩
  ·obtain ⟨v,hv,rfl⟩:=List.mem_map.mp hu
   exact ⟨hs _ (mss v hv),(hss v hv).2.2⟩
  ·obtain ⟨u,hu,e0⟩:=List.mem_map.mp hu0
   have hv:∃ v∈ss,v.1=u:=by rw [<- ess] at hu; exact List.mem_map.mp hu
   obtain ⟨v,hv,rfl⟩:=hv
   subst e0
   refine ⟨(v.1,v.2.1.toArray),List.mem_map.mpr ⟨v,hv,rfl⟩,?_⟩
   have e1:=Sq.inj I (hss v hv).1 hq0
   have e2:=(hss v hv).2.1.length
   rw [e1] at e2
   simp only [List.getElem?_toArray]
   exact List.getElem?_eq_none (by omega)
  ·have kp:∀ b o,b≠z->b≠TO->(∀ u∈subs,b≠u.i)->s.heap.get? b=some o->h1.get? b=some o:=fun b o b1 b2 b3 e=>k1 b o b1 b2 (fun u hu=>by obtain ⟨v,hv,rfl⟩:=List.mem_map.mp hu; exact b3 _ (mss v hv)) e
   have trk:∀ b u,H b=some u->b≠z/\b≠TO/\∀ v∈subs,b≠v.i:=fun b u e=>⟨fun q=>(by subst q; rw [fz.1] at e; cases e),fun q=>(by subst q; rw [fT.1] at e; cases e),fun v hv q=>(by subst q; rw [(fi v hv).1] at e; cases e)⟩
   refine I.step (g':=s.gens) (t':=s.toks) (d':=s.drawn) (ch:=z::TO::subs.map (·.i)) (fun b hb=>?_) (fun b o _ _ hc e _=>kp b o ?_ ?_ ?_ e) (fun b o _ _ hc e _=>⟨o.slots,kp b o ?_ ?_ ?_ e⟩) (fun b o hc e n=>n) (fun b o hc e=>⟨o,kp b o ?_ ?_ ?_ e⟩) (fun b xs e=>e) (fun b o u e=>e) (fun b ps e=>⟨#[],by rw [e]; simp⟩) (fun m hm=>?_) (fun b u e=>?_) I.bare
   ·simp only [List.mem_cons,List.mem_map] at hb
    rcases hb with rfl | rfl | ⟨u,hu,rfl⟩
    ·exact ⟨fz.2.2.2.1,fz.2.1,fz.2.2.2.2.1,fz.2.2.2.2.2⟩
    ·exact ⟨fT.2.2.2.1,fT.2.1,fT.2.2.2.2.1,fT.2.2.2.2.2⟩
    ·have f:=fi u hu; exact ⟨f.2.2.2.1,f.2.1,f.2.2.2.2.1,f.2.2.2.2.2⟩
   all_goals first
    | (intro q; exact hc (by simp [q]; done))
    | (intro u hu q; exact hc (by rw [q]; exact List.mem_cons_of_mem _ (List.mem_cons_of_mem _ (List.mem_map.mpr ⟨u,hu,rfl⟩))))
    | skip
   ·obtain ⟨o,es,ep,ho,r⟩:=hm
    exact ⟨o,es,ep,kp _ o (Ne.symm fz.2.1) (Ne.symm fT.2.1) (fun u hu=>Ne.symm (fi u hu).2.1) ho,r⟩
   ·refine (I.hok b u e).stay (fun c v hcc q=>?_) (fun c q=>q) fun c xs q=>q
    rcases hcc with rfl | hcc
    ·exact kp _ v (trk _ _ e).1 (trk _ _ e).2.1 (trk _ _ e).2.2 q
    ·exact kp _ v (trk _ _ hcc).1 (trk _ _ hcc).2.1 (trk _ _ hcc).2.2 q
 self:=fun _ _ _ _ _ st h=>wpAny_pyIter_zip st.1 h
def iZip (K:Frag) (ta:TA):TI:=fun σ H R=>ta σ H fun vs H1=>∃ us:List (Bool×Addr),vs=us.map (fun u=>V.ref u.2)/\(us.length=2\/us.length=3)/\(∀ u∈us,∃ xs,Sq K H1 u.1 u.2 xs)/\R (ItZ K us) H1
theorem neN {a b:Nat} (h:a≠b):(a:Addr)≠b:=h
theorem vals_refs:∀ {us:List (Bool×Addr)} {vs:List Value},Vals (us.map fun u=>V.ref u.2) vs->vs=us.map fun u=>Value.ref u.2:=by
 intro us
 induction us with
 | nil=>intro vs h; cases h; rfl
 | cons u us ih=>
  intro vs h
  cases h with
  | cons r t=>
   have r':_=Value.ref _:=r
   rw [r',ih t]; rfl
theorem subs_i:∀ (us:List (Bool×Addr×Array Value)) (n:Nat),∀ v∈subsFrom n us,n<=v.1.i/\n+us.length>v.1.i:=by
 intro us
 induction us with
 | nil=>exact fun _ _ h=>absurd h List.not_mem_nil
 | cons u r ih=>
  intro n v h
  rcases List.mem_cons.mp h with rfl | h
  ·exact ⟨Nat.le_refl _,by show n+(r.length+1)>n; omega⟩
  ·have:=ih (n+1) v h
   rw [List.length_cons]; omega
theorem subs_nd:∀ (us:List (Bool×Addr×Array Value)) (n:Nat),(subsFrom n us).Pairwise fun u v=>u.1.i≠v.1.i
 | [],_=>.nil
 | u::r,n=>by
  refine List.pairwise_cons.mpr ⟨fun v hv=>?_,subs_nd r (n+1)⟩
  have:=subs_i r (n+1) v hv
  show (n:Nat)≠v.1.i
  omega
theorem subs_src:∀ (us:List (Bool×Addr×Array Value)) (n:Nat),(subsFrom n us).map (fun u=>(u.1.t,u.1.l))=us.map fun u=>(u.1,u.2.1)
 | [],_=>rfl
 | u::r,n=>by unfold subsFrom; rw [List.map_cons,subs_src r,List.map_cons]
section
variable {X:Cx}
theorem pi_zip {a:Expr} {es elts:List Expr} {ta:TA} {p pos tp:Pos} {k:Nat} (hg:Gl X "zip") (hm:X.mg "zip" = none) (ha:PA X (a::es) ta) (hs:starEach (a::es) X.env=(false,eval a X.env)::starEach es X.env:=by rfl)
  (hpl:(backTo pos (starEach es X.env)).any (·.1)=false:=by rfl):PI X (.Tuple elts k tp) (.Call (.Name "zip" p) (a::es) [] pos) (iZip X.K ta):=by
 intro pins s σ H R I h
 refine Call_ (ld_blt I hg hm boot_zip (PyProof.Rows.callWith_type1 (thn (ha pos pins s σ H _ I h) fun vs s1 zz54=>?_) hs hpl))
 obtain ⟨xs,H1,I1,r1,us,e1,hl,hsq,q⟩:=zz54
 subst e1
 have e2:=vals_refs r1
 subst e2
 obtain ⟨ws,ew,hws⟩:=choose_list (R:=fun (u:Bool×Addr) (its:Array Value)=>SrcAt s1.heap (u.1,u.2,its)) (l:=us) (fun u hu=>by
  obtain ⟨ys,hy⟩:=hsq u hu
  obtain ⟨its,_,hsrc⟩:=Sq.src I1 hy
  exact ⟨its.toArray,by unfold SrcAt; unfold Sub.Src at hsrc; exact hsrc⟩)
 have ev:us.map (fun u=>Value.ref u.2)=(ws.map fun w=>(w.1.1,w.1.2,w.2)).map fun u=>Value.ref u.2.1:=by rw [<- ew,List.map_map,List.map_map]; rfl
 have el:(ws.map fun w=>(w.1.1,w.1.2,w.2)).length=us.length:=by rw [<- ew,List.length_map,List.length_map]
 rw [ev]
 generalize hW:(ws.map fun w=>(w.1.1,w.1.2,w.2))=W at el ev
 have hsw:∀ u∈W,SrcAt s1.heap u:=fun u hu=>by
  rw [<- hW] at hu
  obtain ⟨w,hw,rfl⟩:=List.mem_map.mp hu
  exact hws w hw
 refine call_zip W (by rw [el]; exact hl) hsw fun h' hA hTI hTO hz hk=>wpAny_pyIter_zip hz ?_
 have I2:Inv X pins σ H1 { s1 with heap:=h' }:=I1.kept (t':=s1.toks) hk
 have eS:((subsFrom s1.heap.objs.size W).map (·.1)).map (fun u=>(u.t,u.l))=us:=by
  rw [List.map_map]
  show (subsFrom s1.heap.objs.size W).map (fun u=>(u.1.t,u.1.l))=us
  rw [subs_src,<- hW,List.map_map,<- ew]
  rfl
 have D:ZSt (s1.heap.objs.size+W.length+2) (s1.heap.objs.size+W.length) (s1.heap.objs.size+W.length+1) ((subsFrom s1.heap.objs.size W).map (·.1)):=by
  refine ⟨neN (by omega),neN (by omega),neN (by omega),?_,?_,?_,?_⟩
  ·rintro _ hu; obtain ⟨v,hv,rfl⟩:=List.mem_map.mp hu; have:=subs_i W _ v hv; exact neN (by omega)
  ·rintro _ hu; obtain ⟨v,hv,rfl⟩:=List.mem_map.mp hu; have:=subs_i W _ v hv; exact neN (by omega)
  ·rintro _ hu; obtain ⟨v,hv,rfl⟩:=List.mem_map.mp hu; have:=subs_i W _ v hv; exact neN (by omega)
  ·rw [List.pairwise_map]; exact subs_nd W _
 have ls:((subsFrom s1.heap.objs.size W).map (·.1)).length=W.length:=by rw [List.length_map,subs_length]
 have TZ:=turn_zip (P:=X.prog) (w:=X.w) (K:=X.K) (elts:=elts) (k:=k) (tp:=tp) D (by intro q; have:=congrArg List.length q; rw [ls,el] at this; have h0:us.length=0:=this; omega) (by rw [ls,el]; exact Nat.le_trans (show us.length<=3 by omega) (by decide))
 rw [eS] at TZ
 refine ⟨_,_,_,_,H1,rfl,I2,TZ,⟨hz,?_,?_,fun u hu=>?_⟩,fun b hb=>?_,q⟩
 ·rw [List.map_map]; exact hTI
 ·obtain ⟨arr,h1,h2⟩:=hTO
  exact ⟨arr,h1,by rw [ls]; exact h2⟩
 ·obtain ⟨v,hv,rfl⟩:=List.mem_map.mp hu
  exact hA v hv
 ·have hb':s1.heap.objs.size<=b:=by
   simp only [List.mem_cons,List.mem_map] at hb
   rcases hb with rfl | rfl | rfl | ⟨_,⟨v,hv,rfl⟩,rfl⟩
   ·omega
   ·omega
   ·omega
   ·exact (subs_i W _ v hv).1
  have f:=I1.fpOk (H':=H1) hb' (I1.hok.fresh hb')
  exact f
end
end L2
namespace L2
open PySem PySem.Spec PyProof.Rows
theorem relabel_lookup (cs:Scope) (env:Env) (x:Str):(relabel cs env).names.lookup x=(cs.names.lookup x).map fun k=>if (k == .free&&env.scope.kind == .function&&env.kindOf x == some .cell)=true then .cell else k:=by
 unfold relabel
 show List.lookup x (cs.names.map _)=_
 induction cs.names with
 | nil=>rfl
 | cons p r ih=>
  obtain ⟨n,k⟩:=p
  by_cases hx:x=n
  ·subst hx
   rw [List.map_cons]
   simp only [List.lookup_cons]
   split <;> simp_all
  ·have hb:(x == n)=false:=by simpa using hx
   have er:List.lookup x ((n,k)::r)=List.lookup x r:=by rw [List.lookup_cons,hb]
   rw [List.map_cons,er]
   refine Eq.trans ?_ ih
   dsimp only
   by_cases hc:(k == NameKind.free&&env.scope.kind == ScopeKind.function&&env.kindOf n == some NameKind.cell)=true
   ·rw [if_pos hc,List.lookup_cons,hb]
   ·rw [if_neg hc,List.lookup_cons,hb]
theorem closure_of {env : Env} : ∀ (names : List (Str × NameKind)) (cs0 : List (Str × Addr)), (∀ x ∈ names, x.2 = .free -> ∃ c, env.cells.lookup x.1 = some c) -> (∀ x c, cs0.lookup x = some c -> env.cells.lookup x = some c) ->
    ∃ cl, (forIn (m := Sem) names cs0 fun x __s => if (x.snd == NameKind.free) = true then do
              let __do_lift <- cellOf env x.fst
              pure (ForInStep.yield ((x.fst, __do_lift) :: __s))
            else pure (ForInStep.yield __s)) = pure cl /\ (∀ x c, cl.lookup x = some c -> env.cells.lookup x = some c) /\ (∀ x, (x, NameKind.free) ∈ names -> ∃ c, cl.lookup x = some c) /\ ∀ x c, cs0.lookup x = some c -> ∃ c', cl.lookup x = some c' := by
  intro names
  induction names with
  | nil =>
    intro cs0 _ h0
    exact ⟨cs0, by simp only [List.forIn_nil], h0, fun _ h => absurd h List.not_mem_nil, fun _ c h => ⟨c, h⟩⟩
  | cons p r ih =>
    intro cs0 hf h0
    obtain ⟨n, k⟩ := p
    by_cases hk : k = .free
    · subst hk
      obtain ⟨c, hc⟩ := hf (n, .free) List.mem_cons_self rfl
      obtain ⟨cl, e, h1, h2, h3⟩ := ih ((n, c) :: cs0) (fun x hx => hf x (List.mem_cons_of_mem _ hx)) (fun x c' hx => by
        rw [List.lookup_cons] at hx
        split at hx
        · rename_i hb
          have hxn : x = n := by simpa using hb
          cases hx; rw [hxn]; exact hc
        · exact h0 x c' hx)
      have hn : ∃ c', cl.lookup n = some c' := h3 n c (by simp)
      refine ⟨cl, ?_, h1, fun x hx => ?_, fun x c' hx => ?_⟩
      · rw [List.forIn_cons]
        simp only [beq_self_eq_true, if_true, cellOf, hc]
        exact e
      · rcases List.mem_cons.mp hx with q | hx
        · cases q; exact hn
        · exact h2 x hx
      · by_cases hxn : x = n
        · subst hxn; exact hn
        · exact h3 x c' (by
            have hb : (x == n) = false := by simpa using hxn
            rw [List.lookup_cons, hb]; exact hx)
    · have hb : (k == NameKind.free) = false := by simpa using hk
      obtain ⟨cl, e, h1, h2, h3⟩ := ih cs0 (fun x hx => hf x (List.mem_cons_of_mem _ hx)) h0
      refine ⟨cl, ?_, h1, fun x hx => ?_, h3⟩
      · rw [List.forIn_cons]
        simp only [hb, Bool.false_eq_true, if_false]
        exact e
      · rcases List.mem_cons.mp hx with q | hx
        · cases q; exact absurd rfl hk
        · exact h2 x hx
structure CompScope (sc cs:Scope) (N N':List Str):Prop where
 kind:cs.kind=.function
 ncell:∀ x∈cs.names,x.2≠.cell
 loc:∀ x∈cs.names,x.2=.local->cs.names.lookup x.1=some .local
 free:∀ x∈cs.names,x.2=.free->sc.names.lookup x.1=some .cell\/sc.names.lookup x.1=some .free
 nd:N'.Nodup
 len:N.length<=N'.length
 same:∀ i∈List.range N.length,N'[i]?=N[i]?\/∀ x∈N'[i]?,cs.names.lookup x=none
 out:∀ x∈N'.take N.length,cs.names.lookup x≠some .local
abbrev cxComp (X:Cx) (cs:Scope) (cl:List (Str×Addr)) (N':List Str) (ex:List Addr) (s:Shared) (H:Hp):Cx:=
 { X with N:=N',s₀:=s,H₀:=H,env:=compEnvC cs cl s.heap.objs.size X.env,outer:=X.stack,stack:=X.stack,ex:=ex,fn:=fun _=>false,pn:=[],xe:=fun _ _=>False }
def inner (N':List Str) (σ:St):St:=σ++List.replicate (N'.length-σ.length) none
theorem inner_get {N':List Str} {σ:St} {i:Nat} {v:V} (h:(inner N' σ)[i]?=some (some v)):σ[i]?=some (some v):=by
 unfold inner at h
 by_cases hi:i<σ.length
 ·rwa [List.getElem?_append_left hi] at h
 ·rw [List.getElem?_append_right (by omega),List.getElem?_replicate] at h
  split at h <;> cases h
theorem comp_inv {X:Cx} {pins:List (Addr×Obj)} {σ:St} {H:Hp} {s3 s4:Shared} {cs:Scope} {cl:List (Str×Addr)} {N':List Str} {fp:List Addr} {m:Str->Option Value} (S:CompScope X.env.scope cs X.N N') (I:Inv X pins σ H s3)
  (hcl1:∀ x c,cl.lookup x=some c->X.env.cells.lookup x=some c) (hcl2:∀ x,(x,NameKind.free)∈cs.names->∃ c,cl.lookup x=some c) (hf:∀ b∈fp,FpOk X pins H b) (hlt:∀ b∈fp,b<s3.heap.objs.size)
  (kp:∀ b o,s3.heap.get? b=some o->s4.heap.get? b=some o) (hn:s4.heap.Ns s3.heap.objs.size m) (hos:s4.os=s3.os) (hg:s4.gens=s3.gens):Inv (cxComp X cs cl N' fp s3 H) [] (inner N' σ) H s4:=by
 have kcell:∀ {c:Addr} {v:Option Value},s3.heap.IsCell c v->s4.heap.IsCell c v:=fun {c v} z=>by obtain ⟨o,e,d⟩:=z; exact ⟨o,kp c o e,d⟩
 refine ⟨⟨I.ok.mod,S.kind,I.ok.glob,I.ok.blt,Nat.le_refl _,fun x y c h1 h2=>I.ok.inj x y c (hcl1 x c h1) (hcl1 y c h2),fun x hx=>?_,fun x c h _=>absurd (show false=true from h) (by decide),I.ok.hd,I.ok.frames,.inl rfl,fun b hb=>⟨?_,fun x c e=>(hf b hb).2.2.2.2.1 x c (hcl1 x c e)⟩,I.bs,Nat.le_trans I.ok.bsz I.sz,fun b o e hb=>?_,fun b hb hfs=>?_,I.stack,I.stkFree⟩,
  hos,by rw [hg]; exact I.bare,Un.kept kp,⟨m,hn,fun i x v e1 e2 e3=>?_⟩,fun x c e=>?_,I.hok.fresh (Nat.le_refl _),fun x c e=>I.freeC x c (hcl1 x c e),fun p hp=>absurd (show p∈([]:List (Addr×Obj)) from hp) (by simp),I.hok.kept kp,?_⟩
 ·have hx':(relabel cs X.env).names.lookup x=some .cell\/(relabel cs X.env).names.lookup x=some .free:=hx
  rw [relabel_lookup] at hx'
  cases hl:cs.names.lookup x with
  | none=>rw [hl] at hx'; rcases hx' with h | h <;> cases h
  | some k=>
   have hm:=PySem.mem_of_lookup hl
   by_cases hk:k=.free
   ·subst hk; exact hcl2 x hm
   ·exfalso
    have hb:(k == NameKind.free)=false:=by simpa using hk
    rw [hl] at hx'
    simp only [Option.map_some,hb,Bool.false_and,Bool.false_eq_true,if_false] at hx'
    rcases hx' with h | h
    ·cases h; exact S.ncell _ hm rfl
    ·cases h; exact hk rfl
 ·intro q
  have hb':b=s3.heap.objs.size:=q
  exact absurd (hlt b hb) (by rw [hb']; exact Nat.lt_irrefl _)
 ·obtain ⟨f0,f1,f2,f3,f4,f5⟩:=hf b hb
  rcases f3 with z | z
  ·exact I.ok.noex b o e z
  ·exact absurd (Nat.lt_of_lt_of_le (Heap.lt_size (I.ok.bs b o e).1) z) (Nat.lt_irrefl _)
 ·have hfs':b∈frs X.stack:=hfs
  rcases List.mem_cons.mp (I.stkSub b hfs') with z | z
  ·exact (hf b hb).2.1 z
  ·exact (hf b hb).2.2.1 z
 ·have e2':=inner_get e2
  have hi:i<X.N.length:=by rw [<- I.len]; exact (List.getElem?_eq_some_iff.mp e2').1
  have e1':N'[i]?=some x:=e1
  have e3':Vis (relabel cs X.env) x:=e3
  have hv:∃ k,cs.names.lookup x=some k:=by
   unfold Vis at e3'
   rw [relabel_lookup] at e3'
   cases hl:cs.names.lookup x with
   | none=>rw [hl] at e3'; rcases e3' with h | h | h <;> cases h
   | some k=>exact ⟨k,rfl⟩
  obtain ⟨k,hk⟩:=hv
  have hN:X.N[i]?=some x:=by
   rcases S.same i (List.mem_range.mpr hi) with q | q
   ·rw [<- q]; exact e1'
   ·have:=q x (by rw [e1']; rfl)
    rw [hk] at this; cases this
  have hnl:k≠.local:=fun q=>by
   subst q
   exact S.out x (List.mem_of_getElem? (i:=i) (by rw [List.getElem?_take_of_lt hi]; exact e1')) hk
  have hm:=PySem.mem_of_lookup hk
  have hfree:k=.free:=by
   unfold Vis at e3'
   rw [relabel_lookup,hk] at e3'
   by_cases hkf:k=.free
   ·exact hkf
   ·exfalso
    have hb:(k == NameKind.free)=false:=by simpa using hkf
    simp only [Option.map_some,hb,Bool.false_and,Bool.false_eq_true,if_false] at e3'
    rcases e3' with h | h | h
    ·exact hnl (Option.some.inj h)
    ·exact S.ncell _ hm (Option.some.inj h)
    ·exact hkf (Option.some.inj h)
  subst hfree
  obtain ⟨m0,hn0,hl0⟩:=I.loc
  have hvis:Vis X.env.scope x:=by
   rcases S.free _ hm rfl with h | h
   ·exact .inr (.inl h)
   ·exact .inr (.inr h)
  obtain ⟨u,r,l⟩:=hl0 i x v hN e2' hvis
  refine ⟨u,r,.inr ⟨?_,?_⟩⟩
  ·show (relabel cs X.env).names.lookup x=some .cell\/(relabel cs X.env).names.lookup x=some .free
   rw [relabel_lookup,hk]
   show some (if _ then _ else _)=_\/some (if _ then _ else _)=_
   split
   ·exact .inl rfl
   ·exact .inr rfl
  ·obtain ⟨c,hc⟩:=hcl2 x hm
   have hc':=hcl1 x c hc
   rcases l with ⟨q,_⟩ | ⟨_,c',e,z⟩
   ·exfalso
    have q':X.env.scope.names.lookup x=some .local:=q
    rcases S.free _ hm rfl with h | h <;> (rw [q'] at h; cases h)
   ·rw [hc'] at e; cases e
    exact ⟨c,hc,kcell z⟩
 ·obtain ⟨v,z⟩:=I.cell x c (hcl1 x c e)
  exact ⟨v,kcell z⟩
 ·unfold inner
  rw [List.length_append,List.length_replicate,I.len]
  have:=S.len
  show _=N'.length
  omega
def GKeep (n:Nat) (g:TG):Prop:=∀ (v:V) (σ:St) (H:Hp) (Q:St->Hp->Prop),g v σ H Q->g v σ H fun σ2 H2=>Q σ2 H2/\σ2.length=σ.length/\∀ j,j<n->σ2[j]?=σ[j]?
def GKeeps (n:Nat) (g:TGs):Prop:=∀ (vs:List V) (σ:St) (H:Hp) (Q:St->Hp->Prop),g vs σ H Q->g vs σ H fun σ2 H2=>Q σ2 H2/\σ2.length=σ.length/\∀ j,j<n->σ2[j]?=σ[j]?
theorem gk_name {n i:Nat} (h:n<=i):GKeep n (gName i):=fun v σ H Q q=>⟨q,by simp,fun j hj=>List.getElem?_set_ne (by omega)⟩
theorem gk_nil {n:Nat}:GKeeps n gNil:=fun vs σ H Q zz55=>by obtain ⟨e,q⟩:=zz55; exact ⟨e,q,rfl,fun _ _=>rfl⟩
theorem gk_cons {n i:Nat} {u:TGs} (h:n<=i) (hu:GKeeps n u):GKeeps n (gCons (gName i) u):=fun vs σ H Q zz56=>by
 obtain ⟨v,r,e,q⟩:=zz56
 refine ⟨v,r,e,?_⟩
 have q':=hu r (σ.set i (some v)) H Q q
 show u r (σ.set i (some v)) H _
 have e1:∀ σ2:St,(σ2.length=(σ.set i (some v)).length/\∀ j,j<n->σ2[j]?=(σ.set i (some v))[j]?)=(σ2.length=σ.length/\∀ j,j<n->σ2[j]?=σ[j]?):=fun σ2=>by
  have:∀ j,j<n->(σ.set i (some v))[j]?=σ[j]?:=fun j hj=>List.getElem?_set_ne (by omega)
  rw [List.length_set]
  exact propext ⟨fun zz57=>by obtain ⟨a,b⟩:=zz57; exact ⟨a,fun j hj=>(b j hj).trans (this j hj)⟩,fun zz58=>by obtain ⟨a,b⟩:=zz58; exact ⟨a,fun j hj=>(b j hj).trans (this j hj).symm⟩⟩
 have e2:(fun (σ2:St) (H2:Hp)=>Q σ2 H2/\σ2.length=σ.length/\∀ j,j<n->σ2[j]?=σ[j]?)=fun σ2 H2=>Q σ2 H2/\σ2.length=(σ.set i (some v)).length/\∀ j,j<n->σ2[j]?=(σ.set i (some v))[j]?:=by
  funext σ2 H2; rw [e1]
 rw [e2]; exact q'
theorem gk_tup {K:Frag} {n k:Nat} {u:TGs} (hu:GKeeps n u):GKeep n (gTup K k u):=fun v σ H Q zz59=>by obtain ⟨a,xs,e,h1,h2,q⟩:=zz59; exact ⟨a,xs,e,h1,h2,hu xs σ H Q q⟩
def PIf (X:Cx) (ifs:List Expr) (t:TT):Prop:=
 ∀ (pins:List (Addr×Obj)) (s:Shared) (σ:St) (H:Hp) (Q:Bool->Hp->Prop),Inv X pins σ H s->t σ H Q ->
  wpAny (model X.prog X.w) X.A (forIn ifs true fun c r=>if r=true then do let ok <- isTrue c X.env (eval c X.env); pure (ForInStep.yield ok) else pure (ForInStep.yield r)) (TP X pins σ Q) X.xe s
def tYes:TT:=fun _ H Q=>Q true H
theorem pif_nil {X:Cx}:PIf X [] tYes:=fun _ _ _ H _ I h=>wpAny_tests_nil ⟨H,I,h⟩
theorem pif_one {X:Cx} {c:Expr} {t:TT} (h:PT X c t):PIf X [c] t:=fun pins s σ H Q I q=>wpAny_tests_one (h pins s σ H Q I q)
def CompW (J:It) (D:Addr) (g:TG) (tc:TT) (te:TE) (σ':St) (H1:Hp) (Q:Hp->Prop):Prop:=
 ∃ W:Nat->Nat->Hp->Prop,(∃ m,W 0 m (upd H1 D (.lst [])))/\∀ i m H2,W i m H2 ->
  (J.stop i H2/\Q H2)\/(J.go i H2/\∀ x H3,J.yld i H2 x H3->g x σ' H3 fun σ4 H4=>tc σ4 H4 fun b H5=>
   if b=true then te σ4 H5 fun y H6=>∃ ys,H6 D=some (.lst ys)/\ys.length<sizeLine/\∃ m',m'<m/\W (i+1) m' (upd H6 D (.lst (ys ++ [y])))
   else ∃ m',m'<m/\W (i+1) m' H5)
def tComp (N':List Str) (wi:TI) (g:TG) (tc:TT) (te:TE):TE:=fun σ H Q=>wi σ H fun J H1=>∀ D,H1 D=none->CompW J D g tc te (inner N' σ) H1 (Q (.ref D))
section
variable {X:Cx} {cs:Scope} {N':List Str} {tg iter elt:Expr} {ifs:List Expr} {wi:TI} {g:TG} {tc:TT} {te:TE} {pos:Pos}
theorem fp_in {cl:List (Str×Addr)} {pins:List (Addr×Obj)} {fp:List Addr} {H3 H':Hp} {s3:Shared} (hcl1:∀ x c,cl.lookup x=some c->X.env.cells.lookup x=some c) (stk:∀ b∈frs X.stack,b∈X.env.locals::X.fs)
  (hf3:∀ b∈fp,FpOk X pins H3 b) (hlt:∀ b∈fp,b<s3.heap.objs.size) (hn:∀ b∈fp,H' b=none):∀ b∈fp,FpOk (cxComp X cs cl N' fp s3 H3) [] H' b:=fun b hb=>by
 obtain ⟨f0,f1,f2,f3,f4,f5⟩:=hf3 b hb
 refine ⟨hn b hb,Nat.ne_of_lt (hlt b hb),fun hfs=>?_,.inl hb,fun x c e=>f4 x c (hcl1 x c e),fun p hp=>absurd (show p∈([]:List (Addr×Obj)) from hp) (by simp)⟩
 have hfs':b∈frs X.stack:=hfs
 rcases List.mem_cons.mp (stk b hfs') with z | z
 ·exact f1 z
 ·exact f2 z
theorem comp_loop {cl:List (Str×Addr)} {pins:List (Addr×Obj)} {σ:St} {R:Result->Shared->Prop} {Q:Hp->Prop} {s3 s4:Shared} {H3:Hp} {it D:Addr} {fp:List Addr} {tn:Nat->Heap->Prop} {J:It} {W:Nat->Nat->Hp->Prop} {m0:Nat}
  (hc:X.calm=true) (hg:PG (cxComp X cs cl N' fp s3 H3) tg g) (hk:GKeep X.N.length g) (ht:PIf (cxComp X cs cl N' fp s3 H3) ifs tc) (he:PE (cxComp X cs cl N' fp s3 H3) elt te)
  (hcl1:∀ x c,cl.lookup x=some c->X.env.cells.lookup x=some c)
  (I3:Inv X pins σ H3 s3) (I4:Inv (cxComp X cs cl N' fp s3 H3) [] (inner N' σ) H3 s4) (T:Turn X.prog X.w X.K tg J fp it tn) (st:tn 0 s4.heap) (hf3:∀ b∈fp,FpOk X pins H3 b) (hlt:∀ b∈fp,b<s3.heap.objs.size)
  (w0:W 0 m0 H3)
  (turn:∀ i m H2,W i m H2->(J.stop i H2/\Q H2)\/(J.go i H2/\∀ x H3,J.yld i H2 x H3->g x (inner N' σ) H3 fun σ4 H4=>tc σ4 H4 fun b H5=>
   if b=true then te σ4 H5 fun y H6=>∃ ys,H6 D=some (.lst ys)/\ys.length<sizeLine/\∃ m',m'<m/\W (i+1) m' (upd H6 D (.lst (ys ++ [y])))
   else ∃ m',m'<m/\W (i+1) m' H5))
  (hR:∀ (H':Hp) (s':Shared),Inv X pins σ H' s'->Q H'->(∃ m,s'.heap.Ns s3.heap.objs.size m)->FpOk X pins H' s3.heap.objs.size->R (.ok .next) s') :
  codeAny (model X.prog X.w) X.A (.compLoop (.ListComp elt [⟨tg,iter,ifs,0⟩] cs pos) 0 (.ref it) (.ref D) (cxComp X cs cl N' fp s3 H3).env) R s4:=by
 have fpx:∀ {H':Hp},(∀ b∈fp,H' b=none)->∀ b∈fp,FpOk (cxComp X cs cl N' fp s3 H3) [] H' b:=fun hn=>fp_in hcl1 I3.stkSub hf3 hlt hn
 have lσ:(inner N' σ).length=N'.length:=I4.len
 refine codeAny_loop rfl (fun n s'=>∃ i H',Inv (cxComp X cs cl N' fp s3 H3) [] (inner N' σ) H' s'/\tn i s'.heap/\(∀ b∈fp,H' b=none)/\W i n H') (fun n s5 hI=>?_) m0 ⟨0,H3,I4,st,fun b hb=>(hf3 b hb).1,w0⟩
 obtain ⟨i,H5,I5,st5,fr5,w5⟩:=hI
 show wpAny _ _ ((compTurn (.ListComp elt [⟨tg,iter,ifs,0⟩] cs pos) 0 (.ref it) (.ref D) (cxComp X cs cl N' fp s3 H3).env).onRaise _) _ _ s5
 refine wpAny_noted ?_
 rw [compTurn_list]
 refine wpAny_bind (wpAny_standAt (wpAny_bind ?_))
 have cvt:∀ {α:Type} {t:Sem α} {P:α->Shared->Prop} {E':Value->Shared->Prop} {s:Shared},wpAny (model X.prog X.w) X.A t P (fun _ _=>False) s->wpAny (model X.prog X.w) X.A t P E' s:=fun h=>wpAny_mono h (fun _ _ q=>q) fun _ _ q=>q.elim
 rcases turn i n H5 w5 with ⟨stop,q⟩ | ⟨go,step⟩
 ·refine thn (T.done (cxComp X cs cl N' fp s3 H3) rfl rfl rfl hc i [] s5 _ H5 _ I5 (fpx fr5) st5 stop) fun r s6 ⟨hr,I6⟩=>?_
  subst hr
  refine wpAny_pure ?_
  have J6:Inv X pins σ H5 s6:=I3.call' (H':=H5) (ch:=fp) I6.os I6.base I6.hok I6.bare fun b hb=>by
   obtain ⟨f0,f1,f2,f3,f4,f5⟩:=hf3 b hb
   exact ⟨f3,f1,f4,f5⟩
  obtain ⟨m,hn,_⟩:=I6.loc
  exact hR H5 s6 J6 q ⟨m,hn⟩ (I3.fpOk (Nat.le_refl _) I6.free)
 ·refine thn (T.item (cxComp X cs cl N' fp s3 H3) rfl rfl rfl hc i [] s5 _ H5 _ I5 (fpx fr5) st5 go) fun r s6 ⟨u,hr,h6⟩=>?_
  subst hr
  refine wpAny_bind (thn h6 fun _ s7 zz62=>?_)
  obtain ⟨x,H7,I7,r7,y7,st7,fr7⟩:=zz62
  have I7':=I7.pinned (fpx fr7) (T.obj _ _ st7)
  refine wpAny_bind (cvt (thn (hg _ s7 _ H7 x u _ I7' r7 (hk x _ H7 _ (step x H7 y7))) fun _ s8 zz63=>?_))
  obtain ⟨σ8,H8,I8,q8,l8,k8⟩:=zz63
  refine wpAny_bind (cvt (thn (ht _ s8 σ8 H8 _ I8 q8) fun b s9 zz64=>?_))
  obtain ⟨H9,I9,q9⟩:=zz64
  have again:∀ {s':Shared} {H':Hp},Inv (cxComp X cs cl N' fp s3 H3) ([]++pinsAt fp s7.heap) σ8 H' s'->(∃ m',m'<n/\W (i+1) m' H') ->
    ∃ m',m'<n/\∃ i H',Inv (cxComp X cs cl N' fp s3 H3) [] (inner N' σ) H' s'/\tn i s'.heap/\(∀ b∈fp,H' b=none)/\W i m' H':=fun {s' H'} I' zz65=>by
   obtain ⟨m',hm,w'⟩:=zz65
   refine ⟨m',hm,i+1,H',(I'.unpinned).weak (by rw [l8]) (fun j v e=>?_),T.keep _ _ _ st7 fun b hb o e=>(I'.pin (b,o) (List.mem_append_right _ (List.mem_append_right _ (mem_pinsAt hb e)))).1,fun b hb=>?_,w'⟩
   ·have hj:j<X.N.length:=by rw [<- I3.len]; exact (List.getElem?_eq_some_iff.mp (inner_get e)).1
    rw [k8 j hj]; exact e
   ·obtain ⟨o,e,d⟩:=T.obj _ _ st7 b hb
    exact (I'.pin (b,o) (List.mem_append_right _ (List.mem_append_right _ (mem_pinsAt hb e)))).2.1
  cases b with
  | false=>
   have q9':∃ m',m'<n/\W (i+1) m' H9:=q9
   exact wpAny_pure ⟨rfl,again I9 q9'⟩
  | true=>
   have q9':te σ8 H9 _:=q9
   refine wpAny_bind (wpAny_bind (cvt (thn (he _ s9 σ8 H9 _ I9 q9') fun v s10 zz66=>?_)))
   obtain ⟨y,H10,I10,r10,ys,hD,hy,q10⟩:=zz66
   refine wpAny_bind (cvt (thn (mt_append _ s10 σ8 H10 (.ref D) [y] (.ref D) [v] (fun _ H'=>∃ m',m'<n/\W (i+1) m' H') I10 rfl (.cons r10 .nil) ⟨D,ys,y,rfl,rfl,hD,hy,q10⟩) fun _ s11 zz67=>?_))
   obtain ⟨_,H11,I11,_,q11⟩:=zz67
   exact wpAny_pure (wpAny_pure ⟨rfl,again I11 q11⟩)
theorem comp_core {cl:List (Str×Addr)} {pins:List (Addr×Obj)} {σ:St} {R:Value->Addr->Result->Shared->Prop} {Q:V->Hp->Prop} {s2:Shared} {itv:Value} (S:CompScope X.env.scope cs X.N N') (hc:X.calm=true)
  (hg:∀ cl ex s H,PG (cxComp X cs cl N' ex s H) tg g) (hk:GKeep X.N.length g) (ht:∀ cl ex s H,PIf (cxComp X cs cl N' ex s H) ifs tc) (he:∀ cl ex s H,PE (cxComp X cs cl N' ex s H) elt te)
  (hcl1:∀ x c,cl.lookup x=some c->X.env.cells.lookup x=some c) (hcl2:∀ x,(x,NameKind.free)∈cs.names->∃ c,cl.lookup x=some c)
  (h:PIE X pins σ tg (fun J H1=>∀ D,H1 D=none->CompW J D g tc te (inner N' σ) H1 (Q (.ref D))) itv s2)
  (hR:∀ (D C:Addr) (H':Hp) (s':Shared),Inv X pins σ H' s'->Q (.ref D) H'->(∃ m,s'.heap.Ns C m)->FpOk X pins H' C->R (.ref D) C (.ok .next) s') :
  wpAny (model X.prog X.w) X.A (newList []) (fun acc s₃=>wpAny (model X.prog X.w) X.A (newFunctionEnv cs X.env.globals cl [] X.env.qual none .none (some X.env)) (fun cenv s₄=>
   codeAny (model X.prog X.w) X.A (.compStart (.ListComp elt [⟨tg,iter,ifs,0⟩] cs pos) 0 itv acc { cenv with scope:=relabel cs X.env }) (R acc cenv.locals) s₄) X.xe s₃) X.xe s2:=by
 obtain ⟨it,fp,tn,J,H2,e,I2,T,st2,f2,hw⟩:=h
 subst e
 refine wpAny_newObj_type (wpAny_newFunctionEnv S.ncell (by intro y hy; simp at hy) (fun h1 hns1 hsb1=>?_) S.kind)
 dsimp only at hns1 hsb1 ⊢
 have hD:=I2.hok.fresh (Nat.le_refl _)
 obtain ⟨W,⟨m0,w0⟩,turn⟩:=hw s2.heap.objs.size hD
 have I3:Inv X pins σ (upd H2 s2.heap.objs.size (.lst [])) { s2 with heap:=s2.heap.push { cls:=.type "list",dict:=none,data:=.seq ([]:List Value).toArray } }:=I2.lnew (t':=s2.toks) .nil (Nat.zero_le _)
 have hfp3:∀ b∈fp,b<s2.heap.objs.size:=fun b hb=>by
  obtain ⟨o,e,_⟩:=T.obj 0 _ st2 b hb
  exact Heap.lt_size e
 have hf3:∀ b∈fp,FpOk X pins (upd H2 s2.heap.objs.size (.lst [])) b:=fun b hb=>by
  obtain ⟨f0,r⟩:=f2 b hb
  exact ⟨by rw [upd_ne (Nat.ne_of_lt (hfp3 b hb))]; exact f0,r⟩
 have hlt:∀ b∈fp,b<(s2.heap.push { cls:=.type "list",dict:=none,data:=.seq ([]:List Value).toArray }).objs.size:=fun b hb=>by rw [Heap.size_push]; exact Nat.lt_succ_of_lt (hfp3 b hb)
 have kp:∀ b o,(s2.heap.push { cls:=.type "list",dict:=none,data:=.seq ([]:List Value).toArray }).get? b=some o->h1.get? b=some o:=fun b o e=>hsb1.extBut b o (Nat.ne_of_lt (Heap.lt_size e)) (Heap.get?_push_of_some _ e)
 have I4:=comp_inv (cs:=cs) (cl:=cl) (N':=N') (fp:=fp) (s4:={ s2 with heap:=h1,toks:=s2.toks+([]:List (Str×Value)).length }) S I3 hcl1 hcl2 hf3 hlt kp hns1 rfl rfl
 have st4:tn 0 h1:=T.keep 0 _ _ st2 fun b hb o e=>kp b o (Heap.get?_push_of_some _ e)
 have loop:=comp_loop (R:=R (.ref s2.heap.objs.size) (s2.heap.push { cls:=.type "list",dict:=none,data:=.seq ([]:List Value).toArray }).objs.size) (D:=s2.heap.objs.size) (iter:=iter) (pos:=pos) (it:=it) (Q:=Q (.ref s2.heap.objs.size)) hc (hg cl fp _ _) hk (ht cl fp _ _) (he cl fp _ _) hcl1 I3 I4 T st4 hf3 hlt w0 turn fun H' s' I' q n f=>hR _ _ H' s' I' q n f
 exact codeAny_compStart_list loop (T.self _ 0 _ _ _ st4 loop)
theorem pe_comp (S:CompScope X.env.scope cs X.N N') (hc:X.calm=true) (hi:PI X tg iter wi)
  (hg:∀ cl ex s H,PG (cxComp X cs cl N' ex s H) tg g) (hk:GKeep X.N.length g) (ht:∀ cl ex s H,PIf (cxComp X cs cl N' ex s H) ifs tc) (he:∀ cl ex s H,PE (cxComp X cs cl N' ex s H) elt te)
  (hs:∀ x,foldedSetIterable iter X.env x=pure x:=by intro _; rfl):PE X (.ListComp elt [⟨tg,iter,ifs,0⟩] cs pos) (tComp N' wi g tc te):=by
 intro pins s σ H Q I h
 obtain ⟨cl,e,h1,h2,_⟩:=closure_of (env:=X.env) cs.names [] (fun x hx hk=>I.ok.has x.1 (S.free x hx hk)) (fun _ _ z=>nomatch z)
 have hclos:closureFor cs X.env=pure cl:=by
  simp only [closureFor]
  rw [e]; rfl
 rw [eval_ListComp]
 refine wpAny_comprehension_free (use:=none) rfl hs hclos S.kind S.loc (thn (hi pins s σ H _ I h) fun v s1 q1=>thn q1 fun itv s2 q2=>?_)
 refine comp_core (R:=fun acc C=>compPost (model X.prog X.w) X.A X.xe none (EP X pins σ Q) acc C) (Q:=Q) S hc hg hk ht he h1 h2 q2 fun D C H' s' I' q n f=>?_
 obtain ⟨m,hn⟩:=n
 obtain ⟨f0,f1,f2,f3,f4,f5⟩:=f
 exact ⟨m,hn,fun h' sb=>⟨.ref D,H',I'.turned (t':=s'.toks) (fun b o hb e=>sb.extBut b o hb e) f0 f1 f3 f4 f5,rfl,q⟩⟩
theorem ps_setc {i:Nat} {y:Str} {py spos:Pos} (S:CompScope X.env.scope cs X.N N') (hc:X.calm=true) (hi:PI X tg iter wi)
  (hg:∀ cl ex s H,PG (cxComp X cs cl N' ex s H) tg g) (hk:GKeep X.N.length g) (ht:∀ cl ex s H,PIf (cxComp X cs cl N' ex s H) ifs tc) (he:∀ cl ex s H,PE (cxComp X cs cl N' ex s H) elt te)
  (hN:X.N.Nodup) (hy:X.N[i]?=some y) (hl:Loc X.env.scope y)
  (hsw:swapsWith (.ListComp elt [⟨tg,iter,ifs,0⟩] cs pos) (some (.Name y py)) spos.line X.env=pure true:=by rfl) (hf:X.fn y=true\/X.env.scope.names.lookup y=some .local:=by first | exact .inl rfl | exact .inr rfl | assumption)
  (hs:∀ x,foldedSetIterable iter X.env x=pure x:=by intro _; rfl):PS X (.Assign [.Name y py] (.ListComp elt [⟨tg,iter,ifs,0⟩] cs pos) spos) (tAsg (tComp N' wi g tc te) (gName i)):=by
 intro pins s σ H Q I h
 obtain ⟨cl,e,h1,h2,_⟩:=closure_of (env:=X.env) cs.names [] (fun x hx hk=>I.ok.has x.1 (S.free x hx hk)) (fun _ _ z=>nomatch z)
 have hclos:closureFor cs X.env=pure cl:=by
  simp only [closureFor]
  rw [e]; rfl
 rw [exec_Assign_Name_used _ _ _ _ hsw]
 refine wpAny_bind (wpAny_standAt (wpAny_bind ?_))
 show wpAny _ _ (comprehension (.ListComp elt [⟨tg,iter,ifs,0⟩] cs pos) cs X.env _ (newList []) false (eval iter X.env) (some (assign (.Name y py) X.env))>>=_) _ _ s
 refine wpAny_bind (thn (wpAny_comprehension_free (use:=some (assign (.Name y py) X.env)) (Q:=fun _ s'=>SP X pins Q .next s') rfl hs hclos S.kind S.loc (thn (hi pins s σ H _ I h) fun v s1 q1=>thn q1 fun itv s2 q2=>?_)) fun _ s' q=>wpAny_pure (wpAny_pure q))
 refine comp_core (R:=fun acc C=>compPost (model X.prog X.w) X.A X.xe (some (assign (.Name y py) X.env)) (fun _ s'=>SP X pins Q .next s') acc C) (Q:=fun x H1=>gName i x σ H1 Q.nx) S hc hg hk ht he h1 h2 q2 fun D C H' s' I' q n f=>?_
 obtain ⟨m,hn⟩:=n
 obtain ⟨f0,f1,f2,f3,f4,f5⟩:=f
 show wpAny _ _ (assign (.Name y py) X.env (.ref D)) _ _ _
 refine wpAny_assign_Name (store_ok2 (v:=.ref D) (u:=.ref D) I' hN hy hl rfl (fun s'' I'' zz68=>?_) hf)
 obtain ⟨a,sb,ha⟩:=zz68
 have hCa:C≠a:=by
  rcases ha with rfl | ha
  ·exact f1
  ·exact fun q=>f4 _ _ ha q.symm
 refine ⟨m,hn.sameBut sb hCa,fun h' sb'=>?_⟩
 exact ⟨_,H',I''.turned (t':=s''.toks) (fun b o hb e=>sb'.extBut b o hb e) f0 f1 f3 f4 f5,q⟩
end
end L2
namespace L2
open PySem PySem.Spec PyProof.Rows
theorem Sq.same {K:Frag} {H H':Hp} {t:Bool} {a:Addr} {xs:List V} (e:Same H H') (h:Sq K H t a xs):Sq K H' t a xs:=by
 unfold Sq at h ⊢
 split
 ·rename_i ht; rw [if_pos ht] at h
  rcases h with (h | ⟨o,h⟩) | h
  ·exact .inl (.inl (e _ _ h))
  ·exact .inl (.inr ⟨o,e _ _ h⟩)
  ·exact .inr h
 ·rename_i ht; rw [if_neg ht] at h
  exact e.seq h
def seqAt (K:Frag) (H:Hp) (p:Addr) (R:List V->Prop):Prop:=match H p with
 | some (.tup xs)=>R xs
 | some (.lst xs)=>R xs
 | _=>∃ t xs,Sq K H t p xs/\R xs
section
variable {X:Cx}
def ItQ (K:Frag) (t:Bool) (a:Addr):It:=if t=true then Itt K a else Itl K a
def iSq (K:Frag) (tl:TE):TI:=fun σ H R=>tl σ H fun x H1=>∃ a,x=.ref a/\∃ t xs,Sq K H1 t a xs/\R (ItQ K t a) H1
theorem pi_sq {tg l:Expr} {tl:TE} (hl:PE X l tl):PI X tg l (iSq X.K tl):=by
 intro pins s σ H R I h
 refine thn (hl pins s σ H _ I h) fun v s1 zz69=>?_
 obtain ⟨x,H1,I1,r1,q1⟩:=zz69
 obtain ⟨a,e,t,xs,hq,q⟩:=q1
 subst e
 cases r1
 cases t with
 | true=>
  have hq':SqT X.K H1 a xs:=by unfold Sq at hq; rw [if_pos rfl] at hq; exact hq
  obtain ⟨its,rv,p,hz⟩:=I1.tuple hq'
  refine wpAny_pyIter_tuple (show s1.heap.IsTuple a its.toArray from p) ?_
  refine ⟨s1.heap.objs.size,[s1.heap.objs.size],_,Itt X.K a,H1,rfl,I1.kept (t':=s1.toks) fun b o e=>Heap.get?_push_of_some _ e,turn_tuple a _,⟨_,Heap.get?_push_size _ rfl,rfl,rfl⟩,fun b hb=>?_,q⟩
  have e:b=s1.heap.objs.size:=by simpa using hb
  subst e
  exact I1.fpOk (Nat.le_refl _) (I1.hok.fresh (Nat.le_refl _))
 | false=>
  have hq':SqL X.K H1 a xs:=by unfold Sq at hq; rw [if_neg Bool.false_ne_true] at hq; exact hq
  obtain ⟨its,rv,p,hz⟩:=I1.list hq'
  refine wpAny_pyIter_list p.isList ?_
  refine ⟨s1.heap.objs.size,[s1.heap.objs.size],_,Itl X.K a,H1,rfl,I1.kept (t':=s1.toks) fun b o e=>Heap.get?_push_of_some _ e,turn_list a _,⟨_,Heap.get?_push_size _ rfl,rfl,rfl⟩,fun b hb=>?_,q⟩
  have e:b=s1.heap.objs.size:=by simpa using hb
  subst e
  exact I1.fpOk (Nat.le_refl _) (I1.hok.fresh (Nat.le_refl _))
theorem bt_bool:bootBuiltins "bool" = some (.type "bool"):=by decide +kernel
theorem bt_int:bootBuiltins "int" = some (.type "int"):=by decide +kernel
theorem bt_list:bootBuiltins "list" = some (.type "list"):=by decide +kernel
theorem bt_tuple:bootBuiltins "tuple" = some (.type "tuple"):=by decide +kernel
theorem bt_str:bootBuiltins "str" = some (.type "str"):=by decide +kernel
def tyO:Option HO->Option String
 | some (.lst _)=>some "list"
 | some (.tup _)=>some "tuple"
 | some (.dK _)=>some "dict"
 | _=>none
def tyB (H:Hp):V->Option String
 | .non=>some "NoneType"
 | .bl _=>some "bool"
 | .int _=>some "int"
 | .str _=>some "str"
 | .ref a=>tyO (H a)
 | _=>none
def isiB (A T:String):Option Bool:=
 if A=T then some true else if A = "bool" /\ T = "int" then some true
 else if (A = "NoneType" \/ A = "bool" \/ A = "int" \/ A = "str" \/ A = "list" \/ A = "tuple" \/ A = "dict")/\(T = "bool" \/ T = "int" \/ T = "list" \/ T = "tuple") then some false else none
theorem tyB_ok {K:Frag} {H:Hp} {x:V} {A:String} (h:tyB H x=some A):TyOf K H x (.type A):=by
 cases x with
 | non=>cases h; exact .non
 | bl _=>cases h; exact .bl _
 | int _=>cases h; exact .int _
 | str _=>cases h; exact .str _
 | ref a=>
  have h:tyO (H a)=some A:=h
  cases e:H a with
  | none=>rw [e] at h; cases h
  | some o=>
   rw [e] at h
   cases o <;> first | (cases h; exact .lst e) | (cases h; exact .tup e) | (cases h; exact .dK e) | cases h
 | _=>cases h
theorem isiB_ok {K:Frag} {A T:String} {b:Bool} (h:isiB A T=some b):PySem.W.kitOne K (.type A) (.type T)=some b:=by
 unfold isiB at h
 split at h
 ·rename_i e; subst e; cases h
  unfold PySem.W.kitOne
  rw [if_pos (by simp)]
 ·split at h
  ·rename_i e; obtain ⟨rfl,rfl⟩:=e; cases h; with_unfolding_all rfl
  ·split at h
   ·rename_i h1 h2 e
    obtain ⟨e1,e2⟩:=e
    cases h
    rcases e1 with rfl | rfl | rfl | rfl | rfl | rfl | rfl <;> rcases e2 with rfl | rfl | rfl | rfl <;>
     first | exact absurd rfl h1 | exact absurd ⟨rfl,rfl⟩ h2 | with_unfolding_all rfl
   ·cases h
def rIsi:List V->Hp->VK->Prop:=fun xs H Q=>∃ x T,xs = [x,.ty T]/\∃ A,tyB H x=some A/\∃ b,isiB A T=some b/\Q (.bl b) H
theorem call_isi:CallR X (.builtin "isinstance") rIsi:=by
 intro pins s σ H xs us Q I r h
 obtain ⟨x,T,rfl,A,ty,b,e,q⟩:=h
 obtain ⟨u,w',rfl,r1,r2⟩:=vals2 r
 have e2:w'=Value.type T:=r2
 subst e2
 exact isinst_ok I r1 (tyB_ok ty) (isiB_ok e) fun tk=>⟨.bl b,H,I.tok tk,rfl,q⟩
end
theorem isi_bb:isiB "bool" "bool" = some true:=by decide
theorem isi_bi:isiB "bool" "int" = some true:=by decide
theorem isi_ib:isiB "int" "bool" = some false:=by decide
theorem isi_ii:isiB "int" "int" = some true:=by decide
theorem isi_tt:isiB "tuple" "tuple" = some true:=by decide
theorem isi_ll:isiB "list" "list" = some true:=by decide
theorem isi_ni:isiB "NoneType" "int" = some false:=by decide
theorem isi_nb:isiB "NoneType" "bool" = some false:=by decide
theorem isi_si:isiB "str" "int" = some false:=by decide
theorem isi_sb:isiB "str" "bool" = some false:=by decide
theorem isi_li:isiB "list" "int" = some false:=by decide
theorem isi_lb:isiB "list" "bool" = some false:=by decide
theorem isi_ti:isiB "tuple" "int" = some false:=by decide
theorem isi_tb:isiB "tuple" "bool" = some false:=by decide
theorem ixN_int {n:Nat} {i:Int} (h0:0<=i) (h1:i<n):ixN n i=some i.toNat:=by unfold ixN; rw [if_pos h0,if_pos h1]
theorem mem_getD {ms:List Int} {P:Int->Prop} (h:∀ x∈ms,P x) {i:Nat} (hi:i<ms.length):P (ms.getD i 0):=by
 have:ms.getD i 0=ms[i]:=by simp [hi]
 rw [this]; exact h _ (List.getElem_mem hi)
structure Runs (J:It) (n:Nat) (H1:Hp) (Y:Nat->V->Hp->Hp->Prop):Prop where
 go:∀ i H,i<n->Same H1 H->J.go i H
 stop:∀ H,Same H1 H->J.stop n H
 yld:∀ i H x H',i<n->Same H1 H->J.yld i H x H'->Y i x H H'
theorem runs_zip2 {K:Frag} {t u:Bool} {a b:Addr} {xs ys:List V} {H1:Hp} (h:Sq K H1 t a xs) (h':Sq K H1 u b ys) :
  Runs (ItZ K [(t,a),(u,b)]) (min xs.length ys.length) H1 fun i x H H'=>∃ p y z,x=.ref p/\H p=none/\H'=upd H p (.tup [y,z])/\xs[i]?=some y/\ys[i]?=some z:=by
 refine ⟨fun i H hi s v hv=>?_,fun H s=>⟨fun v hv=>?_,?_⟩,fun i H x H' hi s hy=>?_⟩
 ·simp only [List.mem_cons,List.not_mem_nil,or_false] at hv
  rcases hv with rfl | rfl
  ·exact ⟨xs,xs[i]'(Nat.lt_of_lt_of_le hi (Nat.min_le_left _ _)),Sq.same s h,by simp⟩
  ·exact ⟨ys,ys[i]'(Nat.lt_of_lt_of_le hi (Nat.min_le_right _ _)),Sq.same s h',by simp⟩
 ·simp only [List.mem_cons,List.not_mem_nil,or_false] at hv
  rcases hv with rfl | rfl
  ·exact ⟨xs,Sq.same s h⟩
  ·exact ⟨ys,Sq.same s h'⟩
 ·rcases Nat.le_total xs.length ys.length with q | q
  ·exact ⟨(t,a),by simp,xs,Sq.same s h,by omega⟩
  ·exact ⟨(u,b),by simp,ys,Sq.same s h',by omega⟩
 ·obtain ⟨p,zs,e1,e2,e3,pr⟩:=hy
  cases pr with
  | cons r1 pr=>
   cases pr with
   | cons r2 pr=>
    cases pr
    exact ⟨p,_,_,e1,e2,e3,r1 xs (Sq.same s h),r2 ys (Sq.same s h')⟩
theorem runs_zip3 {K:Frag} {t u w:Bool} {a b c:Addr} {xs ys zs:List V} {H1:Hp} (h:Sq K H1 t a xs) (h':Sq K H1 u b ys) (h'':Sq K H1 w c zs) :
  Runs (ItZ K [(t,a),(u,b),(w,c)]) (min xs.length (min ys.length zs.length)) H1 fun i x H H'=>∃ p y z v,x=.ref p/\H p=none/\H'=upd H p (.tup [y,z,v])/\xs[i]?=some y/\ys[i]?=some z/\zs[i]?=some v:=by
 refine ⟨fun i H hi s v hv=>?_,fun H s=>⟨fun v hv=>?_,?_⟩,fun i H x H' hi s hy=>?_⟩
 ·simp only [List.mem_cons,List.not_mem_nil,or_false] at hv
  rcases hv with rfl | rfl | rfl
  ·exact ⟨xs,xs[i]'(Nat.lt_of_lt_of_le hi (Nat.min_le_left _ _)),Sq.same s h,by simp⟩
  ·exact ⟨ys,ys[i]'(Nat.lt_of_lt_of_le hi (Nat.le_trans (Nat.min_le_right _ _) (Nat.min_le_left _ _))),Sq.same s h',by simp⟩
  ·exact ⟨zs,zs[i]'(Nat.lt_of_lt_of_le hi (Nat.le_trans (Nat.min_le_right _ _) (Nat.min_le_right _ _))),Sq.same s h'',by simp⟩
 ·simp only [List.mem_cons,List.not_mem_nil,or_false] at hv
  rcases hv with rfl | rfl | rfl
  ·exact ⟨xs,Sq.same s h⟩
  ·exact ⟨ys,Sq.same s h'⟩
  ·exact ⟨zs,Sq.same s h''⟩
 ·have:min xs.length (min ys.length zs.length)=xs.length\/min xs.length (min ys.length zs.length)=ys.length\/min xs.length (min ys.length zs.length)=zs.length:=by omega
  rcases this with q | q | q
  ·exact ⟨(t,a),by simp,xs,Sq.same s h,by omega⟩
  ·exact ⟨(u,b),by simp,ys,Sq.same s h',by omega⟩
  ·exact ⟨(w,c),by simp,zs,Sq.same s h'',by omega⟩
 ·obtain ⟨p,vs,e1,e2,e3,pr⟩:=hy
  cases pr with
  | cons r1 pr=>
   cases pr with
   | cons r2 pr=>
    cases pr with
    | cons r3 pr=>
     cases pr
     exact ⟨p,_,_,_,e1,e2,e3,r1 xs (Sq.same s h),r2 ys (Sq.same s h'),r3 zs (Sq.same s h'')⟩
structure Def (K:Frag) (mg:Str->Option Value) (x:Str) (st:Stmt) (ps:List Str) (f:Addr) (fd:FuncData):Prop where
 F:Fun K x x st f fd
 m:mg x=some (.ref f)
 b:Binds K fd ps []
section
variable {X:Cx}
theorem pg_tupK (K:Frag) {es:List Expr} {pos:Pos} {k:Nat} {t:TGs} (n:Nat) (hc:X.calm=true) (h:PGs X es t) (hK:X.K=K:=by rfl)
  (hn:(assignEach es X.env).length=n:=by rfl) (hst:(assignEach es X.env).findIdx? (·.1)=none:=by rfl):PG X (.Tuple es k pos) (gTup K n t):=by subst hK; exact pg_tup hc h hn hst
def tApp (to:TE) (te:TE):TE:=fun σ H Q=>to σ H fun x H1=>∃ p,x=.ref p/\(∃ xs,H1 p=some (.lst xs))/\te σ H1 fun y H2=>match H2 p with
 | some (.lst xs)=>xs.length<sizeLine/\Q .non (upd H2 p (.lst (xs ++ [y])))
 | _=>False
theorem pe_append {o e:Expr} {to te:TE} {apos cpos:Pos} (ho:PE X o to) (ha:PE X e te)
  (hbase:attributeBase o "append" X.env (eval o X.env)=eval o X.env:=by rfl)
  (hfew:((backTo cpos (starEach [e] X.env)).all (fun x=>!x.1)&&(backToKw cpos (keywordEach [] X.env)).all (fun x=>x.1.isSome)
   && decide (([e]:List Expr).length+([]:List Keyword).length+(if ([]:List Keyword).isEmpty then 0 else 1)<30))=true:=by rfl)
  (hline:(apos.endLine == cpos.line)=true:=by rfl) (hs:starEach [e] X.env=(false,eval e X.env)::starEach [] X.env:=by rfl):PE X (.Call (.Attribute o "append" apos) [e] [] cpos) (tApp to te):=by
 intro pins s σ H Q I h
 refine wpAny_Call_method_late hbase hfew hline rfl (thn (ho pins s σ H _ I h) fun v s1 zz70=>?_)
 obtain ⟨x,H1,I1,r1,p,ex,⟨xs,e1⟩,q1⟩:=zz70
 subst ex
 obtain ⟨h1,h2⟩:=tyV_is (T := "list") I1 r1 (.inl ⟨rfl,xs,SqL.of e1⟩)
 refine ⟨"list", "list.append",PySem.F.plainAttrs_list,PySem.F.slot_list_append,PySem.F.type_list_append,h1,h2,?_⟩
 have hA:=pa_cons ha pa_nil hs cpos pins s1 σ H1 (fun vs H2=>∃ y,vs = [y]/\match H2 p with
  | some (.lst xs)=>xs.length<sizeLine/\Q .non (upd H2 p (.lst (xs ++ [y])))
  | _=>False) I1 (by
   have e:(fun (y:V) (H2:Hp)=>match H2 p with
     | some (.lst xs)=>xs.length<sizeLine/\Q .non (upd H2 p (.lst (xs ++ [y])))
     | _=>False)=fun (y:V) (H2:Hp)=>∃ y',[y] = [y']/\match H2 p with
     | some (.lst xs)=>xs.length<sizeLine/\Q .non (upd H2 p (.lst (xs ++ [y'])))
     | _=>False:=by
    funext y H2
    exact propext ⟨fun q=>⟨y,rfl,q⟩,fun zz71=>by obtain ⟨y',e,q⟩:=zz71; cases e; exact q⟩
   rw [e] at q1
   exact q1)
 rw [hs] at hA ⊢
 refine Calls.callWith_builtin rfl (Calls.evalArgs_plain ?_)
 refine thn hA fun us s2 zz72=>?_
 obtain ⟨vs,H2,I2,r2,y,ev,q2⟩:=zz72
 subst ev
 refine mt_append pins s2 σ H2 (.ref p) [y] v us Q I2 r1 r2 ?_
 split at q2
 ·rename_i ys e2; exact ⟨p,ys,y,rfl,rfl,e2,q2.1,q2.2⟩
 ·exact q2.elim
end
def rSlA (K:Frag):V->Option Int->Option Int->Hp->VK->Prop:=fun x lo hi H Q=>∃ p,x=.ref p/\∃ xs,SqL K H p xs/\∀ l,H l=none->Q (.ref l) (upd H l (.lst (cutV xs lo hi)))
section
variable {X:Cx}
end
def CPowB (i j:Int):Prop:=0<=j/\(Builtin.Int.intBits i:Int)*j<=2^27
theorem some_getD {ns:List Int} {i:Nat} (h:i<ns.length):ns[i]?=some (ns.getD i 0):=by rw [List.getD_eq_getElem?_getD]; simp [h]
end L2
namespace TP
open PySem L2
inductive W where
 | non | bl (b:Bool) | int (i:Int) | str (x:Str) | ty (n:String) | tup (ws:List W) | lst (ws:List W) | scr (ws:List W)
 | exc (c:Str) (i:Option Int) | cls (c:Str) | dst (z:Bool) (a:Addr) (ks:List Str) (ws:List W)
def XD (F:Hp) (od:Option Addr):Option Int->Prop
 | none=>od=none
 | some i=>∃ d,od=some d/\F d=some (.xd [("at",.int i)])
mutual
inductive Rep (K:Frag) (F:Hp):V->W->Prop where
 | non:Rep K F .non .non
 | bl {b:Bool}:Rep K F (.bl b) (.bl b)
 | int {i:Int}:Rep K F (.int i) (.int i)
 | str {x:Str}:Rep K F (.str x) (.str x)
 | ty {n:String}:Rep K F (.ty n) (.ty n)
 | tup {a:Addr} {vs:List V} {ws:List W}:F a=some (.tup vs)->Reps K F vs ws->Rep K F (.ref a) (.tup ws)
 | lst {a:Addr} {vs:List V} {ws:List W}:F a=some (.lst vs)->Reps K F vs ws->Rep K F (.ref a) (.lst ws)
 | scr {a:Addr} {vs:List V} {ws:List W}:SqL K F a vs->Reps K F vs ws->Rep K F (.ref a) (.scr ws)
 | exc {a C:Addr} {o:Obj} {vs:Array Value} {c:Str} {i:Option Int}:F a=some (.ext fun h=>h.get? a=some o)->o.cls=.ref C->o.data=.fields vs->PySem.W.nsIn K mainGlobals c=some (some (.ref C))->XD F o.dict i->Rep K F (.ref a) (.exc c i)
 | cls {C:Addr} {c:Str}:PySem.W.nsIn K mainGlobals c=some (some (.ref C))->Rep K F (.ref C) (.cls c)
 | dct {a:Addr} {o:Obj} {c:Str}:F a=some (.ext fun h=>h.get? a=some o)->o.cls=.type "dict" -> (∀ C,PySem.W.nsIn K mainGlobals c≠some (some (.ref C)))->Rep K F (.ref a) (.exc c none)
 | dst {a:Addr} {kvs:List (Key×V)} {ks:List Str} {ws:List W}:F a=some (.dK kvs)->kvs.map (·.1)=ks.map Sum.inr->Reps K F (kvs.map (·.2)) ws->Rep K F (.ref a) (.dst false a ks ws)
 | dsz {a:Addr} {o:Obj} {kvs:List (Key×V)} {ks:List Str} {ws:List W}:F a=some (.frz o (.dK kvs))->kvs.map (·.1)=ks.map Sum.inr->Reps K F (kvs.map (·.2)) ws->Rep K F (.ref a) (.dst true a ks ws)
inductive Reps (K:Frag) (F:Hp):List V->List W->Prop where
 | nil:Reps K F [] []
 | cons {v:V} {w:W} {vs:List V} {ws:List W}:Rep K F v w->Reps K F vs ws->Reps K F (v::vs) (w::ws)
end
section
variable {K:Frag} {F F':Hp}
theorem sqT_same {a:Addr} {xs:List V} (e:Same F F') (h:SqT K F a xs):SqT K F' a xs:=by
 rcases h with (h | ⟨o,h⟩) | h
 ·exact .inl (.inl (e _ _ h))
 ·exact .inl (.inr ⟨o,e _ _ h⟩)
 ·exact .inr h
theorem XD.same (e:Same F F') {od:Option Addr}:∀ {i:Option Int},XD F od i->XD F' od i:=by
 intro i h
 cases i with
 | none=>exact h
 | some _=>obtain ⟨d,h1,h2⟩:=h; exact ⟨d,h1,e _ _ h2⟩
theorem Rep.same (e:Same F F') {v:V} {w:W} (r:Rep K F v w):Rep K F' v w:=
 @Rep.rec K F (fun v w _=>Rep K F' v w) (fun vs ws _=>Reps K F' vs ws) .non .bl .int .str .ty (fun h _ r=>.tup (e _ _ h) r) (fun h _ r=>.lst (e _ _ h) r) (fun h _ r=>.scr (Same.seq e h) r) (fun h1 h2 h3 h4 h5=>.exc (e _ _ h1) h2 h3 h4 (XD.same e h5)) (fun h=>.cls h) (fun h1 h2 h3=>.dct (e _ _ h1) h2 h3) (fun h e1 _ r=>.dst (e _ _ h) e1 r) (fun h e1 _ r=>.dsz (e _ _ h) e1 r) .nil (fun _ _ a b=>.cons a b) v w r
theorem Reps.same (e:Same F F') {vs:List V} {ws:List W} (r:Reps K F vs ws):Reps K F' vs ws:=
 @Reps.rec K F (fun _ _ _=>True) (fun vs ws _=>Reps K F' vs ws) trivial trivial trivial trivial trivial (fun _ _ _=>trivial) (fun _ _ _=>trivial) (fun _ _ _=>trivial) (fun _ _ _ _ _=>trivial) (fun _=>trivial) (fun _ _ _=>trivial) (fun _ _ _ _=>trivial) (fun _ _ _ _=>trivial) .nil (fun h _ _ b=>.cons (Rep.same e h) b) vs ws r
theorem Reps.ind {P:List V->List W->Prop} (h0:P [] []) (h1:∀ {v:V} {w:W} {vs:List V} {ws:List W},Rep K F v w->Reps K F vs ws->P vs ws->P (v::vs) (w::ws)) {vs:List V} {ws:List W} (r:Reps K F vs ws):P vs ws:=
 @Reps.rec K F (fun _ _ _=>True) (fun vs ws _=>P vs ws) trivial trivial trivial trivial trivial (fun _ _ _=>trivial) (fun _ _ _=>trivial) (fun _ _ _=>trivial) (fun _ _ _ _ _=>trivial) (fun _=>trivial) (fun _ _ _=>trivial) (fun _ _ _ _=>trivial) (fun _ _ _ _=>trivial) h0 (fun h r _ b=>h1 h r b) vs ws r
def RepI (K:Frag) (F:Hp) (v:V):W->Prop
 | .non=>v=.non
 | .bl b=>v=.bl b
 | .int i=>v=.int i
 | .str x=>v=.str x
 | .ty n=>v=.ty n
 | .tup ws=>∃ a vs,v=.ref a/\F a=some (.tup vs)/\Reps K F vs ws
 | .lst ws=>∃ a vs,v=.ref a/\F a=some (.lst vs)/\Reps K F vs ws
 | .scr ws=>∃ a vs,v=.ref a/\SqL K F a vs/\Reps K F vs ws
 | .exc _ _=>True
 | .cls _=>True
 | .dst z a ks ws=>∃ kvs,v=.ref a/\(if z then ∃ o,F a=some (.frz o (.dK kvs)) else F a=some (.dK kvs))/\kvs.map (·.1)=ks.map Sum.inr/\Reps K F (kvs.map (·.2)) ws
theorem Rep.inv {v:V} {w:W} (r:Rep K F v w):RepI K F v w:=
 @Rep.rec K F (fun v w _=>RepI K F v w) (fun _ _ _=>True) rfl rfl rfl rfl rfl (fun h r _=>⟨_,_,rfl,h,r⟩) (fun h r _=>⟨_,_,rfl,h,r⟩) (fun h r _=>⟨_,_,rfl,h,r⟩) (fun _ _ _ _ _=>trivial) (fun _=>trivial) (fun _ _ _=>trivial) (fun h e r _=>⟨_,rfl,h,e,r⟩) (fun h e r _=>⟨_,rfl,⟨_,h⟩,e,r⟩) trivial (fun _ _ _ _=>trivial) v w r
def RepsI (K:Frag) (F:Hp) (vs:List V):List W->Prop
 | []=>vs = []
 | w::ws=>∃ v us,vs=v::us/\Rep K F v w/\Reps K F us ws
theorem Reps.length {vs:List V} {ws:List W} (r:Reps K F vs ws):vs.length=ws.length:=
 Reps.ind (P:=fun vs ws=>vs.length=ws.length) rfl (fun _ _ h=>congrArg (·+1) h) r
theorem Reps.get {vs:List V} {ws:List W} {i:Nat} {w:W} (r:Reps K F vs ws):ws[i]?=some w->∃ v,vs[i]?=some v/\Rep K F v w:=
 Reps.ind (P:=fun vs ws=>∀ (i:Nat) (w:W),ws[i]?=some w->∃ v,vs[i]?=some v/\Rep K F v w) (fun i w e=>by cases e) (fun h _ b i w e=>by
  cases i with
  | zero=>cases e; exact ⟨_,rfl,h⟩
  | succ i=>exact b i w e) r i w
theorem Reps.get' {vs:List V} {ws:List W} {i:Nat} {v:V} (r:Reps K F vs ws):vs[i]?=some v->∃ w,ws[i]?=some w/\Rep K F v w:=
 Reps.ind (P:=fun vs ws=>∀ (i:Nat) (v:V),vs[i]?=some v->∃ w,ws[i]?=some w/\Rep K F v w) (fun i w e=>by cases e) (fun h _ b i w e=>by
  cases i with
  | zero=>cases e; exact ⟨_,rfl,h⟩
  | succ i=>exact b i w e) r i v
theorem Reps.append {vs us:List V} {ws xs:List W} (r:Reps K F vs ws) (s:Reps K F us xs):Reps K F (vs++us) (ws++xs):=
 Reps.ind (P:=fun vs ws=>Reps K F (vs++us) (ws++xs)) s (fun h _ b=>.cons h b) r
theorem Reps.take {vs:List V} {ws:List W} (n:Nat) (r:Reps K F vs ws):Reps K F (vs.take n) (ws.take n):=
 Reps.ind (P:=fun vs ws=>∀ n,Reps K F (vs.take n) (ws.take n)) (fun n=>by simpa using .nil) (fun h _ b n=>by
  cases n with
  | zero=>exact .nil
  | succ n=>exact .cons h (b n)) r n
theorem Reps.drop {vs:List V} {ws:List W} (n:Nat) (r:Reps K F vs ws):Reps K F (vs.drop n) (ws.drop n):=
 Reps.ind (P:=fun vs ws=>∀ n,Reps K F (vs.drop n) (ws.drop n)) (fun n=>by simpa using .nil) (fun h r b n=>by
  cases n with
  | zero=>exact .cons h r
  | succ n=>exact b n) r n
theorem Reps.snoc {vs:List V} {ws:List W} {v:V} {w:W} (r:Reps K F vs ws) (h:Rep K F v w):Reps K F (vs ++ [v]) (ws ++ [w]):=r.append (.cons h .nil)
end
mutual
def noL:W->Bool
 | .lst _=>false
 | .scr _=>false
 | .dst _ _ _ _=>false
 | .tup ws=>noLs ws
 | _=>true
def noLs:List W->Bool
 | []=>true
 | w::ws=>noL w&&noLs ws
end
def isL:HO->Bool
 | .lst _=>true
 | .dT _=>true
 | .dK _=>true
 | .frz _ (.lst _)=>true
 | .frz _ (.dK _)=>true
 | _=>false
def join (H0 G:Hp):Hp:=fun a=>match H0 a with
 | some o=>if isL o then some o else G a
 | none=>G a
inductive Sl where
 | un | val (w:W) | par (w:W) | own (ws:List W) | dic (ks:List (List Int)) | dik (ks:List Int) | iop (p:Addr) (ws:List W) | hz (w:W) | dos (kw:List Str×List W)
abbrev Rho:=List Sl
def noLG (G:Hp):Hp:=fun a=>match G a with
 | some o=>if isL o then none else some o
 | none=>none
theorem noLG_same {G G':Hp} (h:Same G G'):Same (noLG G) (noLG G'):=fun a o e=>by
 unfold noLG at e ⊢
 cases q:G a with
 | none=>rw [q] at e; cases e
 | some u=>rw [q] at e; rw [h a u q]; exact e
theorem noLG_sub {G:Hp}:Same (noLG G) G:=fun a o e=>by
 unfold noLG at e
 cases q:G a with
 | none=>rw [q] at e; cases e
 | some u=>
  rw [q] at e
  dsimp only at e
  cases hl:isL u
  ·rw [hl] at e; exact e
  ·rw [hl] at e; cases e
def DkR (K:Frag) (G:Hp) (kvs:List (Key×V)) (kw:List Str×List W):Prop:=kvs.map (·.1)=kw.1.map Sum.inr/\Reps K G (kvs.map (·.2)) kw.2
theorem DkR.same {K:Frag} {G G':Hp} {kvs:List (Key×V)} {kw:List Str×List W} (h:DkR K G kvs kw) (s:Same G G'):DkR K G' kvs kw:=⟨h.1,h.2.same s⟩
def SlR (K:Frag) (H0 G H:Hp):Sl->Option V->Prop
 | .un,_=>True
 | .val w,o=>∃ v,o=some v/\Rep K G v w
 | .par w,o=>∃ v,o=some v/\Rep K (join H0 G) v w
 | .own ws,o=>∃ a vs,o=some (.ref a)/\H a=some (.lst vs)/\G a=none/\H0 a=none/\Reps K G vs ws
 | .dic ks,o=>∃ (a:Addr) (kvs:List (List Key×V)),o=some (.ref a)/\H a=some (.dT kvs)/\G a=none/\H0 a=none/\kvs.map (·.1)=ks.map fun k=>k.map Sum.inl
 | .dik ks,o=>∃ (a:Addr) (kvs:List (Key×V)),o=some (.ref a)/\H a=some (.dK kvs)/\G a=none/\H0 a=none/\kvs.map (·.1)=ks.map Sum.inl
 | .iop p ws,o=>o=some (.ref p)/\∃ vs,H0 p=some (.lst vs)/\Reps K G vs ws
 | .hz w,o=>∃ v,o=some v/\Rep K (join H0 (noLG G)) v w
 | .dos kw,o=>∃ a kvs,o=some (.ref a)/\H a=some (.dK kvs)/\G a=none/\H0 a=none/\DkR K G kvs kw
structure PIv (K:Frag) (H0 G:Hp) (ρ:Rho) (σ:St) (H:Hp):Prop where
 g0:∀ a o,H0 a=some o->isL o=false->G a=some o
 gl:∀ a o,H0 a=some o->isL o=true->G a=none
 gh:Same G H
 hh:Same H0 H
 len:ρ.length=σ.length
 sl:∀ (i:Nat) (x:Sl) (o:Option V),ρ[i]?=some x->σ[i]?=some o->SlR K H0 G H x o
 ne:∀ (i j:Nat) (ws us:List W) (a:Addr),i≠j->ρ[i]?=some (.own ws)->ρ[j]?=some (.own us)->σ[i]?=some (some (.ref a))->σ[j]?≠some (some (.ref a))
 nd:∀ (i j:Nat) (ws us:List Str×List W) (a:Addr),i≠j->ρ[i]?=some (.dos ws)->ρ[j]?=some (.dos us)->σ[i]?=some (some (.ref a))->σ[j]?≠some (some (.ref a))
structure Ext (G H G' H':Hp):Prop where
 gg:Same G G'
 hh:Same H H'
 gh:Same G' H'
 keep:∀ a o,H a=some o->isL o=true->G a=none->G' a=none
theorem Ext.refl {G H:Hp} (h:Same G H):Ext G H G H:=⟨Same.refl G,Same.refl H,h,fun _ _ _ _ e=>e⟩
theorem Ext.trans {G H G1 H1 G2 H2:Hp} (a:Ext G H G1 H1) (b:Ext G1 H1 G2 H2):Ext G H G2 H2:=
 ⟨a.gg.trans b.gg,a.hh.trans b.hh,b.gh,fun x o h l e=>b.keep x o (a.hh x o h) l (a.keep x o h l e)⟩
section
variable {K:Frag} {H0 G H G' H':Hp} {ρ:Rho} {σ:St}
theorem join_same (h:Same G G'):Same (join H0 G) (join H0 G'):=fun a o e=>by
 unfold join at e ⊢
 cases q:H0 a with
 | none=>rw [q] at e; exact h a o e
 | some u=>
  rw [q] at e
  dsimp only at e ⊢
  by_cases hl:isL u=true
  ·rw [if_pos hl] at e ⊢; exact e
  ·rw [if_neg hl] at e ⊢; exact h a o e
theorem PIv.G_join (I:PIv K H0 G ρ σ H):Same G (join H0 G):=fun a o e=>by
 unfold join
 cases q:H0 a with
 | none=>exact e
 | some u=>
  dsimp only
  by_cases hl:isL u=true
  ·rw [I.gl a u q hl] at e; cases e
  ·rw [if_neg hl]; exact e
theorem PIv.join_H (I:PIv K H0 G ρ σ H):Same (join H0 G) H:=fun a o e=>by
 unfold join at e
 cases q:H0 a with
 | none=>rw [q] at e; exact I.gh a o e
 | some u=>
  rw [q] at e
  dsimp only at e
  by_cases hl:isL u=true
  ·rw [if_pos hl] at e; cases e; exact I.hh a _ q
  ·rw [if_neg hl] at e; exact I.gh a o e
theorem PIv.ext (I:PIv K H0 G ρ σ H) (x:Ext G H G' H'):PIv K H0 G' ρ σ H' where
 g0 a o e l:=x.gg a o (I.g0 a o e l)
 gl a o e l:=x.keep a o (I.hh a o e) l (I.gl a o e l)
 gh:=x.gh
 hh:=I.hh.trans x.hh
 len:=I.len
 sl i s o h1 h2:=by
  have:=I.sl i s o h1 h2
  cases s with
  | un=>trivial
  | val w=>obtain ⟨v,e,r⟩:=this; exact ⟨v,e,r.same x.gg⟩
  | par w=>obtain ⟨v,e,r⟩:=this; exact ⟨v,e,r.same (join_same x.gg)⟩
  | own ws=>
   obtain ⟨a,vs,e,h,g,h0,r⟩:=this
   exact ⟨a,vs,e,x.hh a _ h,x.keep a _ h rfl g,h0,r.same x.gg⟩
  | dic ks=>
   obtain ⟨a,kvs,e,h,g,h0,r⟩:=this
   exact ⟨a,kvs,e,x.hh a _ h,x.keep a _ h rfl g,h0,r⟩
  | dik ks=>
   obtain ⟨a,kvs,e,h,g,h0,r⟩:=this
   exact ⟨a,kvs,e,x.hh a _ h,x.keep a _ h rfl g,h0,r⟩
  | iop p ws=>
   obtain ⟨e,vs,h,r⟩:=this
   exact ⟨e,vs,h,r.same x.gg⟩
  | hz w=>obtain ⟨v,e,r⟩:=this; exact ⟨v,e,r.same (join_same (noLG_same x.gg))⟩
  | dos kw=>
   obtain ⟨a,vs,e,h,g,h0,r⟩:=this
   exact ⟨a,vs,e,x.hh a _ h,x.keep a _ h rfl g,h0,r.same x.gg⟩
 ne:=I.ne
 nd:=I.nd
theorem join_noL {a:Addr} {o:HO} (h:join H0 G a=some o) (l:isL o=false):G a=some o:=by
 unfold join at h
 cases q:H0 a with
 | none=>rw [q] at h; exact h
 | some u=>
  rw [q] at h
  dsimp only at h
  by_cases hl:isL u=true
  ·rw [if_pos hl] at h; cases h; rw [hl] at l; cases l
  ·rw [if_neg hl] at h; exact h
theorem XD.clean {od:Option Addr}:∀ {i:Option Int},XD (join H0 G) od i->XD G od i
 | none,h=>h
 | some _,⟨d,h1,h2⟩=>⟨d,h1,join_noL h2 rfl⟩
theorem Rep.clean (I:PIv K H0 G ρ σ H) {v:V} {w:W} (r:Rep K (join H0 G) v w):noL w=true->Rep K G v w:=
 @Rep.rec K (join H0 G) (fun v w _=>noL w=true->Rep K G v w) (fun vs ws _=>noLs ws=true->Reps K G vs ws) (fun _=>.non) (fun _=>.bl) (fun _=>.int) (fun _=>.str) (fun _=>.ty)
  (fun h _ r n=>.tup (join_noL h rfl) (r n)) (fun _ _ _ n=>by cases n) (fun _ _ _ n=>by cases n) (fun h1 h2 h3 h4 h5 _=>.exc (join_noL h1 rfl) h2 h3 h4 (XD.clean h5)) (fun h _=>.cls h) (fun h1 h2 h3 _=>.dct (join_noL h1 rfl) h2 h3) (fun _ _ _ _ n=>by cases n) (fun _ _ _ _ n=>by cases n) (fun _=>.nil)
  (fun _ _ a b n=>by rw [noLs,Bool.and_eq_true] at n; exact .cons (a n.1) (b n.2)) v w r
theorem Reps.clean (I:PIv K H0 G ρ σ H) {vs:List V} {ws:List W} (r:Reps K (join H0 G) vs ws):noLs ws=true->Reps K G vs ws:=
 @Reps.rec K (join H0 G) (fun _ _ _=>True) (fun vs ws _=>noLs ws=true->Reps K G vs ws) trivial trivial trivial trivial trivial (fun _ _ _=>trivial) (fun _ _ _=>trivial) (fun _ _ _=>trivial) (fun _ _ _ _ _=>trivial) (fun _=>trivial) (fun _ _ _=>trivial) (fun _ _ _ _=>trivial) (fun _ _ _ _=>trivial) (fun _=>.nil)
  (fun h _ _ b n=>by rw [noLs,Bool.and_eq_true] at n; exact .cons (Rep.clean I h n.1) (b n.2)) vs ws r
end
structure XW where
 cls:Str
 at_:Option Int
inductive R (α:Type) where
 | ok (a:α) | ex (e:XW) | stuck
def R.bind {α β:Type} (x:R α) (f:α->R β):R β:=match x with
 | .ok a=>f a
 | .ex e=>.ex e
 | .stuck=>.stuck
instance:Monad R where
 pure:=R.ok
 bind:=R.bind
@[simp] theorem R.ok_bind {α β:Type} (a:α) (f:α->R β):((R.ok a:R α)>>=f)=f a:=rfl
@[simp] theorem R.stuck_bind {α β:Type} (f:α->R β):((R.stuck:R α)>>=f)=.stuck:=rfl
@[simp] theorem R.ex_bind {α β:Type} (e:XW) (f:α->R β):((R.ex e:R α)>>=f)=.ex e:=rfl
@[simp] theorem R.pure_eq {α:Type} (a:α):(pure a:R α)=.ok a:=rfl
inductive Mode where
 | F | V | U | C | B
def Md (K:Frag) (H0 H G' H':Hp) (v:V) (w:W):Mode->Prop
 | .V=>Rep K G' v w
 | .U=>Rep K (join H0 G') v w
 | .F=>match w with
  | .lst ws=>∃ a vs,v=.ref a/\H' a=some (.lst vs)/\G' a=none/\H a=none/\Reps K G' vs ws
  | w=>Rep K G' v w
 | .C=>Rep K G' v w\/∃ a vs ws,v=.ref a/\w=.lst ws/\H' a=some (.lst vs)/\Reps K G' vs ws
 | .B=>Rep K (join H0 G') v w\/∃ a vs ws,v=.ref a/\w=.lst ws/\H' a=some (.lst vs)/\Reps K G' vs ws
abbrev EXT:=XW->Hp->Prop
def Out {α β:Type} (EX:EXT) (G H:Hp) (md:α->β->Hp->Hp->Prop) (r:R α) (Q:β->Hp->Prop):Prop:=match r with
 | .ok w=>∀ v G' H',Ext G H G' H'->md w v G' H'->Q v H'
 | .ex e=>∀ H',Same H H'->EX e H'
 | .stuck=>False
abbrev mdW (K:Frag) (d:Mode) (H0 H:Hp):W->V->Hp->Hp->Prop:=fun w v G' H'=>Md K H0 H G' H' v w d
abbrev mdB:Bool->Bool->Hp->Hp->Prop:=fun b c _ _=>c=b
inductive MdA (K:Frag) (d:Mode) (H0 H G' H':Hp):List W->List V->Prop where
 | nil:MdA K d H0 H G' H' [] []
 | cons {w:W} {v:V} {ws:List W} {vs:List V}:Md K H0 H G' H' v w d->MdA K d H0 H G' H' ws vs->MdA K d H0 H G' H' (w::ws) (v::vs)
def MdAI (K:Frag) (d:Mode) (H0 H G' H':Hp) (vs:List V):List W->Prop
 | []=>vs = []
 | w::ws=>∃ v us,vs=v::us/\Md K H0 H G' H' v w d/\MdA K d H0 H G' H' ws us
abbrev mdA (K:Frag) (d:Mode) (H0 H:Hp):List W->List V->Hp->Hp->Prop:=fun ws vs G' H'=>MdA K d H0 H G' H' ws vs
def tM (K:Frag) (EX:EXT) (d:Mode) (m:Rho->R W):TE:=fun σ H Q=>∃ H0 G ρ,PIv K H0 G ρ σ H/\Out EX G H (mdW K d H0 H) (m ρ) Q
def tT (K:Frag) (EX:EXT) (m:Rho->R Bool):TT:=fun σ H Q=>∃ H0 G ρ,PIv K H0 G ρ σ H/\Out EX G H mdB (m ρ) Q
def tA (K:Frag) (EX:EXT) (d:Mode) (m:Rho->R (List W)):TA:=fun σ H Q=>∃ H0 G ρ,PIv K H0 G ρ σ H/\Out EX G H (mdA K d H0 H) (m ρ) Q
section
variable {K:Frag} {EX:EXT} {H0 G H G1 H1 G2 H2:Hp} {ρ:Rho} {σ:St}
theorem Out.bind {α β γ δ:Type} {md:α->β->Hp->Hp->Prop} {md':γ->δ->Hp->Hp->Prop} {m:R α} {k:α->R γ} {Q:δ->Hp->Prop} {Q1:β->Hp->Prop} (o:Out EX G H md' (m>>=k) Q)
  (h:∀ x G1 H1 w,Ext G H G1 H1->md w x G1 H1->Out EX G1 H1 md' (k w) Q->Q1 x H1):Out EX G H md m Q1:=by
 cases m with
 | ok w=>
  intro v G' H' e d
  refine h v G' H' w e d ?_
  rw [R.ok_bind] at o
  revert o
  cases k w with
  | ok u=>exact fun o v2 G2 H2 e2 d2=>o v2 G2 H2 (e.trans e2) d2
  | ex x=>exact fun o H2 s2=>o H2 (e.hh.trans s2)
  | stuck=>exact fun o=>o
 | ex x=>exact o
 | stuck=>exact o
theorem Md.start {v:V} {w:W} {d:Mode} (s:Same H H1) (h:Md K H0 H1 G2 H2 v w d):Md K H0 H G2 H2 v w d:=by
 cases d with
 | F=>
  cases w with
  | lst ws=>obtain ⟨a,vs,e,h1,h2,h3,r⟩:=h; exact ⟨a,vs,e,h1,h2,s.free h3,r⟩
  | _=>exact h
 | _=>exact h
theorem Md.move {v:V} {w:W} {d:Mode} (x:Ext G1 H1 G2 H2) (h:Md K H0 H G1 H1 v w d):Md K H0 H G2 H2 v w d:=by
 cases d with
 | V=>exact Rep.same x.gg h
 | U=>exact Rep.same (join_same x.gg) h
 | F=>
  cases w with
  | lst ws=>obtain ⟨a,vs,e,h1,h2,h3,r⟩:=h; exact ⟨a,vs,e,x.hh _ _ h1,x.keep _ _ h1 rfl h2,h3,r.same x.gg⟩
  | non=>exact Rep.same x.gg h
  | bl _=>exact Rep.same x.gg h
  | int _=>exact Rep.same x.gg h
  | str _=>exact Rep.same x.gg h
  | ty _=>exact Rep.same x.gg h
  | tup _=>exact Rep.same x.gg h
  | scr _=>exact Rep.same x.gg h
  | exc _ _=>exact Rep.same x.gg h
  | cls _=>exact Rep.same x.gg h
  | dst _ _ _ _=>exact Rep.same x.gg h
 | C=>
  rcases h with h | ⟨a,vs,ws,e,e2,h1,r⟩
  ·exact .inl (h.same x.gg)
  ·exact .inr ⟨a,vs,ws,e,e2,x.hh _ _ h1,r.same x.gg⟩
 | B=>
  rcases h with h | ⟨a,vs,ws,e,e2,h1,r⟩
  ·exact .inl (h.same (join_same x.gg))
  ·exact .inr ⟨a,vs,ws,e,e2,x.hh _ _ h1,r.same x.gg⟩
theorem Md.CB {v:V} {w:W} (I:PIv K H0 G1 ρ σ H1) (h:Md K H0 H G1 H1 v w .C):Md K H0 H G1 H1 v w .B:=by
 rcases h with h | h
 ·exact .inl (h.same I.G_join)
 ·exact .inr h
def sca:W->Bool
 | .tup _=>false
 | .scr _=>false
 | .lst _=>false
 | .dst _ _ _ _=>false
 | _=>true
theorem Md.sca {v:V} {w:W} (hs:sca w=true) (r:∀ F,Rep K F v w) (d:Mode):Md K H0 H G1 H1 v w d:=by
 cases d with
 | V=>exact r _
 | U=>exact r _
 | C=>exact .inl (r _)
 | B=>exact .inl (r _)
 | F=>cases w <;> first | exact r _ | cases hs
theorem Md.repB {v:V} {w:W} (h:Md K H0 H G1 H1 v w .B) (n:∀ us,w≠.lst us):Rep K (join H0 G1) v w:=Or.elim h id fun zz73=>by obtain ⟨_,_,us,_,e,_⟩:=zz73; exact absurd e (n us)
theorem Md.repC {v:V} {w:W} (h:Md K H0 H G1 H1 v w .C) (n:∀ us,w≠.lst us):Rep K G1 v w:=Or.elim h id fun zz74=>by obtain ⟨_,_,us,_,e,_⟩:=zz74; exact absurd e (n us)
theorem Md.lstB {v:V} {ws:List W} (I:PIv K H0 G1 ρ σ H1) (h:Md K H0 H G1 H1 v (.lst ws) .B):∃ a vs,v=.ref a/\H1 a=some (.lst vs)/\Reps K (join H0 G1) vs ws:=by
 rcases h with h | ⟨a,vs,us,e,e2,h1,r⟩
 ·obtain ⟨a,vs,e,s,r⟩:=h.inv; exact ⟨a,vs,e,I.join_H _ _ s,r⟩
 ·rw [W.lst.inj e2]; exact ⟨a,vs,e,h1,r.same I.G_join⟩
theorem Md.scrB {v:V} {ws:List W} (I:PIv K H0 G1 ρ σ H1) (h:Md K H0 H G1 H1 v (.scr ws) .B):∃ a vs,v=.ref a/\SqL K H1 a vs/\Reps K (join H0 G1) vs ws:=by
 obtain ⟨a,vs,e,s,r⟩:=(h.repB fun _=>W.noConfusion).inv; exact ⟨a,vs,e,Same.seq I.join_H s,r⟩
theorem Md.lstC {v:V} {ws:List W} (I:PIv K H0 G1 ρ σ H1) (h:Md K H0 H G1 H1 v (.lst ws) .C):∃ a vs,v=.ref a/\H1 a=some (.lst vs)/\Reps K G1 vs ws:=by
 rcases h with h | ⟨a,vs,us,e,e2,h1,r⟩
 ·obtain ⟨a,vs,e,s,r⟩:=h.inv; exact ⟨a,vs,e,I.gh _ _ s,r⟩
 ·rw [W.lst.inj e2]; exact ⟨a,vs,e,h1,r⟩
theorem Md.tupB {v:V} {ws:List W} (I:PIv K H0 G1 ρ σ H1) (h:Md K H0 H G1 H1 v (.tup ws) .B):∃ a vs,v=.ref a/\H1 a=some (.tup vs)/\Reps K (join H0 G1) vs ws:=by
 obtain ⟨a,vs,e,s,r⟩:=(h.repB fun _=>W.noConfusion).inv; exact ⟨a,vs,e,I.join_H _ _ s,r⟩
theorem Md.tupC {v:V} {ws:List W} (I:PIv K H0 G1 ρ σ H1) (h:Md K H0 H G1 H1 v (.tup ws) .C):∃ a vs,v=.ref a/\H1 a=some (.tup vs)/\Reps K G1 vs ws:=by
 obtain ⟨a,vs,e,s,r⟩:=(h.repC fun _=>W.noConfusion).inv; exact ⟨a,vs,e,I.gh _ _ s,r⟩
theorem Md.intB {v:V} {i:Int} (h:Md K H0 H G1 H1 v (.int i) .B):v=.int i:=(h.repB fun _=>W.noConfusion).inv
theorem Md.blB {v:V} {i:Bool} (h:Md K H0 H G1 H1 v (.bl i) .B):v=.bl i:=(h.repB fun _=>W.noConfusion).inv
theorem Md.strB {v:V} {i:Str} (h:Md K H0 H G1 H1 v (.str i) .B):v=.str i:=(h.repB fun _=>W.noConfusion).inv
theorem Md.nonB {v:V} (h:Md K H0 H G1 H1 v .non .B):v=.non:=(h.repB fun _=>W.noConfusion).inv
theorem Md.tyB {v:V} {n:String} (h:Md K H0 H G1 H1 v (.ty n) .B):v=.ty n:=(h.repB fun _=>W.noConfusion).inv
theorem mode_FV {m:Rho->R W} {Q:VK} (h:tM K EX .V m σ H Q):tM K EX .F m σ H Q:=by
 obtain ⟨H0,G,ρ,I,o⟩:=h
 refine ⟨H0,G,ρ,I,?_⟩
 revert o
 cases m ρ with
 | ex e=>exact id
 | stuck=>exact id
 | ok w=>
  intro o v G' H' e d
  cases w with
  | lst ws=>
   obtain ⟨a,vs,rfl,h1,h2,h3,r⟩:=d
   have s1:Same G' (upd G' a (.lst vs)):=fun b o q=>by rw [upd_ne (ne_of_none q h2)]; exact q
   refine o _ (upd G' a (.lst vs)) H' ⟨e.gg.trans s1,e.hh,fun b o q=>?_,fun b o q l g=>?_⟩ (.lst upd_same (r.same s1))
   ·by_cases hb:b=a
    ·subst hb; rw [upd_same] at q; cases q; exact h1
    ·rw [upd_ne hb] at q; exact e.gh b o q
   ·rw [upd_ne (ne_of_none q h3)]; exact e.keep b o q l g
  | _=>exact o v G' H' e d
theorem mode_VU {m:Rho->R W} {Q:VK} (h:tM K EX .U m σ H Q):tM K EX .V m σ H Q:=by
 obtain ⟨H0,G,ρ,I,o⟩:=h
 refine ⟨H0,G,ρ,I,?_⟩
 revert o
 cases m ρ with
 | ex e=>exact id
 | stuck=>exact id
 | ok w=>exact fun o v G' H' e d=>o v G' H' e (Rep.same (I.ext e).G_join d)
theorem mode_UB {m:Rho->R W} {Q:VK} (h:tM K EX .B m σ H Q):tM K EX .U m σ H Q:=by
 obtain ⟨H0,G,ρ,I,o⟩:=h
 refine ⟨H0,G,ρ,I,?_⟩
 revert o
 cases m ρ with
 | ex e=>exact id
 | stuck=>exact id
 | ok w=>exact fun o v G' H' e d=>o v G' H' e (.inl d)
theorem mode_CB {m:Rho->R W} {Q:VK} (h:tM K EX .B m σ H Q):tM K EX .C m σ H Q:=by
 obtain ⟨H0,G,ρ,I,o⟩:=h
 refine ⟨H0,G,ρ,I,?_⟩
 revert o
 cases m ρ with
 | ex e=>exact id
 | stuck=>exact id
 | ok w=>exact fun o v G' H' e d=>o v G' H' e (Md.CB (H:=H) (I.ext e) d)
theorem mode_FC {m:Rho->R W} {Q:VK} (h:tM K EX .C m σ H Q):tM K EX .F m σ H Q:=by
 obtain ⟨H0,G,ρ,I,o⟩:=h
 refine ⟨H0,G,ρ,I,?_⟩
 revert o
 cases m ρ with
 | ex e=>exact id
 | stuck=>exact id
 | ok w=>
  intro o v G' H' e d
  cases w with
  | lst ws=>obtain ⟨a,vs,rfl,h1,h2,h3,r⟩:=d; exact o _ G' H' e (.inr ⟨a,vs,ws,rfl,rfl,h1,r⟩)
  | _=>exact o v G' H' e (.inl d)
def chk (w:W):R W:=if noL w then .ok w else .stuck
theorem noL_F {v:V} {w:W} (n:noL w=true) (r:Rep K G1 v w):Md K H0 H G1 H1 v w .F:=by
 cases w with
 | lst ws=>cases n
 | _=>exact r
theorem mode_chk {m:Rho->R W} {Q:VK} {d:Mode} (hd:d=.F\/d=.V) (h:tM K EX d (fun ρ=>m ρ>>=chk) σ H Q):tM K EX .U m σ H Q:=by
 obtain ⟨H0,G,ρ,I,o⟩:=h
 refine ⟨H0,G,ρ,I,Out.bind o fun x G1 H1 w e m1 o1=>?_⟩
 unfold chk at o1
 by_cases n:noL w=true
 ·rw [if_pos n] at o1
  have r:=Rep.clean (I.ext e) m1 n
  refine o1 x G1 H1 (Ext.refl e.gh) ?_
  rcases hd with rfl | rfl
  ·exact noL_F n r
  ·exact r
 ·rw [if_neg n] at o1; exact o1.elim
end
end TP
namespace TP
open PySem L2
section
variable {K:Frag} {EX:EXT} {H0 G H G1 H1 G2 H2:Hp} {ρ:Rho} {σ:St} {d:Mode} {Q:VK}
theorem c_const {v:V} {w:W} (hs:sca w=true) (r:∀ F,Rep K F v w) (h:tM K EX d (fun _=>.ok w) σ H Q):tC v σ H Q:=by
 obtain ⟨H0,G,ρ,I,o⟩:=h
 exact o v G H (Ext.refl I.gh) (Md.sca hs r d)
def mVar (d:Mode) (i:Nat):Rho->R W:=fun ρ=>match ρ[i]? with
 | some (.val w)=>(match d with | .F=>chk w | _=>.ok w)
 | some (.par w)=>(match d with | .F=>chk w | .V=>chk w | .C=>chk w | _=>.ok w)
 | some (.own ws)=>(match d with | .C=>.ok (.lst ws) | .B=>.ok (.lst ws) | _=>.stuck)
 | some (.iop _ ws)=>(match d with | .B=>.ok (.lst ws) | .U=>.ok (.lst ws) | _=>.stuck)
 | some (.hz w)=>(match d with | .B=>.ok w | .U=>.ok w | _=>.stuck)
 | _=>.stuck
theorem Out.chk {α:Type} {v:V} {w:W} {md:W->α->Hp->Hp->Prop} {Q:α->Hp->Prop} (o:Out EX G H md (chk w) Q):noL w=true/\Out EX G H md (.ok w) Q:=by
 unfold TP.chk at o
 by_cases n:noL w=true
 ·rw [if_pos n] at o; exact ⟨n,o⟩
 ·rw [if_neg n] at o; exact o.elim
theorem c_var {i:Nat} (h:tM K EX d (mVar d i) σ H Q):tVar i σ H Q:=by
 obtain ⟨H0,G,ρ,I,o⟩:=h
 unfold mVar at o
 cases e:ρ[i]? with
 | none=>rw [e] at o; exact o.elim
 | some s=>
  rw [e] at o
  have hi:i<σ.length:=by rw [<- I.len]; exact (List.getElem?_eq_some_iff.mp e).1
  have es:σ[i]?=some σ[i]:=by simp
  have r:=I.sl i s _ e es
  cases s with
  | un=>exact o.elim
  | val w=>
   obtain ⟨v,ev,r⟩:=r
   refine ⟨v,by rw [es,ev],?_⟩
   cases d with
   | F=>obtain ⟨n,o⟩:=Out.chk (v:=v) o; exact o v G H (Ext.refl I.gh) (noL_F n r)
   | V=>exact o v G H (Ext.refl I.gh) r
   | U=>exact o v G H (Ext.refl I.gh) (r.same I.G_join)
   | C=>exact o v G H (Ext.refl I.gh) (.inl r)
   | B=>exact o v G H (Ext.refl I.gh) (.inl (r.same I.G_join))
  | par w=>
   obtain ⟨v,ev,r⟩:=r
   refine ⟨v,by rw [es,ev],?_⟩
   cases d with
   | F=>obtain ⟨n,o⟩:=Out.chk (v:=v) o; exact o v G H (Ext.refl I.gh) (noL_F n (Rep.clean I r n))
   | V=>obtain ⟨n,o⟩:=Out.chk (v:=v) o; exact o v G H (Ext.refl I.gh) (Rep.clean I r n)
   | U=>exact o v G H (Ext.refl I.gh) r
   | C=>obtain ⟨n,o⟩:=Out.chk (v:=v) o; exact o v G H (Ext.refl I.gh) (.inl (Rep.clean I r n))
   | B=>exact o v G H (Ext.refl I.gh) (.inl r)
  | own ws=>
   obtain ⟨a,vs,ev,ha,hg,h0,r⟩:=r
   refine ⟨.ref a,by rw [es,ev],?_⟩
   cases d with
   | F=>exact o.elim
   | V=>exact o.elim
   | U=>exact o.elim
   | C=>exact o _ G H (Ext.refl I.gh) (.inr ⟨a,vs,ws,rfl,rfl,ha,r⟩)
   | B=>exact o _ G H (Ext.refl I.gh) (.inr ⟨a,vs,ws,rfl,rfl,ha,r⟩)
  | dic ks=>exact o.elim
  | dik ks=>exact o.elim
  | dos kw=>exact o.elim
  | hz w=>
   obtain ⟨v,ev,r⟩:=r
   refine ⟨v,by rw [es,ev],?_⟩
   have rj:=r.same (join_same (H0:=H0) (noLG_sub (G:=G)))
   cases d with
   | F=>exact o.elim
   | V=>exact o.elim
   | C=>exact o.elim
   | U=>exact o v G H (Ext.refl I.gh) rj
   | B=>exact o v G H (Ext.refl I.gh) (.inl rj)
  | iop p ws=>
   obtain ⟨ev,vs,h0,r⟩:=r
   refine ⟨.ref p,by rw [es,ev],?_⟩
   have rj:Rep K (join H0 G) (.ref p) (.lst ws):=by
    refine .lst (vs:=vs) ?_ (r.same I.G_join)
    unfold join
    rw [h0]; rfl
   cases d with
   | F=>exact o.elim
   | V=>exact o.elim
   | U=>exact o _ G H (Ext.refl I.gh) rj
   | C=>exact o.elim
   | B=>exact o _ G H (Ext.refl I.gh) (.inl rj)
def Op2 (K:Frag) (b d:Mode) (r:R2) (f:W->W->R W):Prop:=∀ (EX:EXT) (H0 Hs G H:Hp) (ρ:Rho) (σ:St) (Ha Hb:Hp) (x y:V) (u v:W) (Q:VK),PIv K H0 G ρ σ H->Same Hs H->Md K H0 Ha G H x u b->Md K H0 Hb G H y v b ->
 Out EX G H (mdW K d H0 Hs) (f u v) Q->r x y H Q
theorem c_op {b:Mode} {r:R2} {f:W->W->R W} {ma mb:Rho->R W} (hr:Op2 K b d r f) (h:tM K EX d (fun ρ=>ma ρ>>=fun x=>mb ρ>>=fun y=>f x y) σ H Q):tOp r (tM K EX b ma) (tM K EX b mb) σ H Q:=by
 obtain ⟨H0,G,ρ,I,o⟩:=h
 refine ⟨H0,G,ρ,I,Out.bind o fun x G1 H1 u e1 m1 o1=>⟨H0,G1,ρ,I.ext e1,Out.bind o1 fun y G2 H2 v e2 m2 o2=>?_⟩⟩
 exact hr EX H0 H G2 H2 ρ σ H H1 x y u v Q ((I.ext e1).ext e2) (e1.hh.trans e2.hh) (m1.move e2) m2 o2
def fI (C:Int->Int->Prop) [∀ i j,Decidable (C i j)] (g:Int->Int->W):W->W->R W
 | .int i,.int j=>if C i j then .ok (g i j) else .stuck
 | _,_=>.stuck
def fI0 (g:Int->Int->W):W->W->R W
 | .int i,.int j=>.ok (g i j)
 | _,_=>.stuck
theorem o2_I {C:Int->Int->Prop} [∀ i j,Decidable (C i j)] {g:Int->Int->W} {gv:Int->Int->V} (hs:∀ i j,sca (g i j)=true) (hg:∀ i j F,Rep K F (gv i j) (g i j)):Op2 K .B d (rI C gv) (fI C g):=by
 intro EX H0 Hs G H ρ σ Ha Hb x y u v Q I s mx my o
 cases u <;> first | exact o.elim | skip
 all_goals (cases v <;> first | exact o.elim | skip)
 rename_i i j
 have o':Out EX G H (mdW K d H0 Hs) (if C i j then R.ok (g i j) else .stuck) Q:=o
 by_cases c:C i j
 ·rw [if_pos c] at o'
  exact ⟨i,j,mx.intB,my.intB,c,o' _ G H (Ext.refl I.gh) (Md.sca (hs i j) (hg i j) d)⟩
 ·rw [if_neg c] at o'; exact o'.elim
theorem o2_I0 {g:Int->Int->W} {gv:Int->Int->V} (hs:∀ i j,sca (g i j)=true) (hg:∀ i j F,Rep K F (gv i j) (g i j)):Op2 K .B d (rI0 gv) (fI0 g):=by
 intro EX H0 Hs G H ρ σ Ha Hb x y u v Q I s mx my o
 cases u <;> first | exact o.elim | skip
 all_goals (cases v <;> first | exact o.elim | skip)
 rename_i i j
 exact ⟨i,j,mx.intB,my.intB,o _ G H (Ext.refl I.gh) (Md.sca (hs i j) (hg i j) d)⟩
def fU (g:Int->W):W->R W
 | .int i=>.ok (g i)
 | _=>.stuck
def isN:W->Bool
 | .non=>true
 | _=>false
def fIsN (neg:Bool):W->W->R W
 | u,.non=>.ok (.bl (if neg then !isN u else isN u))
 | _,_=>.stuck
theorem isN_of {b:Mode} (hb:b=.B\/b=.U\/b=.V\/b=.C) {v:V} {w:W} {Hs:Hp} (h:Md K H0 Hs G1 H1 v w b):decide (v=.non)=isN w:=by
 have key:∀ F,Rep K F v w->decide (v=.non)=isN w:=fun F r=>by
  cases r <;> first | rfl | (apply decide_eq_false; intro z; cases z)
 rcases hb with rfl | rfl | rfl | rfl
 ·rcases h with h | ⟨a,vs,ws,rfl,rfl,_⟩
  ·exact key _ h
  ·apply decide_eq_false; intro z; cases z
 ·exact key _ h
 ·exact key _ h
 ·rcases h with h | ⟨a,vs,ws,rfl,rfl,_⟩
  ·exact key _ h
  ·apply decide_eq_false; intro z; cases z
theorem o2_isN:Op2 K .B d (fun x y H Q=>y=.non/\Q (.bl (decide (x=.non))) H) (fIsN false):=by
 intro EX H0 Hs G H ρ σ Ha Hb x y u v Q I s mx my o
 cases v <;> first | exact o.elim | skip
 refine ⟨my.nonB,?_⟩
 rw [isN_of (.inl rfl) mx]
 exact o _ G H (Ext.refl I.gh) (Md.sca rfl (fun _=>.bl) d)
def toB:W->R Bool
 | .bl b=>.ok b
 | _=>.stuck
theorem c_test {ma:Rho->R W} {Q:Bool->Hp->Prop} (h:tT K EX (fun ρ=>ma ρ>>=toB) σ H Q):tTest (tM K EX .B ma) σ H Q:=by
 obtain ⟨H0,G,ρ,I,o⟩:=h
 refine ⟨H0,G,ρ,I,Out.bind o fun x G1 H1 u e1 m1 o1=>?_⟩
 cases u <;> first | exact o1.elim | skip
 rename_i b
 exact ⟨b,m1.blB,o1 b G1 H1 (Ext.refl e1.gh) rfl⟩
theorem c_tB {ma:Rho->R W} {Q:Bool->Hp->Prop} (h:tT K EX (fun ρ=>ma ρ>>=toB) σ H Q):tB (tM K EX .B ma) σ H Q:=c_test h
def rAnd (a b:R Bool):R Bool:=a>>=fun c=>if c then b else .ok false
def rOr (a b:R Bool):R Bool:=a>>=fun c=>if c then .ok true else b
def rNot (a:R Bool):R Bool:=a>>=fun c=>.ok (!c)
theorem c_and {ma mb:Rho->R Bool} {Q:Bool->Hp->Prop} (h:tT K EX (fun ρ=>rAnd (ma ρ) (mb ρ)) σ H Q):tAnd (tT K EX ma) (tT K EX mb) σ H Q:=by
 obtain ⟨H0,G,ρ,I,o⟩:=h
 refine ⟨H0,G,ρ,I,Out.bind o fun x G1 H1 u e1 m1 o1=>?_⟩
 cases m1
 cases x with
 | true=>exact ⟨H0,G1,ρ,I.ext e1,o1⟩
 | false=>exact o1 false G1 H1 (Ext.refl e1.gh) rfl
theorem c_or {ma mb:Rho->R Bool} {Q:Bool->Hp->Prop} (h:tT K EX (fun ρ=>rOr (ma ρ) (mb ρ)) σ H Q):tOr (tT K EX ma) (tT K EX mb) σ H Q:=by
 obtain ⟨H0,G,ρ,I,o⟩:=h
 refine ⟨H0,G,ρ,I,Out.bind o fun x G1 H1 u e1 m1 o1=>?_⟩
 cases m1
 cases x with
 | true=>exact o1 true G1 H1 (Ext.refl e1.gh) rfl
 | false=>exact ⟨H0,G1,ρ,I.ext e1,o1⟩
theorem c_not {ma:Rho->R Bool} {Q:Bool->Hp->Prop} (h:tT K EX (fun ρ=>rNot (ma ρ)) σ H Q):tNot (tT K EX ma) σ H Q:=by
 obtain ⟨H0,G,ρ,I,o⟩:=h
 refine ⟨H0,G,ρ,I,Out.bind o fun x G1 H1 u e1 m1 o1=>?_⟩
 cases m1
 exact o1 _ G1 H1 (Ext.refl e1.gh) rfl
def rAndV (a b:R W):R W:=a>>=fun x=>toB x>>=fun c=>if c then b else .ok (.bl false)
def rOrV (a b:R W):R W:=a>>=fun x=>toB x>>=fun c=>if c then .ok (.bl true) else b
def rNotV (a:R W):R W:=a>>=fun x=>toB x>>=fun c=>.ok (.bl (!c))
theorem c_andV {ma mb:Rho->R W} (h:tM K EX d (fun ρ=>rAndV (ma ρ) (mb ρ)) σ H Q):tAndV (tM K EX .B ma) (tM K EX d mb) σ H Q:=by
 obtain ⟨H0,G,ρ,I,o⟩:=h
 refine ⟨H0,G,ρ,I,Out.bind o fun x G1 H1 u e1 m1 o1=>?_⟩
 cases u <;> first | exact o1.elim | skip
 rename_i b
 refine ⟨b,m1.blB,?_⟩
 cases b with
 | true=>
  rw [if_pos rfl]
  refine ⟨H0,G1,ρ,I.ext e1,?_⟩
  have o2:Out EX G1 H1 (mdW K d H0 H) (mb ρ) Q:=o1
  revert o2
  cases mb ρ with
  | ok w=>exact fun o2 v G2 H2 e2 m2=>o2 v G2 H2 e2 (m2.start e1.hh)
  | ex _=>exact id
  | stuck=>exact id
 | false=>
  rw [if_neg Bool.false_ne_true]
  exact o1 _ G1 H1 (Ext.refl e1.gh) (Md.sca rfl (fun _=>.bl) d)
theorem Out.restart {r:R W} (s:Same H H1) (o:Out EX G1 H1 (mdW K d H0 H) r Q):Out EX G1 H1 (mdW K d H0 H1) r Q:=by
 revert o
 cases r with
 | ok w=>exact fun o v G2 H2 e2 m2=>o v G2 H2 e2 (m2.start s)
 | ex _=>exact id
 | stuck=>exact id
theorem c_if {mc:Rho->R Bool} {ma mb:Rho->R W} (h:tM K EX d (fun ρ=>mc ρ>>=fun c=>if c then ma ρ else mb ρ) σ H Q):tIf (tT K EX mc) (tM K EX d ma) (tM K EX d mb) σ H Q:=by
 obtain ⟨H0,G,ρ,I,o⟩:=h
 refine ⟨H0,G,ρ,I,Out.bind o fun x G1 H1 u e1 m1 o1=>?_⟩
 cases m1
 cases x with
 | true=>exact ⟨H0,G1,ρ,I.ext e1,Out.restart e1.hh o1⟩
 | false=>exact ⟨H0,G1,ρ,I.ext e1,Out.restart e1.hh o1⟩
theorem c_chain {b:Mode} {r r':R2} {f f':W->W->R W} {ma mb mc:Rho->R W} (hr:Op2 K b .B r f) (hr':Op2 K b d r' f')
  (h:tM K EX d (fun ρ=>ma ρ>>=fun x=>mb ρ>>=fun y=>f x y>>=fun z=>toB z>>=fun c=>if c then mc ρ>>=fun u=>f' y u else .ok (.bl false)) σ H Q) :
  (fun σ H Q=>tM K EX b ma σ H fun x H1=>tM K EX b mb σ H1 fun y H2=>r x y H2 fun z H3=>∃ k,z=.bl k/\if k=true then tM K EX b mc σ H3 fun u H4=>r' y u H4 Q else Q (.bl false) H3) σ H Q:=by
 obtain ⟨H0,G,ρ,I,o⟩:=h
 refine ⟨H0,G,ρ,I,Out.bind o fun x G1 H1 u e1 m1 o1=>⟨H0,G1,ρ,I.ext e1,Out.bind o1 fun y G2 H2 v e2 m2 o2=>?_⟩⟩
 have I2:=(I.ext e1).ext e2
 refine hr EX H0 H G2 H2 ρ σ H H1 x y u v _ I2 (e1.hh.trans e2.hh) (m1.move e2) m2 (Out.bind o2 fun z G3 H3 wz e3 m3 o3=>?_)
 cases wz <;> first | exact o3.elim | skip
 rename_i k
 refine ⟨k,m3.blB,?_⟩
 cases k with
 | true=>
  rw [if_pos rfl]
  refine ⟨H0,G3,ρ,I2.ext e3,Out.bind (k:=fun u=>f' v u) o3 fun t G4 H4 wt e4 m4 o4=>?_⟩
  exact hr' EX H0 H G4 H4 ρ σ H1 H3 y t v wt Q ((I2.ext e3).ext e4) (((e1.hh.trans e2.hh).trans e3.hh).trans e4.hh) ((m2.move e3).move e4) m4 o4
 | false=>
  rw [if_neg Bool.false_ne_true]
  exact o3 _ G3 H3 (Ext.refl e3.gh) (Md.sca rfl (fun _=>.bl) d)
theorem c_nil {QA:List V->Hp->Prop} (h:tA K EX d (fun _=>.ok []) σ H QA):tNil σ H QA:=by
 obtain ⟨H0,G,ρ,I,o⟩:=h
 exact o [] G H (Ext.refl I.gh) .nil
theorem c_cons {ma:Rho->R W} {mr:Rho->R (List W)} {QA:List V->Hp->Prop} (h:tA K EX d (fun ρ=>ma ρ>>=fun x=>mr ρ>>=fun xs=>.ok (x::xs)) σ H QA):tCons (tM K EX d ma) (tA K EX d mr) σ H QA:=by
 obtain ⟨H0,G,ρ,I,o⟩:=h
 refine ⟨H0,G,ρ,I,Out.bind o fun x G1 H1 u e1 m1 o1=>⟨H0,G1,ρ,I.ext e1,Out.bind o1 fun xs G2 H2 us e2 m2 o2=>?_⟩⟩
 refine o2 (x::xs) G2 H2 (Ext.refl e2.gh) (.cons (m1.move e2) ?_)
 have go:∀ {ws:List W} {vs:List V},MdA K d H0 H1 G2 H2 ws vs->MdA K d H0 H G2 H2 ws vs:=fun {ws vs} q=>by
  induction q with
  | nil=>exact .nil
  | cons a _ ih=>exact .cons (a.start e1.hh) ih
 exact go m2
theorem MdA.reps {ws:List W} {vs:List V} (h:MdA K .V H0 H G1 H1 ws vs):Reps K G1 vs ws:=
 @MdA.rec K .V H0 H G1 H1 (fun ws vs _=>Reps K G1 vs ws) .nil (fun h _ b=>.cons h b) ws vs h
theorem MdA.repsU {ws:List W} {vs:List V} (h:MdA K .U H0 H G1 H1 ws vs):Reps K (join H0 G1) vs ws:=
 @MdA.rec K .U H0 H G1 H1 (fun ws vs _=>Reps K (join H0 G1) vs ws) .nil (fun h _ b=>.cons h b) ws vs h
theorem new_ext {p:Addr} {o:HO} (hG:Same G H) (hp:H p=none):Ext G H G (upd H p o):=
 ⟨Same.refl G,fun b u q=>by rw [upd_ne (ne_of_none q hp)]; exact q,fun b u q=>by rw [upd_ne (ne_of_none (hG b u q) hp)]; exact hG b u q,fun _ _ _ _ e=>e⟩
theorem new_extG {p:Addr} {o:HO} (hG:Same G H) (hp:H p=none):Ext G H (upd G p o) (upd H p o):=by
 have gp:G p=none:=hG.free hp
 refine ⟨fun b u q=>by rw [upd_ne (ne_of_none q gp)]; exact q,fun b u q=>by rw [upd_ne (ne_of_none q hp)]; exact q,fun b u q=>?_,fun b u q l g=>?_⟩
 ·by_cases hb:b=p
  ·subst hb; rw [upd_same] at q ⊢; exact q
  ·rw [upd_ne hb] at q ⊢; exact hG b u q
 ·rw [upd_ne (ne_of_none q hp)]; exact g
theorem Out.newL {p:Addr} {vs:List V} {ws:List W} {Hs:Hp} (I:PIv K H0 G ρ σ H) (s:Same Hs H) (r:Reps K G vs ws) (hp:H p=none) (o:Out EX G H (mdW K .F H0 Hs) (.ok (.lst ws)) Q):Q (.ref p) (upd H p (.lst vs)):=
 o _ G _ (new_ext I.gh hp) ⟨p,vs,rfl,upd_same,I.gh.free hp,s.free hp,r⟩
theorem Out.newTF {p:Addr} {vs:List V} {ws:List W} {Hs:Hp} (I:PIv K H0 G ρ σ H) (r:Reps K G vs ws) (hp:H p=none) (o:Out EX G H (mdW K .F H0 Hs) (.ok (.tup ws)) Q):Q (.ref p) (upd H p (.tup vs)):=
 o _ (upd G p (.tup vs)) _ (new_extG I.gh hp) (.tup upd_same (r.same fun b u q=>by rw [upd_ne (ne_of_none q (I.gh.free hp))]; exact q))
def lim (n:Nat) (w:W):R W:=if n<=1000 then .ok w else .stuck
theorem Out.lim {α:Type} {n:Nat} {w:W} {md:W->α->Hp->Hp->Prop} {Q:α->Hp->Prop} (o:Out EX G H md (lim n w) Q):n<=1000/\Out EX G H md (.ok w) Q:=by
 unfold TP.lim at o
 by_cases n:n<=1000
 ·rw [if_pos n] at o; exact ⟨n,o⟩
 ·rw [if_neg n] at o; exact o.elim
theorem le_line {n:Nat} (h:n<=1000):n<=sizeLine:=Nat.le_trans h (by decide)
theorem c_tup {ma:Rho->R (List W)} (h:tM K EX .F (fun ρ=>ma ρ>>=fun ws=>lim ws.length (.tup ws)) σ H Q):tTup (tA K EX .V ma) σ H Q:=by
 obtain ⟨H0,G,ρ,I,o⟩:=h
 refine ⟨H0,G,ρ,I,Out.bind o fun xs G1 H1 ws e1 m1 o1=>?_⟩
 obtain ⟨hl,o2⟩:=Out.lim o1
 have r:=MdA.reps m1
 exact ⟨by rw [r.length]; exact le_line hl,fun p hp=>Out.newTF (I.ext e1) r hp o2⟩
theorem c_lst {ma:Rho->R (List W)} (h:tM K EX .F (fun ρ=>ma ρ>>=fun ws=>lim ws.length (.lst ws)) σ H Q):tLst (tA K EX .V ma) σ H Q:=by
 obtain ⟨H0,G,ρ,I,o⟩:=h
 refine ⟨H0,G,ρ,I,Out.bind o fun xs G1 H1 ws e1 m1 o1=>?_⟩
 obtain ⟨hl,o2⟩:=Out.lim o1
 have r:=MdA.reps m1
 exact ⟨by rw [r.length]; exact le_line hl,fun p hp=>Out.newL (I.ext e1) e1.hh r hp o2⟩
theorem join_upd {p:Addr} {o:HO} (h:H0 p=none):join H0 (upd G p o)=upd (join H0 G) p o:=by
 funext b
 by_cases hb:b=p
 ·subst hb; unfold join; rw [h]; dsimp only; rw [upd_same,upd_same]
 ·rw [upd_ne hb]; unfold join; cases H0 b with
  | none=>dsimp only; rw [upd_ne hb]
  | some u=>dsimp only; rw [upd_ne hb]
theorem c_tupU {ma:Rho->R (List W)} (h:tM K EX .U (fun ρ=>ma ρ>>=fun ws=>lim ws.length (.tup ws)) σ H Q):tTup (tA K EX .U ma) σ H Q:=by
 obtain ⟨H0,G,ρ,I,o⟩:=h
 refine ⟨H0,G,ρ,I,Out.bind o fun xs G1 H1 ws e1 m1 o1=>?_⟩
 obtain ⟨hl,o2⟩:=Out.lim o1
 have r:=MdA.repsU m1
 have I1:=I.ext e1
 refine ⟨by rw [r.length]; exact le_line hl,fun p hp=>o2 _ (upd G1 p (.tup xs)) _ (new_extG I1.gh hp) ?_⟩
 show Rep K (join H0 (upd G1 p (.tup xs))) _ _
 rw [join_upd (I1.hh.free hp)]
 exact .tup upd_same (r.same fun b u q=>by rw [upd_ne (ne_of_none (I1.join_H b u q) hp)]; exact q)
end
end TP
namespace TP
open PySem L2
inductive Fl where
 | nx (ρ:Rho) | rt (w:W) | bk (ρ:Rho) | ct (ρ:Rho)
def OutS (K:Frag) (EX:EXT) (d:Mode) (H0 G:Hp) (r:R Fl) (D:Ends):Prop:=match r with
 | .ok (.nx ρ)=>∀ G' σ' H',Same G G'->PIv K H0 G' ρ σ' H'->D.nx σ' H'
 | .ok (.bk ρ)=>∀ G' σ' H',Same G G'->PIv K H0 G' ρ σ' H'->D.bk σ' H'
 | .ok (.ct ρ)=>∀ G' σ' H',Same G G'->PIv K H0 G' ρ σ' H'->D.ct σ' H'
 | .ok (.rt w)=>∀ v G' H',Same G G'->Same G' H'->Same H0 H'->(∀ a o,H0 a=some o->isL o=true->G' a=none)->Md K H0 H0 G' H' v w d->D.rt v H'
 | .ex e=>∀ H',Same H0 H'->EX e H'
 | .stuck=>False
def tSt (K:Frag) (EX:EXT) (d:Mode) (m:Rho->R Fl):TS:=fun D σ H=>∃ H0 G ρ,PIv K H0 G ρ σ H/\OutS K EX d H0 G (m ρ) D
section
variable {K:Frag} {EX:EXT} {H0 G H G1 H1 G2 H2:Hp} {ρ:Rho} {σ:St} {d:Mode} {D:Ends}
theorem OutS.move {r:R Fl} (s:Same G G1) (o:OutS K EX d H0 G r D):OutS K EX d H0 G1 r D:=by
 cases r with
 | stuck=>exact o
 | ex e=>exact o
 | ok f=>
  cases f with
  | nx ρ'=>exact fun G' σ' H' s' I'=>o G' σ' H' (s.trans s') I'
  | bk ρ'=>exact fun G' σ' H' s' I'=>o G' σ' H' (s.trans s') I'
  | ct ρ'=>exact fun G' σ' H' s' I'=>o G' σ' H' (s.trans s') I'
  | rt w=>exact fun v G' H' s0 s1 s2 c md=>o v G' H' (s.trans s0) s1 s2 c md
theorem OutS.bind {α β:Type} {md:α->β->Hp->Hp->Prop} {m:R α} {k:α->R Fl} {Q1:β->Hp->Prop} (I:PIv K H0 G ρ σ H) (o:OutS K EX d H0 G (m>>=k) D)
  (h:∀ x G1 H1 w,Ext G H G1 H1->md w x G1 H1->OutS K EX d H0 G1 (k w) D->Q1 x H1):Out EX G H md m Q1:=by
 cases m with
 | ok w=>exact fun v G' H' e q=>h v G' H' w e q (OutS.move e.gg o)
 | ex e=>exact fun H' s=>o H' (I.hh.trans s)
 | stuck=>exact o
def mSeq (m n:Rho->R Fl):Rho->R Fl:=fun ρ=>m ρ>>=fun f=>match f with
 | .nx ρ'=>n ρ'
 | .rt w=>.ok (.rt w)
 | .bk ρ'=>.ok (.bk ρ')
 | .ct ρ'=>.ok (.ct ρ')
theorem c_next (h:tSt K EX d (fun ρ=>.ok (.nx ρ)) D σ H):tNext D σ H:=by
 obtain ⟨H0,G,ρ,I,o⟩:=h
 exact o G σ H (Same.refl G) I
theorem c_seq {m n:Rho->R Fl} (h:tSt K EX d (mSeq m n) D σ H):tSeq (tSt K EX d m) (tSt K EX d n) D σ H:=by
 obtain ⟨H0,G,ρ,I,o⟩:=h
 refine ⟨H0,G,ρ,I,?_⟩
 unfold mSeq at o
 revert o
 cases m ρ with
 | stuck=>exact id
 | ex e=>exact id
 | ok f=>
  cases f with
  | nx ρ'=>exact fun o G' σ' H' s' I'=>⟨H0,G',ρ',I',OutS.move s' o⟩
  | _=>exact id
theorem c_never (h:tSt K EX d (fun _=>.stuck) D σ H):tNever D σ H:=by
 obtain ⟨H0,G,ρ,I,o⟩:=h
 exact o
theorem c_drop {b:Mode} {m:Rho->R W} (h:tSt K EX d (fun ρ=>m ρ>>=fun _=>.ok (.nx ρ)) D σ H):tDrop (tM K EX b m) D σ H:=by
 obtain ⟨H0,G,ρ,I,o⟩:=h
 exact ⟨H0,G,ρ,I,OutS.bind I o fun x G1 H1 w e1 _ o1=>o1 G1 σ H1 (Same.refl _) (I.ext e1)⟩
theorem c_ret {m:Rho->R W} (h:tSt K EX d (fun ρ=>m ρ>>=fun w=>.ok (.rt w)) D σ H):tRet (tM K EX d m) D σ H:=by
 obtain ⟨H0,G,ρ,I,o⟩:=h
 refine ⟨H0,G,ρ,I,OutS.bind I o fun x G1 H1 w e1 m1 o1=>?_⟩
 have I1:=I.ext e1
 exact o1 x G1 H1 (Same.refl _) e1.gh I1.hh I1.gl (m1.start I.hh)
def mRetVar (d:Mode) (i:Nat):Rho->R Fl:=fun ρ=>match ρ[i]? with
 | some (.own ws)=>.ok (.rt (.lst ws))
 | _=>mVar d i ρ>>=fun w=>.ok (.rt w)
theorem c_retVar {i:Nat} (hd:d=.F\/d=.V) (h:tSt K EX d (mRetVar d i) D σ H):tRet (tVar i) D σ H:=by
 obtain ⟨H0,G,ρ,I,o⟩:=h
 unfold mRetVar at o
 by_cases ho:∃ ws,ρ[i]?=some (.own ws)
 ·obtain ⟨ws,e⟩:=ho
  rw [e] at o
  have hi:i<σ.length:=by rw [<- I.len]; exact (List.getElem?_eq_some_iff.mp e).1
  have es:σ[i]?=some σ[i]:=by simp
  obtain ⟨a,vs,ev,ha,hg,h0,r⟩:=I.sl i _ _ e es
  refine ⟨.ref a,by rw [es,ev],?_⟩
  rcases hd with rfl | rfl
  ·exact o _ G H (Same.refl _) I.gh I.hh I.gl ⟨a,vs,rfl,ha,hg,h0,r⟩
  ·have s1:Same G (upd G a (.lst vs)):=fun b o q=>by rw [upd_ne (ne_of_none q hg)]; exact q
   refine o _ (upd G a (.lst vs)) H s1 (fun b o q=>?_) I.hh (fun b u q l=>?_) (.lst upd_same (r.same s1))
   ·by_cases hb:b=a
    ·subst hb; rw [upd_same] at q; cases q; exact ha
    ·rw [upd_ne hb] at q; exact I.gh b o q
   ·rw [upd_ne (ne_of_none q h0)]; exact I.gl b u q l
 ·have o':OutS K EX d H0 G (mVar d i ρ>>=fun w=>.ok (.rt w)) D:=by
   revert o
   split
   ·rename_i ws e; exact absurd ⟨ws,e⟩ ho
   ·exact id
  have c:tRet (tM K EX d (mVar d i)) D σ H:=c_ret (m:=mVar d i) ⟨H0,G,ρ,I,o'⟩
  exact c_var c
theorem PIv.setV {i:Nat} {v:V} {w:W} (I:PIv K H0 G ρ σ H) (r:Rep K G v w):PIv K H0 G (ρ.set i (.val w)) (σ.set i (some v)) H where
 g0:=I.g0
 gl:=I.gl
 gh:=I.gh
 hh:=I.hh
 len:=by rw [List.length_set,List.length_set]; exact I.len
 sl j x o h1 h2:=by
  by_cases hj:i=j
  ·subst hj
   rw [List.getElem?_set] at h1 h2
   simp only [if_true] at h1 h2
   split at h1 <;> split at h2 <;> simp only [Option.some.injEq,reduceCtorEq] at h1 h2
   subst h1; subst h2
   exact ⟨v,rfl,r⟩
  ·rw [List.getElem?_set_ne hj] at h1 h2; exact I.sl j x o h1 h2
 ne a b ws us c hab h1 h2 h3 h4:=by
  have na:i≠a:=by
   rintro rfl
   rw [List.getElem?_set] at h1
   simp only [if_true] at h1
   split at h1 <;> simp at h1
  have nb:i≠b:=by
   rintro rfl
   rw [List.getElem?_set] at h2
   simp only [if_true] at h2
   split at h2 <;> simp at h2
  rw [List.getElem?_set_ne na] at h1 h3
  rw [List.getElem?_set_ne nb] at h2 h4
  exact I.ne a b ws us c hab h1 h2 h3 h4
 nd a b ws us c hab h1 h2 h3 h4:=by
  have na:i≠a:=by
   rintro rfl
   rw [List.getElem?_set] at h1
   simp only [if_true] at h1
   split at h1 <;> simp at h1
  have nb:i≠b:=by
   rintro rfl
   rw [List.getElem?_set] at h2
   simp only [if_true] at h2
   split at h2 <;> simp at h2
  rw [List.getElem?_set_ne na] at h1 h3
  rw [List.getElem?_set_ne nb] at h2 h4
  exact I.nd a b ws us c hab h1 h2 h3 h4
theorem PIv.setU {i:Nat} {v:V} {w:W} (I:PIv K H0 G ρ σ H) (r:Rep K (join H0 G) v w):PIv K H0 G (ρ.set i (.par w)) (σ.set i (some v)) H where
 g0:=I.g0
 gl:=I.gl
 gh:=I.gh
 hh:=I.hh
 len:=by rw [List.length_set,List.length_set]; exact I.len
 sl j x o h1 h2:=by
  by_cases hj:i=j
  ·subst hj
   rw [List.getElem?_set] at h1 h2
   simp only [if_true] at h1 h2
   split at h1 <;> split at h2 <;> simp only [Option.some.injEq,reduceCtorEq] at h1 h2
   subst h1; subst h2
   exact ⟨v,rfl,r⟩
  ·rw [List.getElem?_set_ne hj] at h1 h2; exact I.sl j x o h1 h2
 ne a b ws us c hab h1 h2 h3 h4:=by
  have na:i≠a:=by
   rintro rfl
   rw [List.getElem?_set] at h1
   simp only [if_true] at h1
   split at h1 <;> simp at h1
  have nb:i≠b:=by
   rintro rfl
   rw [List.getElem?_set] at h2
   simp only [if_true] at h2
   split at h2 <;> simp at h2
  rw [List.getElem?_set_ne na] at h1 h3
  rw [List.getElem?_set_ne nb] at h2 h4
  exact I.ne a b ws us c hab h1 h2 h3 h4
 nd a b ws us c hab h1 h2 h3 h4:=by
  have na:i≠a:=by
   rintro rfl
   rw [List.getElem?_set] at h1
   simp only [if_true] at h1
   split at h1 <;> simp at h1
  have nb:i≠b:=by
   rintro rfl
   rw [List.getElem?_set] at h2
   simp only [if_true] at h2
   split at h2 <;> simp at h2
  rw [List.getElem?_set_ne na] at h1 h3
  rw [List.getElem?_set_ne nb] at h2 h4
  exact I.nd a b ws us c hab h1 h2 h3 h4
theorem PIv.setO {i:Nat} {a:Addr} {vs:List V} {ws:List W} (I:PIv K H0 G ρ σ H) (ha:H a=some (.lst vs)) (hg:G a=none) (h0:H0 a=none) (r:Reps K G vs ws)
  (nw:∀ (j:Nat) (us:List W),ρ[j]?=some (Sl.own us)->σ[j]?≠some (some (V.ref a))):PIv K H0 G (ρ.set i (.own ws)) (σ.set i (some (.ref a))) H where
 g0:=I.g0
 gl:=I.gl
 gh:=I.gh
 hh:=I.hh
 len:=by rw [List.length_set,List.length_set]; exact I.len
 sl j x o h1 h2:=by
  by_cases hj:i=j
  ·subst hj
   rw [List.getElem?_set] at h1 h2
   simp only [if_true] at h1 h2
   split at h1 <;> split at h2 <;> simp only [Option.some.injEq,reduceCtorEq] at h1 h2
   subst h1; subst h2
   exact ⟨a,vs,rfl,ha,hg,h0,r⟩
  ·rw [List.getElem?_set_ne hj] at h1 h2; exact I.sl j x o h1 h2
 ne p q ws' us c hab h1 h2 h3 h4:=by
  by_cases hp:i=p
  ·subst hp
   rw [List.getElem?_set_ne hab] at h2 h4
   rw [List.getElem?_set] at h3
   simp only [if_true] at h3
   split at h3 <;> simp only [Option.some.injEq,reduceCtorEq,V.ref.injEq] at h3
   subst h3
   exact nw q us h2 h4
  ·rw [List.getElem?_set_ne hp] at h1 h3
   by_cases hq:i=q
   ·subst hq
    rw [List.getElem?_set] at h4
    simp only [if_true] at h4
    split at h4 <;> simp only [Option.some.injEq,reduceCtorEq,V.ref.injEq] at h4
    subst h4
    exact nw p ws' h1 h3
   ·rw [List.getElem?_set_ne hq] at h2 h4
    exact I.ne p q ws' us c hab h1 h2 h3 h4
 nd a' b ws us c hab h1 h2 h3 h4:=by
  have na:i≠a':=by
   rintro rfl
   rw [List.getElem?_set] at h1
   simp only [if_true] at h1
   split at h1 <;> simp at h1
  have nb:i≠b:=by
   rintro rfl
   rw [List.getElem?_set] at h2
   simp only [if_true] at h2
   split at h2 <;> simp at h2
  rw [List.getElem?_set_ne na] at h1 h3
  rw [List.getElem?_set_ne nb] at h2 h4
  exact I.nd a' b ws us c hab h1 h2 h3 h4
def slotF:W->Sl
 | .lst ws=>.own ws
 | w=>.val w
theorem c_setV {i:Nat} {m:Rho->R W} (h:tSt K EX d (fun ρ=>m ρ>>=fun w=>.ok (.nx (ρ.set i (.val w)))) D σ H):tAsg (tM K EX .V m) (gName i) D σ H:=by
 obtain ⟨H0,G,ρ,I,o⟩:=h
 exact ⟨H0,G,ρ,I,OutS.bind I o fun x G1 H1 w e1 m1 o1=>o1 G1 _ H1 (Same.refl _) ((I.ext e1).setV m1)⟩
theorem c_setF {i:Nat} {m:Rho->R W} (h:tSt K EX d (fun ρ=>m ρ>>=fun w=>.ok (.nx (ρ.set i (slotF w)))) D σ H):tAsg (tM K EX .F m) (gName i) D σ H:=by
 obtain ⟨H0,G,ρ,I,o⟩:=h
 refine ⟨H0,G,ρ,I,OutS.bind I o fun x G1 H1 w e1 m1 o1=>?_⟩
 have I1:=I.ext e1
 cases w with
 | lst ws=>
  obtain ⟨a,vs,rfl,h1,h2,h3,r⟩:=m1
  refine o1 G1 _ H1 (Same.refl _) (I1.setO h1 h2 (I.hh.free h3) r fun j us q z=>?_)
  obtain ⟨b,us',eb,hb,_⟩:=I.sl j _ _ q z
  cases eb
  rw [h3] at hb; cases hb
 | non=>exact o1 G1 _ H1 (Same.refl _) (I1.setV m1)
 | bl _=>exact o1 G1 _ H1 (Same.refl _) (I1.setV m1)
 | int _=>exact o1 G1 _ H1 (Same.refl _) (I1.setV m1)
 | str _=>exact o1 G1 _ H1 (Same.refl _) (I1.setV m1)
 | ty _=>exact o1 G1 _ H1 (Same.refl _) (I1.setV m1)
 | tup _=>exact o1 G1 _ H1 (Same.refl _) (I1.setV m1)
 | scr _=>exact o1 G1 _ H1 (Same.refl _) (I1.setV m1)
 | exc _ _=>exact o1 G1 _ H1 (Same.refl _) (I1.setV m1)
 | cls _=>exact o1 G1 _ H1 (Same.refl _) (I1.setV m1)
 | dst _ _ _ _=>exact o1 G1 _ H1 (Same.refl _) (I1.setV m1)
instance:DecidableEq Mode:=fun a b=>by cases a <;> cases b <;> first | exact isTrue rfl | exact isFalse (by intro h; cases h)
def Gt (K:Frag) (e:Mode) (g:TG) (mg:W->Rho->Option Rho):Prop:=∀ (H0 Hs G:Hp) (ρ:Rho) (σ:St) (H:Hp) (v:V) (w:W) (ρ':Rho) (Q:St->Hp->Prop),PIv K H0 G ρ σ H->Md K H0 Hs G H v w e->mg w ρ=some ρ' ->
 (∀ σ',PIv K H0 G ρ' σ' H->Q σ' H)->g v σ H Q
def Gts (K:Frag) (e:Mode) (g:TGs) (mg:List W->Rho->Option Rho):Prop:=∀ (H0 G:Hp) (ρ:Rho) (σ:St) (H:Hp) (vs:List V) (ws:List W) (ρ':Rho) (Q:St->Hp->Prop),PIv K H0 G ρ σ H->Reps K (if e=.V then G else join H0 G) vs ws->mg ws ρ=some ρ' ->
 (∀ σ',PIv K H0 G ρ' σ' H->Q σ' H)->g vs σ H Q
def gN (e:Mode) (i:Nat):W->Rho->Option Rho:=fun w ρ=>some (ρ.set i (if e=.V then .val w else .par w))
theorem gt_U {i:Nat}:Gt K .U (gName i) (gN .U i):=fun H0 Hs G ρ σ H v w ρ' Q I m e h=>by
 cases e; exact h _ (I.setU m)
def gsNil:List W->Rho->Option Rho
 | [],ρ=>some ρ
 | _,_=>none
def gsCons (f:W->Rho->Option Rho) (g:List W->Rho->Option Rho):List W->Rho->Option Rho
 | w::ws,ρ=>(f w ρ).bind (g ws)
 | [],_=>none
theorem gts_nil {e:Mode}:Gts K e gNil gsNil:=fun H0 G ρ σ H vs ws ρ' Q I r e h=>by
 cases r with
 | nil=>cases e; exact ⟨rfl,h _ I⟩
 | cons _ _=>cases e
theorem gts_cons {e:Mode} {t:TG} {u:TGs} {f:W->Rho->Option Rho} {g:List W->Rho->Option Rho} (he:e=.V\/e=.U) (h1:Gt K e t f) (h2:Gts K e u g):Gts K e (gCons t u) (gsCons f g):=fun H0 G ρ σ H vs ws ρ' Q I r q h=>by
 cases r with
 | nil=>cases q
 | cons a b=>
  unfold gsCons at q
  obtain ⟨ρ1,q1,q2⟩:=Option.bind_eq_some_iff.mp q
  refine ⟨_,_,rfl,h1 H0 H G ρ σ H _ _ ρ1 _ I ?_ q1 fun σ1 I1=>h2 H0 G ρ1 σ1 H _ _ ρ' Q I1 b q2 h⟩
  rcases he with rfl | rfl
  ·exact a
  ·exact a
def gT (n:Nat) (g:List W->Rho->Option Rho):W->Rho->Option Rho
 | .tup ws,ρ=>if ws.length=n then g ws ρ else none
 | _,_=>none
theorem gt_tup {e:Mode} {n:Nat} {u:TGs} {g:List W->Rho->Option Rho} (he:e=.V\/e=.U) (h:Gts K e u g):Gt K e (gTup K n u) (gT n g):=fun H0 Hs G ρ σ H v w ρ' Q I m q k=>by
 cases w <;> first | cases q | skip
 rename_i ws
 have q':(if ws.length=n then g ws ρ else none)=some ρ':=q
 by_cases hn:ws.length=n
 ·rw [if_pos hn] at q'
  rcases he with rfl | rfl
  ·obtain ⟨a,vs,e,s,r⟩:=Rep.inv m
   exact ⟨a,vs,e,SqT.of (I.gh _ _ s),by rw [r.length]; exact hn,h H0 G ρ σ H _ ws ρ' Q I (by rw [if_pos rfl]; exact r) q' k⟩
  ·obtain ⟨a,vs,e,s,r⟩:=Rep.inv m
   exact ⟨a,vs,e,SqT.of (I.join_H _ _ s),by rw [r.length]; exact hn,h H0 G ρ σ H _ ws ρ' Q I (by rw [if_neg (by intro z; cases z)]; exact r) q' k⟩
 ·rw [if_neg hn] at q'; cases q'
def toR {α:Type}:Option α->R α
 | some a=>.ok a
 | none=>.stuck
theorem PIv.own_upd {i:Nat} {a:Addr} {vs':List V} {ws ws':List W} (I:PIv K H0 G ρ σ H) (e:ρ[i]?=some (.own ws)) (es:σ[i]?=some (some (.ref a))) (r:Reps K G vs' ws'):PIv K H0 G (ρ.set i (.own ws')) σ (upd H a (.lst vs')):=by
 obtain ⟨a',vs,ev,ha,hg,h0,_⟩:=I.sl i _ _ e es
 cases ev
 refine ⟨I.g0,I.gl,fun b o q=>by rw [upd_ne (ne_of_none q hg)]; exact I.gh b o q,fun b o q=>by rw [upd_ne (ne_of_none q h0)]; exact I.hh b o q,by rw [List.length_set]; exact I.len,fun j x o h1 h2=>?_,fun p q ws1 us c hab h1 h2 h3 h4=>?_,fun p q ws1 us c hab h1 h2 h3 h4=>?_⟩
 ·by_cases hj:i=j
  ·subst hj
   rw [List.getElem?_set] at h1
   simp only [if_true] at h1
   split at h1 <;> simp only [Option.some.injEq,reduceCtorEq] at h1
   subst h1
   rw [es] at h2; cases h2
   exact ⟨a,vs',rfl,upd_same,hg,h0,r⟩
  ·rw [List.getElem?_set_ne hj] at h1
   have:=I.sl j x o h1 h2
   cases x with
   | own us=>
    obtain ⟨b,us',eb,hb,hgb,h0b,rb⟩:=this
    subst eb
    have hne:b≠a:=by
     rintro rfl
     exact I.ne i j ws us b hj e h1 es h2
    exact ⟨b,us',rfl,by rw [upd_ne hne]; exact hb,hgb,h0b,rb⟩
   | dic ks=>
    obtain ⟨b,us',eb,hb,hgb,h0b,rb⟩:=this
    have hne:b≠a:=by
     rintro rfl
     rw [ha] at hb; cases hb
    exact ⟨b,us',eb,by rw [upd_ne hne]; exact hb,hgb,h0b,rb⟩
   | dik ks=>
    obtain ⟨b,us',eb,hb,hgb,h0b,rb⟩:=this
    have hne:b≠a:=by
     rintro rfl
     rw [ha] at hb; cases hb
    exact ⟨b,us',eb,by rw [upd_ne hne]; exact hb,hgb,h0b,rb⟩
   | dos ks=>
    obtain ⟨b,us',eb,hb,hgb,h0b,rb⟩:=this
    have hne:b≠a:=by
     rintro rfl
     rw [ha] at hb; cases hb
    exact ⟨b,us',eb,by rw [upd_ne hne]; exact hb,hgb,h0b,rb⟩
   | un=>exact this
   | val _=>exact this
   | par _=>exact this
   | iop _ _=>exact this
   | hz _=>exact this
 ·have key:∀ {k:Nat} {us:List W},(ρ.set i (.own ws'))[k]?=some (.own us)->∃ us',ρ[k]?=some (.own us'):=fun {k us} hk=>by
   by_cases hik:i=k
   ·subst hik; exact ⟨ws,e⟩
   ·rw [List.getElem?_set_ne hik] at hk; exact ⟨us,hk⟩
  obtain ⟨w1,k1⟩:=key h1
  obtain ⟨w2,k2⟩:=key h2
  exact I.ne p q w1 w2 c hab k1 k2 h3 h4
 ·have na:i≠p:=by
   rintro rfl
   rw [List.getElem?_set] at h1
   simp only [if_true] at h1
   split at h1 <;> simp at h1
  have nb:i≠q:=by
   rintro rfl
   rw [List.getElem?_set] at h2
   simp only [if_true] at h2
   split at h2 <;> simp at h2
  rw [List.getElem?_set_ne na] at h1
  rw [List.getElem?_set_ne nb] at h2
  exact I.nd p q ws1 us c hab h1 h2 h3 h4
theorem PIv.own_at {i:Nat} {ws:List W} (I:PIv K H0 G ρ σ H) (e:ρ[i]?=some (.own ws)):∃ a vs,σ[i]?=some (some (.ref a))/\H a=some (.lst vs)/\G a=none/\H0 a=none/\Reps K G vs ws:=by
 have hi:i<σ.length:=by rw [<- I.len]; exact (List.getElem?_eq_some_iff.mp e).1
 have es:σ[i]?=some σ[i]:=by simp
 obtain ⟨a,vs,ev,r⟩:=I.sl i _ _ e es
 exact ⟨a,vs,by rw [es,ev],r⟩
def mApp (i:Nat) (m:Rho->R W):Rho->R Fl:=fun ρ=>match ρ[i]? with
 | some (.own ws)=>m ρ>>=fun w=>if ws.length<1000 then .ok (.nx (ρ.set i (.own (ws ++ [w])))) else .stuck
 | _=>.stuck
theorem c_app {i:Nat} {m:Rho->R W} (h:tSt K EX d (mApp i m) D σ H):tDrop (tApp (tVar i) (tM K EX .V m)) D σ H:=by
 obtain ⟨H0,G,ρ,I,o⟩:=h
 unfold mApp at o
 split at o
 ·rename_i ws e
  obtain ⟨a,vs,es,ha,hg,h0,r⟩:=I.own_at e
  refine ⟨.ref a,es,a,rfl,⟨vs,ha⟩,H0,G,ρ,I,OutS.bind I o fun x G1 H1 w e1 m1 o1=>?_⟩
  by_cases hl:ws.length<1000
  ·rw [if_pos hl] at o1
   have h1:=e1.hh a _ ha
   dsimp only
   rw [h1]
   dsimp only
   have hlen:vs.length=ws.length:=r.length
   exact ⟨Nat.lt_of_lt_of_le (by omega:vs.length<1000) (by decide),o1 G1 σ _ (Same.refl _) ((I.ext e1).own_upd e es ((r.same e1.gg).snoc m1))⟩
  ·rw [if_neg hl] at o1; exact o1.elim
 ·exact o.elim
def mSet (i:Nat) (mk me:Rho->R W):Rho->R Fl:=fun ρ=>match ρ[i]? with
 | some (.own ws)=>me ρ>>=fun w=>mk ρ>>=fun k=>(match k with
  | .int k=>(match ixN ws.length k with
   | some j=>.ok (.nx (ρ.set i (.own (ws.set j w))))
   | none=>.stuck)
  | _=>.stuck)
 | _=>.stuck
def mAug (i:Nat) (f:Int->Int->Int) (m:Rho->R W):Rho->R Fl:=fun ρ=>mVar .B i ρ>>=fun x=>m ρ>>=fun y=>match x,y with
 | .int a,.int b=>.ok (.nx (ρ.set i (.val (.int (f a b)))))
 | _,_=>.stuck
def mIf (c:Rho->R Bool) (m n:Rho->R Fl):Rho->R Fl:=fun ρ=>c ρ>>=fun b=>if b then m ρ else n ρ
theorem c_ifS {c:Rho->R Bool} {m n:Rho->R Fl} (h:tSt K EX d (mIf c m n) D σ H):tIfS (tT K EX c) (tSt K EX d m) (tSt K EX d n) D σ H:=by
 obtain ⟨H0,G,ρ,I,o⟩:=h
 refine ⟨H0,G,ρ,I,OutS.bind I o fun x G1 H1 w e1 m1 o1=>?_⟩
 cases m1
 cases x with
 | true=>exact ⟨H0,G1,ρ,I.ext e1,o1⟩
 | false=>exact ⟨H0,G1,ρ,I.ext e1,o1⟩
def frz (i:Nat) (ρ:Rho):Rho:=match ρ[i]? with
 | some (.own ws)=>ρ.set i (.val (.lst ws))
 | _=>ρ
theorem PIv.frz {i:Nat} (I:PIv K H0 G ρ σ H):∃ G',Same G G'/\PIv K H0 G' (frz i ρ) σ H:=by
 unfold TP.frz
 split
 ·rename_i ws e
  obtain ⟨a,vs,es,ha,hg,h0,r⟩:=I.own_at e
  have s1:Same G (upd G a (.lst vs)):=fun b o q=>by rw [upd_ne (ne_of_none q hg)]; exact q
  refine ⟨upd G a (.lst vs),s1,?_⟩
  have I1:PIv K H0 G (ρ.set i .un) σ H:=by
   refine ⟨I.g0,I.gl,I.gh,I.hh,by rw [List.length_set]; exact I.len,fun j x o h1 h2=>?_,fun p q ws1 us c hab h1 h2 h3 h4=>?_,fun p q ws1 us c hab h1 h2 h3 h4=>?_⟩
   ·by_cases hj:i=j
    ·subst hj
     rw [List.getElem?_set] at h1
     simp only [if_true] at h1
     split at h1 <;> simp only [Option.some.injEq,reduceCtorEq] at h1
     subst h1; trivial
    ·rw [List.getElem?_set_ne hj] at h1; exact I.sl j x o h1 h2
   ·have na:i≠p:=by
     rintro rfl
     rw [List.getElem?_set] at h1
     simp only [if_true] at h1
     split at h1 <;> simp at h1
    have nb:i≠q:=by
     rintro rfl
     rw [List.getElem?_set] at h2
     simp only [if_true] at h2
     split at h2 <;> simp at h2
    rw [List.getElem?_set_ne na] at h1
    rw [List.getElem?_set_ne nb] at h2
    exact I.ne p q ws1 us c hab h1 h2 h3 h4
   ·have na:i≠p:=by
     rintro rfl
     rw [List.getElem?_set] at h1
     simp only [if_true] at h1
     split at h1 <;> simp at h1
    have nb:i≠q:=by
     rintro rfl
     rw [List.getElem?_set] at h2
     simp only [if_true] at h2
     split at h2 <;> simp at h2
    rw [List.getElem?_set_ne na] at h1
    rw [List.getElem?_set_ne nb] at h2
    exact I.nd p q ws1 us c hab h1 h2 h3 h4
  have I2:PIv K H0 (upd G a (.lst vs)) (ρ.set i .un) σ H:=by
   refine ⟨fun b o q l=>s1 b o (I.g0 b o q l),fun b o q l=>by rw [upd_ne (ne_of_none q h0)]; exact I.gl b o q l,fun b o q=>?_,I.hh,I1.len,fun j x o h1 h2=>?_,I1.ne,I1.nd⟩
   ·by_cases hb:b=a
    ·subst hb; rw [upd_same] at q; cases q; exact ha
    ·rw [upd_ne hb] at q; exact I.gh b o q
   ·have:=I1.sl j x o h1 h2
    cases x with
    | un=>trivial
    | val w=>obtain ⟨v,e1,r1⟩:=this; exact ⟨v,e1,r1.same s1⟩
    | par w=>obtain ⟨v,e1,r1⟩:=this; exact ⟨v,e1,r1.same (join_same s1)⟩
    | own us=>
     obtain ⟨b,us',eb,hb,hgb,h0b,rb⟩:=this
     subst eb
     have hij:i≠j:=by
      rintro rfl
      rw [List.getElem?_set] at h1
      simp only [if_true] at h1
      split at h1 <;> simp at h1
     rw [List.getElem?_set_ne hij] at h1
     have hne:b≠a:=by
      rintro rfl
      exact I.ne i j ws us b hij e h1 es h2
     exact ⟨b,us',rfl,hb,by rw [upd_ne hne]; exact hgb,h0b,rb.same s1⟩
    | dic ks=>
     obtain ⟨b,us',eb,hb,hgb,h0b,rb⟩:=this
     have hne:b≠a:=by
      rintro rfl
      rw [ha] at hb; cases hb
     exact ⟨b,us',eb,hb,by rw [upd_ne hne]; exact hgb,h0b,rb⟩
    | dik ks=>
     obtain ⟨b,us',eb,hb,hgb,h0b,rb⟩:=this
     have hne:b≠a:=by
      rintro rfl
      rw [ha] at hb; cases hb
     exact ⟨b,us',eb,hb,by rw [upd_ne hne]; exact hgb,h0b,rb⟩
    | dos ks=>
     obtain ⟨b,us',eb,hb,hgb,h0b,rb⟩:=this
     have hne:b≠a:=by
      rintro rfl
      rw [ha] at hb; cases hb
     exact ⟨b,us',eb,hb,by rw [upd_ne hne]; exact hgb,h0b,rb.same s1⟩
    | iop p us=>obtain ⟨e1,vs1,h1',r1⟩:=this; exact ⟨e1,vs1,h1',r1.same s1⟩
    | hz w=>obtain ⟨v,e,r⟩:=this; exact ⟨v,e,r.same (join_same (noLG_same s1))⟩
  have I3:=I2.setV (i:=i) (v:=.ref a) (w:=.lst ws) (.lst upd_same (r.same s1))
  have e3:σ.set i (some (V.ref a))=σ:=by
   apply List.ext_getElem?
   intro j
   by_cases hj:i=j
   ·subst hj; rw [es,List.getElem?_set]; simp only [if_true]; rw [if_pos (List.getElem?_eq_some_iff.mp es).1]
   ·rw [List.getElem?_set_ne hj]
  rw [e3,List.set_set] at I3
  exact I3
 ·exact ⟨G,Same.refl G,I⟩
theorem c_frz {i:Nat} {m:Rho->R Fl} (h:tSt K EX d (fun ρ=>m (frz i ρ)) D σ H):tSt K EX d m D σ H:=by
 obtain ⟨H0,G,ρ,I,o⟩:=h
 obtain ⟨G',s,I'⟩:=I.frz (i:=i)
 exact ⟨H0,G',_,I',OutS.move s o⟩
end
end TP
namespace TP
open PySem L2
section
variable {K:Frag} {EX:EXT} {H0 G H G1 H1 G2 H2:Hp} {ρ:Rho} {σ:St} {d:Mode} {D:Ends}
structure ItOk (K:Frag) (e:Mode) (H0 Z G:Hp) (J:It) (ws:List W):Prop where
 go:∀ i H,i<ws.length->Same Z H->J.go i H
 stop:∀ H,Same Z H->J.stop ws.length H
 yld:∀ i H x H' w,ws[i]?=some w->Same Z H->J.yld i H x H'->∀ G2 ρ σ,PIv K H0 G2 ρ σ H->Same G G2->∃ G3,Ext G2 H G3 H'/\Md K H0 H G3 H' x w e
def OutI (K:Frag) (EX:EXT) (lp:Bool) (e:Mode) (H0 G H:Hp) (r:R (List W)) (Rr:It->Hp->Prop):Prop:=match r with
 | .ok ws=>∀ J G' H',Ext G H G' H'->ItOk K e H0 (if lp then join H0 G' else H') G' J ws->Rr J H'
 | .ex x=>∀ H',Same H H'->EX x H'
 | .stuck=>False
def tIt (K:Frag) (EX:EXT) (lp:Bool) (e:Mode) (m:Rho->R (List W)):TI:=fun σ H Rr=>∃ H0 G ρ,PIv K H0 G ρ σ H/\OutI K EX lp e H0 G H (m ρ) Rr
def mFor (mg:W->Rho->Option Rho) (mb:Rho->R Fl):List W->Rho->R Fl
 | [],ρ=>.ok (.nx ρ)
 | w::ws,ρ=>toR (mg w ρ)>>=fun ρ1=>mb ρ1>>=fun f=>match f with
  | .nx ρ2=>mFor mg mb ws ρ2
  | .ct ρ2=>mFor mg mb ws ρ2
  | .bk ρ2=>.ok (.nx ρ2)
  | .rt w=>.ok (.rt w)
theorem c_for {e:Mode} {g:TG} {mg:W->Rho->Option Rho} {mi:Rho->R (List W)} {mb:Rho->R Fl} (hg:Gt K e g mg) (h:tSt K EX d (fun ρ=>mi ρ>>=fun ws=>mFor mg mb ws ρ) D σ H) :
  tFor (tIt K EX true e mi) g (tSt K EX d mb) D σ H:=by
 obtain ⟨H0,G,ρ,I,o⟩:=h
 refine ⟨H0,G,ρ,I,?_⟩
 replace o:OutS K EX d H0 G (mi ρ>>=fun ws=>mFor mg mb ws ρ) D:=o
 revert o
 cases mi ρ with
 | stuck=>exact id
 | ex x=>exact fun o H' s=>o H' (I.hh.trans s)
 | ok ws=>
  intro o J G1 H1 e1 T
  have o1:OutS K EX d H0 G1 (mFor mg mb ws ρ) D:=OutS.move e1.gg o
  refine ⟨fun i m σ H=>m=ws.length-i/\i<=ws.length/\∃ G2 ρ2,Same G1 G2/\PIv K H0 G2 ρ2 σ H/\OutS K EX d H0 G2 (mFor mg mb (ws.drop i) ρ2) D,⟨_,rfl,Nat.zero_le _,G1,ρ,Same.refl _,I.ext e1,o1⟩,?_⟩
  rintro i m σ2 Hh ⟨rfl,hi,G2,ρ2,s2,I2,o2⟩
  have hz:Same (join H0 G1) Hh:=(join_same s2).trans I2.join_H
  by_cases hlt:i<ws.length
  ·refine .inr ⟨T.go i Hh hlt hz,fun σ' H'=>∃ G4 ρ4,Same G1 G4/\PIv K H0 G4 ρ4 σ' H'/\OutS K EX d H0 G4 (mFor mg mb (ws.drop (i+1)) ρ4) D,fun σ' H' zz75=>by obtain ⟨G4,ρ4,s4,I4,o4⟩:=zz75; exact ⟨ws.length-(i+1),by omega,rfl,hlt,G4,ρ4,s4,I4,o4⟩,fun x H' y=>?_⟩
   obtain ⟨G3,e3,m3⟩:=T.yld i Hh x H' ws[i] (by simp) hz y G2 ρ2 σ2 I2 s2
   rw [List.drop_eq_getElem_cons hlt] at o2
   unfold mFor at o2
   cases q:mg ws[i] ρ2 with
   | none=>rw [q] at o2; exact o2.elim
   | some ρ'=>
    rw [q] at o2
    refine hg H0 Hh G3 ρ2 σ2 H' x _ ρ' _ (I2.ext e3) m3 q fun σ' I'=>⟨H0,G3,ρ',I',?_⟩
    have o3:OutS K EX d H0 G3 (mb ρ'>>=fun f=>match f with
     | .nx ρ2=>mFor mg mb (ws.drop (i+1)) ρ2
     | .ct ρ2=>mFor mg mb (ws.drop (i+1)) ρ2
     | .bk ρ2=>.ok (.nx ρ2)
     | .rt w=>.ok (.rt w)) D:=OutS.move e3.gg o2
    revert o3
    have s3:Same G1 G3:=s2.trans e3.gg
    cases mb ρ' with
    | stuck=>exact id
    | ex x=>exact id
    | ok f=>
     cases f with
     | nx ρ4=>exact fun o4 G4 σ4 H4 s4 I4=>⟨G4,ρ4,s3.trans s4,I4,OutS.move s4 o4⟩
     | ct ρ4=>exact fun o4 G4 σ4 H4 s4 I4=>⟨G4,ρ4,s3.trans s4,I4,OutS.move s4 o4⟩
     | bk ρ4=>exact id
     | rt w=>exact id
  ·have e:i=ws.length:=by omega
   subst e
   refine .inl ⟨T.stop Hh hz,?_⟩
   rw [List.drop_length] at o2
   exact o2 G2 σ2 Hh (Same.refl _) I2
def iterW (c:Rho->R Bool) (b:Rho->R Fl):Nat->Rho->Option (R Fl)
 | 0,_=>none
 | n+1,ρ=>match c ρ with
  | .ok false=>some (.ok (.nx ρ))
  | .ok true=>(match b ρ with
   | .ok (.nx ρ')=>iterW c b n ρ'
   | .ok (.ct ρ')=>iterW c b n ρ'
   | .ok (.bk ρ')=>some (.ok (.nx ρ'))
   | .ok (.rt w)=>some (.ok (.rt w))
   | .ex e=>some (.ex e)
   | .stuck=>some .stuck)
  | .ex e=>some (.ex e)
  | .stuck=>some .stuck
theorem iterW_more {c:Rho->R Bool} {b:Rho->R Fl}:∀ (n:Nat) (ρ:Rho) (r:R Fl),iterW c b n ρ=some r->∀ m,n<=m->iterW c b m ρ=some r:=by
 intro n
 induction n with
 | zero=>intro ρ r h; cases h
 | succ n ih=>
  intro ρ r h m hm
  obtain ⟨k,rfl⟩:∃ k,m=k+1:=⟨m-1,by omega⟩
  have hk:=Nat.le_of_succ_le_succ hm
  unfold iterW at h ⊢
  revert h
  cases c ρ with
  | ex e=>exact id
  | stuck=>exact id
  | ok t=>
   cases t with
   | false=>exact id
   | true=>
    cases b ρ with
    | ex e=>exact id
    | stuck=>exact id
    | ok f=>
     cases f with
     | nx ρ'=>exact fun h=>ih ρ' r h k hk
     | ct ρ'=>exact fun h=>ih ρ' r h k hk
     | bk ρ'=>exact id
     | rt w=>exact id
open Classical in
def mWhile (c:Rho->R Bool) (b:Rho->R Fl):Rho->R Fl:=fun ρ=>if h:∃ r n,iterW c b n ρ=some r then h.choose else .stuck
theorem mWhile_eq {c:Rho->R Bool} {b:Rho->R Fl} {n:Nat} {r:R Fl} (h:iterW c b n ρ=some r):mWhile c b ρ=r:=by
 unfold mWhile
 have hx:∃ r n,iterW c b n ρ=some r:=⟨r,n,h⟩
 rw [dif_pos hx]
 obtain ⟨m,hm⟩:=hx.choose_spec
 have a:=iterW_more n ρ r h (max n m) (Nat.le_max_left _ _)
 have b:=iterW_more m ρ _ hm (max n m) (Nat.le_max_right _ _)
 rw [a] at b
 exact (Option.some.inj b).symm
theorem c_while {c:Rho->R Bool} {b:Rho->R Fl} (h:tSt K EX d (mWhile c b) D σ H):tWhile (tT K EX c) (tSt K EX d b) D σ H:=by
 obtain ⟨H0,G,ρ,I,o⟩:=h
 by_cases hx:∃ r n,iterW c b n ρ=some r
 ·obtain ⟨r,n,hn⟩:=hx
  rw [mWhile_eq hn] at o
  refine ⟨fun m σ2 Hh=>∃ G2 ρ2,Same G G2/\PIv K H0 G2 ρ2 σ2 Hh/\iterW c b m ρ2=some r,⟨n,G,ρ,Same.refl _,I,hn⟩,?_⟩
  rintro m σ2 Hh ⟨G2,ρ2,s2,I2,h2⟩
  have o2:OutS K EX d H0 G2 r D:=OutS.move s2 o
  refine ⟨H0,G2,ρ2,I2,?_⟩
  cases m with
  | zero=>cases h2
  | succ m=>
   unfold iterW at h2
   revert h2
   cases c ρ2 with
   | stuck=>intro h2; cases h2; exact o2
   | ex x=>intro h2; cases h2; exact fun H' s=>o2 H' (I2.hh.trans s)
   | ok t=>
    cases t with
    | false=>
     intro h2; cases h2
     intro v G3 H3 e3 q
     cases q
     rw [if_neg Bool.false_ne_true]
     exact o2 G3 σ2 H3 e3.gg (I2.ext e3)
    | true=>
     intro h2 v G3 H3 e3 q
     cases q
     rw [if_pos rfl]
     refine ⟨fun σ' H'=>∃ G4 ρ4,Same G G4/\PIv K H0 G4 ρ4 σ' H'/\iterW c b m ρ4=some r,fun σ' H' zz76=>by obtain ⟨G4,ρ4,s4,I4,h4⟩:=zz76; exact ⟨m,Nat.lt_succ_self m,G4,ρ4,s4,I4,h4⟩,H0,G3,ρ2,I2.ext e3,?_⟩
     have o3:OutS K EX d H0 G3 r D:=OutS.move e3.gg o2
     have s3:Same G G3:=s2.trans e3.gg
     revert h2
     cases b ρ2 with
     | stuck=>intro h2; cases h2; exact o3
     | ex x=>intro h2; cases h2; exact o3
     | ok f=>
      cases f with
      | nx ρ4=>exact fun h2 G4 σ4 H4 s4 I4=>⟨G4,ρ4,s3.trans s4,I4,h2⟩
      | ct ρ4=>exact fun h2 G4 σ4 H4 s4 I4=>⟨G4,ρ4,s3.trans s4,I4,h2⟩
      | bk ρ4=>intro h2; cases h2; exact o3
      | rt w=>intro h2; cases h2; exact o3
 ·unfold mWhile at o
  rw [dif_neg hx] at o
  exact o.elim
theorem Md.whole {v:V} {w:W} {Hs:Hp} (I:PIv K H0 G ρ σ H) (h:Md K H0 Hs G H v w .B):Rep K H v w:=by
 rcases h with h | ⟨a,vs,ws,rfl,rfl,h1,r⟩
 ·exact h.same I.join_H
 ·exact .lst h1 (r.same I.gh)
theorem MdA.whole {Hs:Hp} (I:PIv K H0 G ρ σ H) {ws:List W} {vs:List V} (h:MdA K .B H0 Hs G H ws vs):Reps K H vs ws:=
 @MdA.rec K .B H0 Hs G H (fun ws vs _=>Reps K H vs ws) .nil (fun h _ b=>.cons (h.whole I) b) ws vs h
def XE (_:XK):EXT:=fun _ _=>False
def spM (K:Frag) (n:Nat) (d:Mode) (f:List W->R W):Sp:=fun vs H Q E=>vs.length=n/\∃ ws,Reps K H vs ws/\match f ws with
 | .ok w=>∀ v G' H',Same H H'->Same G' H'->(∀ a o,H a=some o->isL o=true->G' a=none)->Md K H H G' H' v w d->Q v H'
 | .ex e=>∀ H',Same H H'->XE E e H'
 | .stuck=>False
def runB (n N:Nat) (m:Rho->R Fl) (ws:List W):R W:=if ws.length=n then (m (ws.map Sl.par++List.replicate (N-n) Sl.un)>>=fun f=>match f with
 | .rt w=>.ok w
 | .nx _=>.ok .non
 | _=>.stuck) else .stuck
theorem runB_len {n N:Nat} {m:Rho->R Fl} (ws:List W) (h:runB n N m ws≠.stuck):ws.length=n:=by
 unfold runB at h
 by_cases e:ws.length=n
 ·exact e
 ·rw [if_neg e] at h; exact absurd rfl h
def both (G G':Hp):Hp:=fun b=>match G b with
 | some o=>some o
 | none=>G' b
theorem c_call {n:Nat} {f:List W->R W} {E:XK} {ma:Rho->R (List W)} {Q:VK} (hd:d=.F\/d=.V) (hf:∀ ws,f ws≠.stuck->ws.length=n) (hE:∀ e H,EX e H->XE E e H) (h:tM K EX d (fun ρ=>ma ρ>>=fun ws=>f ws) σ H Q) :
  tCall (spM K n d f) [] E (tA K EX .B ma) σ H Q:=by
 obtain ⟨H0,G,ρ,I,o⟩:=h
 refine ⟨H0,G,ρ,I,Out.bind o fun xs G1 H1 ws e1 m1 o1=>?_⟩
 have I1:=I.ext e1
 have r:=MdA.whole I1 m1
 rw [List.append_nil]
 refine ⟨?_,ws,r,?_⟩
 ·rw [r.length]
  refine hf ws fun z=>?_
  rw [z] at o1; exact o1
 ·revert o1
  cases f ws with
  | stuck=>exact id
  | ex e=>exact fun o1 H' s=>hE e H' (o1 H' s)
  | ok w=>
   intro o1 v G' H' sH gH cl md
   have sB:Same G1 (both G1 G'):=fun b o q=>by unfold both; rw [q]
   have sB':Same G' (both G1 G'):=fun b o q=>by
    unfold both
    cases q1:G1 b with
    | none=>exact q
    | some u=>
     have a1:=sH b u (I1.gh b u q1)
     rw [gH b o q] at a1
     exact a1.symm
   have sHB:Same (both G1 G') H':=fun b o q=>by
    unfold both at q
    cases q1:G1 b with
    | none=>rw [q1] at q; exact gH b o q
    | some u=>rw [q1] at q; cases q; exact sH b _ (I1.gh b _ q1)
   have ex:Ext G1 H1 (both G1 G') H':=⟨sB,sH,sHB,fun b o q l g=>by unfold both; rw [g]; exact cl b o q l⟩
   refine o1 v (both G1 G') H' ex ?_
   rcases hd with rfl | rfl
   ·cases w with
    | lst us=>
     obtain ⟨a,vs,rfl,h1,h2,h3,r3⟩:=md
     exact ⟨a,vs,rfl,h1,by unfold both; rw [I1.gh.free h3]; exact h2,e1.hh.free h3,r3.same sB'⟩
    | non=>exact Rep.same sB' md
    | bl _=>exact Rep.same sB' md
    | int _=>exact Rep.same sB' md
    | str _=>exact Rep.same sB' md
    | ty _=>exact Rep.same sB' md
    | tup _=>exact Rep.same sB' md
    | scr _=>exact Rep.same sB' md
    | exc _ _=>exact Rep.same sB' md
    | cls _=>exact Rep.same sB' md
    | dst _ _ _ _=>exact Rep.same sB' md
   ·exact Rep.same sB' md
def noLH (H:Hp):Hp:=fun a=>match H a with
 | some o=>if isL o then none else some o
 | none=>none
theorem join_noLH:join H (noLH H)=H:=by
 funext a
 unfold join noLH
 cases q:H a with
 | none=>rfl
 | some o=>
  dsimp only
  cases isL o <;> rfl
theorem Reps.slots {vs:List V} {ws:List W} {i:Nat} {x:Sl} {o:Option V} {k k':Nat} (r:Reps K H vs ws):(ws.map Sl.par++List.replicate k Sl.un)[i]?=some x->(vs.map some++List.replicate k' none)[i]?=some o->x=.un\/∃ v w,x=.par w/\o=some v/\Rep K H v w:=
 Reps.ind (P:=fun vs ws=>∀ i,(ws.map Sl.par++List.replicate k Sl.un)[i]?=some x->(vs.map some++List.replicate k' none)[i]?=some o->x=.un\/∃ v w,x=.par w/\o=some v/\Rep K H v w) (fun i h1 h2=>by
  have h1:(List.replicate k Sl.un)[i]?=some x:=h1
  rw [List.getElem?_replicate] at h1
  by_cases hk:i<k
  ·rw [if_pos hk] at h1; exact .inl (Option.some.inj h1).symm
  ·rw [if_neg hk] at h1; cases h1) (fun r _ b i h1 h2=>by
  cases i with
  | zero=>exact .inr ⟨_,_,(Option.some.inj h1).symm,(Option.some.inj h2).symm,r⟩
  | succ i=>exact b i h1 h2) r i
theorem PIv.begin {vs:List V} {ws:List W} {k k':Nat} (r:Reps K H vs ws) (hk:k=k'):PIv K H (noLH H) (ws.map Sl.par++List.replicate k Sl.un) (vs.map some++List.replicate k' none) H where
 g0 a o e l:=by unfold noLH; rw [e]; dsimp only; rw [l]; rfl
 gl a o e l:=by unfold noLH; rw [e]; dsimp only; rw [l]; rfl
 gh a o e:=by
  unfold noLH at e
  cases q:H a with
  | none=>rw [q] at e; cases e
  | some u=>
   rw [q] at e
   dsimp only at e
   cases hl:isL u
   ·rw [hl] at e; exact e
   ·rw [hl] at e; cases e
 hh:=Same.refl H
 len:=by subst hk; simp [r.length]
 sl i x o h1 h2:=by
  rcases Reps.slots r h1 h2 with rfl | ⟨v,w,rfl,rfl,q⟩
  ·trivial
  ·exact ⟨v,rfl,by rw [join_noLH]; exact q⟩
 ne i j us xs a hij h1 _ _ _:=by
  have:∀ (i:Nat) (us:List W),(ws.map Sl.par++List.replicate k Sl.un)[i]?≠some (Sl.own us):=fun i us q=>by
   rw [List.getElem?_append] at q
   split at q
   ·rw [List.getElem?_map] at q
    cases hh:ws[i]? <;> rw [hh] at q <;> cases q
   ·rw [List.getElem?_replicate] at q
    split at q <;> cases q
  exact absurd h1 (this i us)
 nd i j us xs a hij h1 _ _ _:=by
  have:∀ (i:Nat) (us:List Str×List W),(ws.map Sl.par++List.replicate k Sl.un)[i]?≠some (Sl.dos us):=fun i us q=>by
   rw [List.getElem?_append] at q
   split at q
   ·rw [List.getElem?_map] at q
    cases hh:ws[i]? <;> rw [hh] at q <;> cases q
   ·rw [List.getElem?_replicate] at q
    split at q <;> cases q
  exact absurd h1 (this i us)
theorem c_body {n:Nat} {Nl:List Str} {m:Rho->R Fl} {vs:List V} {Q:VK} {E:XK} (hd:d=.F\/d=.V) (h:spM K n d (runB n Nl.length m) vs H Q E):tSt K (fun _ _=>False) d m { nx:=fun _ H'=>Q .non H',rt:=Q } (L2.start Nl vs) H:=by
 obtain ⟨hl,ws,r,o⟩:=h
 have hw:ws.length=n:=by rw [<- r.length]; exact hl
 unfold runB at o
 rw [if_pos hw] at o
 refine ⟨H,noLH H,_,PIv.begin (k:=Nl.length-n) r (by rw [hl]),?_⟩
 revert o
 cases m (ws.map Sl.par++List.replicate (Nl.length-n) Sl.un) with
 | stuck=>exact id
 | ex e=>exact fun o=>(o H (Same.refl H)).elim
 | ok f=>
  cases f with
  | nx ρ'=>exact fun o G' σ' H' s' I'=>o .non G' H' I'.hh I'.gh I'.gl (Md.sca rfl (fun _=>.non) d)
  | rt w=>exact fun o v G' H' _ s1 s2 c md=>o v G' H' s2 s1 c md
  | bk _=>exact fun o=>o.elim
  | ct _=>exact fun o=>o.elim
end
end TP
namespace TP
open PySem L2
section
variable {K:Frag} {EX:EXT} {H0 G H G1 H1 G2 H2:Hp} {ρ:Rho} {σ:St} {d:Mode} {D:Ends}
def elR (mg:W->Rho->Option Rho) (mc:Rho->R Bool) (me:Rho->R W) (ρ:Rho) (w:W):R (Option W):=match mg w ρ with
 | none=>.stuck
 | some ρ1=>(match mc ρ1 with
  | .ok true=>(match me ρ1 with
   | .ok y=>.ok (some y)
   | _=>.stuck)
  | .ok false=>.ok none
  | _=>.stuck)
def mapR (f:W->R (Option W)):List W->R (List W)
 | []=>.ok []
 | w::ws=>match f w,mapR f ws with
  | .ok (some y),.ok ys=>.ok (y::ys)
  | .ok none,.ok ys=>.ok ys
  | _,_=>.stuck
def mComp (N':Nat) (mg:W->Rho->Option Rho) (mc:Rho->R Bool) (me:Rho->R W) (ws:List W) (ρ:Rho):R W:=
 if ws.length<=1000 then (match mapR (elR mg mc me (ρ++List.replicate (N'-ρ.length) Sl.un)) ws with
  | .ok ys=>.ok (.lst ys)
  | _=>.stuck) else .stuck
theorem mapR_ok {f:W->R (Option W)}:∀ {ws ys:List W},mapR f ws=.ok ys->(∀ w∈ws,∃ o,f w=.ok o)/\ys=ws.filterMap fun w=>match f w with
  | .ok o=>o
  | _=>none:=by
 intro ws
 induction ws with
 | nil=>intro ys h; cases h; exact ⟨by simp,rfl⟩
 | cons w ws ih=>
  intro ys h
  unfold mapR at h
  cases hf:f w with
  | stuck=>rw [hf] at h; cases h
  | ex e=>rw [hf] at h; cases h
  | ok o=>
   rw [hf] at h
   cases hm:mapR f ws with
   | stuck=>rw [hm] at h; cases o <;> cases h
   | ex e=>rw [hm] at h; cases o <;> cases h
   | ok zs=>
    rw [hm] at h
    obtain ⟨h1,h2⟩:=ih hm
    refine ⟨fun u hu=>?_,?_⟩
    ·rcases List.mem_cons.mp hu with rfl | hu
     ·exact ⟨o,hf⟩
     ·exact h1 u hu
    ·cases o with
     | none=>cases h; rw [List.filterMap_cons,hf]; exact h2
     | some y=>cases h; rw [List.filterMap_cons,hf,h2]
theorem PIv.inner {N':List Str} (I:PIv K H0 G ρ σ H):PIv K H0 G (ρ++List.replicate (N'.length-ρ.length) Sl.un) (inner N' σ) H:=by
 have hl:=I.len
 unfold L2.inner
 rw [hl]
 refine ⟨I.g0,I.gl,I.gh,I.hh,by simp [hl],fun i x o h1 h2=>?_,fun p q ws us c hab h1 h2 h3 h4=>?_,fun p q ws us c hab h1 h2 h3 h4=>?_⟩
 ·by_cases hi:i<ρ.length
  ·rw [List.getElem?_append_left hi] at h1
   rw [List.getElem?_append_left (by omega)] at h2
   exact I.sl i x o h1 h2
  ·rw [List.getElem?_append_right (by omega),List.getElem?_replicate] at h1
   split at h1 <;> simp only [Option.some.injEq,reduceCtorEq] at h1
   subst h1; trivial
 ·have key:∀ {k:Nat} {us:List W},(ρ++List.replicate (N'.length-σ.length) Sl.un)[k]?=some (Sl.own us)->k<ρ.length/\ρ[k]?=some (Sl.own us):=fun {k us} hk=>by
   by_cases hi:k<ρ.length
   ·rw [List.getElem?_append_left hi] at hk; exact ⟨hi,hk⟩
   ·rw [List.getElem?_append_right (by omega),List.getElem?_replicate] at hk
    split at hk <;> simp at hk
  obtain ⟨l1,k1⟩:=key h1
  obtain ⟨l2,k2⟩:=key h2
  rw [List.getElem?_append_left (by omega)] at h3 h4
  exact I.ne p q ws us c hab k1 k2 h3 h4
 ·have key:∀ {k:Nat} {us:List Str×List W},(ρ++List.replicate (N'.length-σ.length) Sl.un)[k]?=some (Sl.dos us)->k<ρ.length/\ρ[k]?=some (Sl.dos us):=fun {k us} hk=>by
   by_cases hi:k<ρ.length
   ·rw [List.getElem?_append_left hi] at hk; exact ⟨hi,hk⟩
   ·rw [List.getElem?_append_right (by omega),List.getElem?_replicate] at hk
    split at hk <;> simp at hk
  obtain ⟨l1,k1⟩:=key h1
  obtain ⟨l2,k2⟩:=key h2
  rw [List.getElem?_append_left (by omega)] at h3 h4
  exact I.nd p q ws us c hab k1 k2 h3 h4
open Classical in
def rest (G H:Hp) (Dd:Addr) (H':Hp):Hp:=fun b=>if b=Dd\/∃ o,H b=some o/\isL o=true/\G b=none then none else H' b
theorem rest_none {Dd b:Addr} {H':Hp} (h:b=Dd\/∃ o,H b=some o/\isL o=true/\G b=none):rest G H Dd H' b=none:=by unfold rest; rw [if_pos h]
theorem rest_some {Dd b:Addr} {H':Hp} (h:¬ (b=Dd\/∃ o,H b=some o/\isL o=true/\G b=none)):rest G H Dd H' b=H' b:=by unfold rest; rw [if_neg h]
theorem rest_of {Dd b:Addr} {H':Hp} {o:HO} (h:rest G H Dd H' b=some o):H' b=some o/\¬ (b=Dd\/∃ o,H b=some o/\isL o=true/\G b=none):=by
 by_cases c:b=Dd\/∃ o,H b=some o/\isL o=true/\G b=none
 ·rw [rest_none c] at h; cases h
 ·rw [rest_some c] at h; exact ⟨h,c⟩
theorem PIv.rest {Dd:Addr} {H':Hp} (I:PIv K H0 G ρ σ H) (hD:H Dd=none) (s:Same H H'):Same G (rest G H Dd H')/\PIv K H0 (rest G H Dd H') ρ σ H':=by
 have sG:Same G (TP.rest G H Dd H'):=fun b o q=>by
  rw [rest_some]
  ·exact s b o (I.gh b o q)
  ·rintro (rfl | ⟨u,h1,h2,h3⟩)
   ·rw [I.gh _ _ q] at hD; cases hD
   ·rw [q] at h3; cases h3
 refine ⟨sG,fun a o e l=>sG a o (I.g0 a o e l),fun a o e l=>rest_none (.inr ⟨o,I.hh a o e,l,I.gl a o e l⟩),fun b o q=>(rest_of q).1,I.hh.trans s,I.len,fun i x o h1 h2=>?_,I.ne,I.nd⟩
 have:=I.sl i x o h1 h2
 cases x with
 | un=>trivial
 | val w=>obtain ⟨v,e,r⟩:=this; exact ⟨v,e,r.same sG⟩
 | par w=>obtain ⟨v,e,r⟩:=this; exact ⟨v,e,r.same (join_same sG)⟩
 | own ws=>
  obtain ⟨a,vs,e,h,g,h0,r⟩:=this
  exact ⟨a,vs,e,s a _ h,rest_none (.inr ⟨_,h,rfl,g⟩),h0,r.same sG⟩
 | dic ks=>
  obtain ⟨a,vs,e,h,g,h0,r⟩:=this
  exact ⟨a,vs,e,s a _ h,rest_none (.inr ⟨_,h,rfl,g⟩),h0,r⟩
 | dik ks=>
  obtain ⟨a,vs,e,h,g,h0,r⟩:=this
  exact ⟨a,vs,e,s a _ h,rest_none (.inr ⟨_,h,rfl,g⟩),h0,r⟩
 | iop p ws=>obtain ⟨e1,vs1,h1',r1⟩:=this; exact ⟨e1,vs1,h1',r1.same sG⟩
 | hz w=>obtain ⟨v,e,r⟩:=this; exact ⟨v,e,r.same (join_same (noLG_same sG))⟩
 | dos ks=>
  obtain ⟨a,vs,e,h,g,h0,r⟩:=this
  exact ⟨a,vs,e,s a _ h,rest_none (.inr ⟨_,h,rfl,g⟩),h0,r.same sG⟩
theorem rest_mono {Dd:Addr} {Ha Hb:Hp} (s:∀ b o,b≠Dd->Ha b=some o->Hb b=some o):Same (rest G H Dd Ha) (rest G H Dd Hb):=fun b o q=>by
 obtain ⟨h,c⟩:=rest_of q
 rw [rest_some c]
 exact s b o (fun z=>c (.inl z)) h
theorem rest_ext {Dd:Addr} {Ha Hb G':Hp} (hl:∃ ys,Ha Dd=some (.lst ys)) (s:Same H Ha) (e:Ext (rest G H Dd Ha) Ha G' Hb):Same G' (rest G H Dd Hb):=fun b o q=>by
 rw [rest_some]
 ·exact e.gh b o q
 ·rintro (rfl | ⟨u,h1,h2,h3⟩)
  ·obtain ⟨ys,hl⟩:=hl
   rw [e.keep _ _ hl rfl (rest_none (.inl rfl))] at q; cases q
  ·rw [e.keep _ _ (s _ _ h1) h2 (rest_none (.inr ⟨u,h1,h2,h3⟩))] at q; cases q
theorem c_comp {Q:VK} {e:Mode} {N':List Str} {g:TG} {mg:W->Rho->Option Rho} {mi:Rho->R (List W)} {mc:Rho->R Bool} {me:Rho->R W} (hg:Gt K e g mg) (h:tM K EX .F (fun ρ=>mi ρ>>=fun ws=>mComp N'.length mg mc me ws ρ) σ H Q) :
  tComp N' (tIt K EX false e mi) g (tT K EX mc) (tM K EX .V me) σ H Q:=by
 obtain ⟨H0,G,ρ,I,o⟩:=h
 refine ⟨H0,G,ρ,I,?_⟩
 replace o:Out EX G H (mdW K .F H0 H) (mi ρ>>=fun ws=>mComp N'.length mg mc me ws ρ) Q:=o
 revert o
 cases mi ρ with
 | stuck=>exact id
 | ex x=>exact id
 | ok ws=>
  intro o J G1 H1 e1 T Dd hD
  have I1:=I.ext e1
  replace o:Out EX G H (mdW K .F H0 H) (mComp N'.length mg mc me ws ρ) Q:=o
  unfold mComp at o
  by_cases hlen:ws.length<=1000
  ·rw [if_pos hlen] at o
   cases hm:mapR (elR mg mc me (ρ++List.replicate (N'.length-ρ.length) Sl.un)) ws with
   | stuck=>rw [hm] at o; exact o.elim
   | ex x=>rw [hm] at o; exact o.elim
   | ok ys=>
    rw [hm] at o
    obtain ⟨hall,hys⟩:=mapR_ok hm
    have T':ItOk K e H0 H1 G1 J ws:=by
     have:=T
     rw [if_neg Bool.false_ne_true] at this
     exact this
    generalize hρ:ρ++List.replicate (N'.length-ρ.length) Sl.un=ρi at hm hall hys
    refine ⟨fun i m H2=>m=ws.length-i/\i<=ws.length/\Same H1 H2/\∃ vs,H2 Dd=some (.lst vs)/\vs.length<=i/\Reps K (rest G1 H1 Dd H2) vs ((ws.take i).filterMap fun w=>match elR mg mc me ρi w with
     | .ok o=>o
     | _=>none),⟨_,rfl,Nat.zero_le _,fun b u q=>by rw [upd_ne (ne_of_none q hD)]; exact q,[],upd_same,Nat.le_refl _,.nil⟩,?_⟩
    rintro i m H2 ⟨rfl,hi,s2,vs,hDv,hvl,r2⟩
    by_cases hlt:i<ws.length
    ·refine .inr ⟨T'.go i H2 hlt s2,fun x H3 y=>?_⟩
     obtain ⟨sG,I2⟩:=I1.rest (Dd:=Dd) hD s2
     have I2i:=I2.inner (N':=N')
     obtain ⟨G3,e3,m3⟩:=T'.yld i H2 x H3 ws[i] (by simp) s2 y _ _ _ I2i sG
     obtain ⟨op,hop⟩:=hall ws[i] (List.getElem_mem hlt)
     have hop':=hop
     unfold elR at hop
     rw [<- hρ] at hop
     have htake:ws.take (i+1)=ws.take i ++ [ws[i]]:=by rw [List.take_succ_eq_append_getElem hlt]
     cases q:mg ws[i] (ρ++List.replicate (N'.length-ρ.length) Sl.un) with
     | none=>rw [q] at hop; cases hop
     | some ρ1=>
      rw [q] at hop
      dsimp only at hop
      refine hg H0 H2 G3 _ _ H3 x _ ρ1 _ (I2i.ext e3) m3 q fun σ4 I4=>⟨H0,G3,ρ1,I4,?_⟩
      cases hc:mc ρ1 with
      | stuck=>rw [hc] at hop; cases hop
      | ex x=>rw [hc] at hop; cases hop
      | ok b=>
       intro b' G5 H5 e5 eb
       cases eb
       rw [hc] at hop
       cases b with
       | false=>
        rw [if_neg Bool.false_ne_true]
        have hop2:op=none:=by cases hop; rfl
        have s5:Same H2 H5:=e3.hh.trans e5.hh
        refine ⟨ws.length-(i+1),by omega,rfl,hlt,s2.trans s5,vs,s5 _ _ hDv,by omega,?_⟩
        rw [htake,List.filterMap_append]
        have:([ws[i]].filterMap fun w=>match elR mg mc me ρi w with
         | .ok o=>o
         | _=>none) = []:=by
         rw [List.filterMap_cons,hop',hop2]; rfl
        rw [this,List.append_nil]
        exact r2.same (rest_mono fun b o _ q=>s5 b o q)
       | true=>
        dsimp only at hop
        rw [if_pos rfl]
        refine ⟨H0,G5,ρ1,I4.ext e5,?_⟩
        cases hme:me ρ1 with
        | stuck=>rw [hme] at hop; cases hop
        | ex x=>rw [hme] at hop; cases hop
        | ok z=>
         rw [hme] at hop
         have hop2:op=some z:=by cases hop; rfl
         intro yv G6 H6 e6 m6
         have e36:Ext (TP.rest G1 H1 Dd H2) H2 G6 H6:=(e3.trans e5).trans e6
         have s6:Same H2 H6:=e36.hh
         refine ⟨vs,s6 _ _ hDv,Nat.lt_of_le_of_lt hvl (Nat.lt_of_lt_of_le (by omega:i<1000) (by decide)),ws.length-(i+1),by omega,rfl,hlt,fun b u q=>by rw [upd_ne (ne_of_none q hD)]; exact s6 b u (s2 b u q),vs ++ [yv],upd_same,by rw [List.length_append]; simp; omega,?_⟩
         rw [htake,List.filterMap_append]
         have:([ws[i]].filterMap fun w=>match elR mg mc me ρi w with
          | .ok o=>o
          | _=>none) = [z]:=by
          rw [List.filterMap_cons,hop',hop2]; rfl
         rw [this]
         have k1:Same (TP.rest G1 H1 Dd H2) (TP.rest G1 H1 Dd (upd H6 Dd (.lst (vs ++ [yv])))):=rest_mono fun b o hb q=>by rw [upd_ne hb]; exact s6 b o q
         have k2:Same G6 (TP.rest G1 H1 Dd (upd H6 Dd (.lst (vs ++ [yv])))):=(rest_ext ⟨vs,hDv⟩ s2 e36).trans (rest_mono fun b o hb q=>by rw [upd_ne hb]; exact q)
         exact (r2.same k1).snoc (Rep.same k2 m6)
    ·have ei:i=ws.length:=by omega
     subst ei
     refine .inl ⟨T'.stop H2 s2,?_⟩
     rw [List.take_length,<- hys] at r2
     obtain ⟨sG,I2⟩:=I1.rest (Dd:=Dd) hD s2
     refine o _ (TP.rest G1 H1 Dd H2) H2 ⟨e1.gg.trans sG,e1.hh.trans s2,I2.gh,fun b u q l g=>rest_none (.inr ⟨u,e1.hh b u q,l,e1.keep b u q l g⟩)⟩ ⟨Dd,vs,rfl,hDv,rest_none (.inl rfl),e1.hh.free hD,r2⟩
  ·rw [if_neg hlen] at o; exact o.elim
def seqW:W->R (List W)
 | .lst ws=>.ok ws
 | .tup ws=>.ok ws
 | .scr ws=>.ok ws
 | _=>.stuck
theorem sq_same {t:Bool} {a:Addr} {xs:List V} (e:Same H H1) (h:Sq K H t a xs):Sq K H1 t a xs:=by
 unfold Sq at h ⊢
 split at h
 ·rename_i ht; rw [if_pos ht]; exact sqT_same e h
 ·rename_i ht; rw [if_neg ht]; exact Same.seq e h
theorem sqT {a:Addr} {xs:List V} (h:SqT K H a xs):Sq K H true a xs:=by unfold Sq; rw [if_pos rfl]; exact h
theorem sqL {a:Addr} {xs:List V} (h:SqL K H a xs):Sq K H false a xs:=by unfold Sq; rw [if_neg Bool.false_ne_true]; exact h
theorem Rep.sq {F:Hp} {x:V} {w:W} {ws:List W} (h:Rep K F x w) (hw:seqW w=.ok ws):∃ t a vs,x=.ref a/\Sq K F t a vs/\Reps K F vs ws:=by
 cases w <;> first | (cases hw; done) | skip
 ·obtain ⟨a,vs,e,s,r⟩:=h.inv; exact ⟨true,a,vs,e,sqT (SqT.of s),R.ok.inj hw ▸ r⟩
 ·obtain ⟨a,vs,e,s,r⟩:=h.inv; exact ⟨false,a,vs,e,sqL (SqL.of s),R.ok.inj hw ▸ r⟩
 ·obtain ⟨a,vs,e,s,r⟩:=h.inv; exact ⟨false,a,vs,e,sqL s,R.ok.inj hw ▸ r⟩
def srcM:Bool->Mode->Mode
 | true,e=>e
 | false,.V=>.C
 | false,_=>.B
def fz (e:Mode) (H0 G:Hp):Hp:=if e=.V then G else join H0 G
theorem Md.src {lp:Bool} {e:Mode} {Hs:Hp} {x:V} {w:W} {ws:List W} (he:e=.V\/e=.U) (I:PIv K H0 G ρ σ H) (m:Md K H0 Hs G H x w (srcM lp e)) (hw:seqW w=.ok ws) :
  ∃ t a vs,x=.ref a/\Sq K (if lp then join H0 G else H) t a vs/\Reps K (fz e H0 G) vs ws:=by
 unfold fz
 rcases he with rfl | rfl
 ·rw [if_pos rfl]
  cases lp with
  | true=>
   obtain ⟨t,a,vs,e1,e2,e3⟩:=Rep.sq m hw
   exact ⟨t,a,vs,e1,by rw [if_pos rfl]; exact sq_same I.G_join e2,e3⟩
  | false=>
   rw [if_neg Bool.false_ne_true]
   rcases m with m | ⟨a,vs,us,rfl,rfl,h1,r⟩
   ·obtain ⟨t,a,vs,e1,e2,e3⟩:=Rep.sq m hw
    exact ⟨t,a,vs,e1,sq_same I.gh e2,e3⟩
   ·cases hw; exact ⟨false,a,vs,rfl,sqL (SqL.of h1),r⟩
 ·rw [if_neg (show ¬ (Mode.U=Mode.V) by intro z; cases z)]
  cases lp with
  | true=>
   obtain ⟨t,a,vs,e1,e2,e3⟩:=Rep.sq m hw
   exact ⟨t,a,vs,e1,by rw [if_pos rfl]; exact e2,e3⟩
  | false=>
   rw [if_neg Bool.false_ne_true]
   rcases m with m | ⟨a,vs,us,rfl,rfl,h1,r⟩
   ·obtain ⟨t,a,vs,e1,e2,e3⟩:=Rep.sq m hw
    exact ⟨t,a,vs,e1,sq_same I.join_H e2,e3⟩
   ·cases hw; exact ⟨false,a,vs,rfl,sqL (SqL.of h1),r.same I.G_join⟩
theorem Md.of_fz {e:Mode} {Hs:Hp} {v:V} {w:W} (he:e=.V\/e=.U) (h:Rep K (fz e H0 G) v w):Md K H0 Hs G H v w e:=by
 unfold fz at h
 rcases he with rfl | rfl
 ·rw [if_pos rfl] at h; exact h
 ·rw [if_neg (show ¬ (Mode.U=Mode.V) by intro z; cases z)] at h; exact h
theorem fz_same {e:Mode} (s:Same G G1):Same (fz e H0 G) (fz e H0 G1):=by
 unfold fz
 split
 ·exact s
 ·exact join_same s
theorem itok_sq {e:Mode} {Z:Hp} {t:Bool} {a:Addr} {vs:List V} {ws:List W} (he:e=.V\/e=.U) (s:Sq K Z t a vs) (r:Reps K (fz e H0 G) vs ws):ItOk K e H0 Z G (ItQ K t a) ws:=by
 have hl:=r.length
 cases t with
 | true=>
  have hq:∀ H,Same Z H->SqT K H a vs:=fun H z=>by have:=sq_same z s; unfold Sq at this; rw [if_pos rfl] at this; exact this
  refine ⟨fun i H hi z=>⟨vs,vs[i]'(by omega),hq H z,by simp⟩,fun H z=>⟨vs,hq H z,by omega⟩,fun i H x H' w hw z zz77 G2 ρ σ I sg=>?_⟩
  obtain ⟨e1,y⟩:=zz77
  subst e1
  have hx:=y vs (hq _ z)
  obtain ⟨v,hv,rv⟩:=Reps.get r hw
  rw [hx] at hv; cases hv
  exact ⟨G2,Ext.refl I.gh,Md.of_fz he (rv.same (fz_same sg))⟩
 | false=>
  have hq:∀ H,Same Z H->SqL K H a vs:=fun H z=>by have:=sq_same z s; unfold Sq at this; rw [if_neg Bool.false_ne_true] at this; exact this
  refine ⟨fun i H hi z=>⟨vs,vs[i]'(by omega),hq H z,by simp⟩,fun H z=>⟨vs,hq H z,by omega⟩,fun i H x H' w hw z zz78 G2 ρ σ I sg=>?_⟩
  obtain ⟨e1,y⟩:=zz78
  subst e1
  have hx:=y vs (hq _ z)
  obtain ⟨v,hv,rv⟩:=Reps.get r hw
  rw [hx] at hv; cases hv
  exact ⟨G2,Ext.refl I.gh,Md.of_fz he (rv.same (fz_same sg))⟩
theorem lp_H {lp:Bool} (I:PIv K H0 G ρ σ H):Same (if lp then join H0 G else H) H:=by
 cases lp
 ·exact Same.refl H
 ·exact I.join_H
theorem c_iSq {lp:Bool} {e:Mode} {ml:Rho->R W} {Rr:It->Hp->Prop} (he:e=.V\/e=.U) (h:tIt K EX lp e (fun ρ=>ml ρ>>=seqW) σ H Rr):iSq K (tM K EX (srcM lp e) ml) σ H Rr:=by
 obtain ⟨H0,G,ρ,I,o⟩:=h
 refine ⟨H0,G,ρ,I,?_⟩
 replace o:OutI K EX lp e H0 G H (ml ρ>>=seqW) Rr:=o
 revert o
 cases ml ρ with
 | stuck=>exact id
 | ex x=>exact id
 | ok w=>
  intro o x G1 H1 e1 m1
  have I1:=I.ext e1
  have o':OutI K EX lp e H0 G H (seqW w) Rr:=o
  cases q:seqW w with
  | stuck=>rw [q] at o'; exact o'.elim
  | ex z=>cases w <;> cases q
  | ok ws=>
   rw [q] at o'
   obtain ⟨t,a,vs,ex,s,r⟩:=Md.src he I1 m1 q
   exact ⟨a,ex,t,vs,sq_same (lp_H I1) s,o' _ G1 H1 e1 (itok_sq he s r)⟩
def rngW (lo hi:Int):R (List W):=if -1000000<=lo/\lo<=1000000 /\ -1000000<=hi/\hi<=1000000 then .ok ((List.range (hi-lo).toNat).map fun k=>W.int (lo+(k:Nat))) else .stuck
def rng1:List W->R (List W)
 | [.int j]=>rngW 0 j
 | _=>.stuck
def rng2:List W->R (List W)
 | [.int i,.int j]=>rngW i j
 | _=>.stuck
theorem itok_rng {e:Mode} {Z:Hp} {lo:Int} {n:Nat} (he:e=.V\/e=.U):ItOk K e H0 Z G (Itr lo n) ((List.range n).map fun k=>W.int (lo+(k:Nat))):=by
 refine ⟨fun i H hi _=>by show i<n; simpa using hi,fun H _=>by simp [Itr],fun i H x H' w hw _ zz79 G2 ρ σ I _=>?_⟩
 obtain ⟨e1,e2⟩:=zz79
 subst e1; subst e2
 rw [List.getElem?_map] at hw
 cases q:(List.range n)[i]? with
 | none=>rw [q] at hw; cases hw
 | some k=>
  rw [q] at hw
  have hk:k=i:=by
   have:=List.getElem?_eq_some_iff.mp q
   obtain ⟨h1,h2⟩:=this
   simpa using h2.symm
  subst hk
  cases hw
  refine ⟨G2,Ext.refl I.gh,Md.sca rfl (fun _=>.int) e⟩
theorem tIt_bind {lp:Bool} {e b:Mode} {ma:Rho->R (List W)} {k:List W->R (List W)} {Rr:It->Hp->Prop} {Q:List V->Hp->Prop} (h:tIt K EX lp e (fun ρ=>ma ρ>>=k) σ H Rr)
  (hq:∀ H0 G ρ G1 H1 xs ws us,PIv K H0 G ρ σ H->Ext G H G1 H1->MdA K b H0 H G1 H1 ws xs->k ws=.ok us->(∀ J G' H',Ext G H G' H'->ItOk K e H0 (if lp then join H0 G' else H') G' J us->Rr J H')->Q xs H1)
  (hx:∀ ws e,k ws≠.ex e):tA K EX b ma σ H Q:=by
 obtain ⟨H0,G,ρ,I,o⟩:=h
 refine ⟨H0,G,ρ,I,?_⟩
 replace o:OutI K EX lp e H0 G H (ma ρ>>=k) Rr:=o
 revert o
 cases ma ρ with
 | stuck=>exact id
 | ex x=>exact id
 | ok ws=>
  intro o xs G1 H1 e1 m1
  have o':OutI K EX lp e H0 G H (k ws) Rr:=o
  cases q:k ws with
  | stuck=>rw [q] at o'; exact o'.elim
  | ex z=>exact absurd q (hx ws z)
  | ok us=>rw [q] at o'; exact hq H0 G ρ G1 H1 xs ws us I e1 m1 q o'
theorem rngW_ok {lo hi:Int} {us:List W} (h:rngW lo hi=.ok us):(-1000000<=lo/\lo<=1000000 /\ -1000000<=hi/\hi<=1000000)/\us=(List.range (hi-lo).toNat).map fun k=>W.int (lo+(k:Nat)):=by
 unfold rngW at h
 split at h
 ·cases h; rename_i c; exact ⟨c,rfl⟩
 ·cases h
theorem rngW_nex {lo hi:Int} {e:XW} (h:rngW lo hi=.ex e):False:=by
 unfold rngW at h
 by_cases c:-1000000<=lo/\lo<=1000000 /\ -1000000<=hi/\hi<=1000000
 ·rw [if_pos c] at h; cases h
 ·rw [if_neg c] at h; cases h
theorem c_rng1 {lp:Bool} {e:Mode} {ma:Rho->R (List W)} {Rr:It->Hp->Prop} (he:e=.V\/e=.U) (h:tIt K EX lp e (fun ρ=>ma ρ>>=rng1) σ H Rr):iRng1 (tA K EX .B ma) σ H Rr:=by
 refine tIt_bind h (fun H0 G ρ G1 H1 xs ws us I e1 m1 q o=>?_) (fun ws e z=>?_)
 ·cases m1 with
  | nil=>cases q
  | @cons w _ _ _ a t=>
   cases t with
   | cons _ _=>first | (cases q; done) | (cases w <;> cases q)
   | nil=>
    cases w <;> first | (cases q; done) | skip
    rename_i j
    obtain ⟨c,rfl⟩:=rngW_ok (show rngW 0 j=_ from q)
    refine ⟨j,by rw [Md.intB a],by omega,by omega,?_⟩
    have:=o (Itr 0 j.toNat) G1 H1 e1
    rw [Int.sub_zero] at this
    exact this (itok_rng he)
 ·cases ws with
  | nil=>cases z
  | cons w t=>
   cases t with
   | cons _ _=>first | (cases z; done) | (cases w <;> cases z)
   | nil=>
    cases w <;> first | (cases z; done) | skip
    exact rngW_nex (lo:=0) z
def zipW:List (List W)->List (List W)
 | [xs,ys]=>xs.zipWith (fun x y=>[x,y]) ys
 | [xs,ys,zs]=>(xs.zip ys).zipWith (fun p z=>[p.1,p.2,z]) zs
 | _=>[]
def seqWs:List W->R (List (List W))
 | []=>.ok []
 | w::ws=>match seqW w,seqWs ws with
  | .ok x,.ok xs=>.ok (x::xs)
  | _,_=>.stuck
def zipR (ws:List W):R (List W):=if ws.length=2\/ws.length=3 then (match seqWs ws with
 | .ok xs=>.ok ((zipW xs).map W.tup)
 | _=>.stuck) else .stuck
theorem rep_new {e:Mode} {p:Addr} {vs:List V} {ws:List W} {Hs:Hp} (he:e=.V\/e=.U) (I:PIv K H0 G ρ σ H) (hp:H p=none) (r:Reps K (fz e H0 G) vs ws):Ext G H (upd G p (.tup vs)) (upd H p (.tup vs))/\Md K H0 Hs (upd G p (.tup vs)) (upd H p (.tup vs)) (.ref p) (.tup ws) e:=by
 refine ⟨new_extG I.gh hp,?_⟩
 have gp:G p=none:=I.gh.free hp
 rcases he with rfl | rfl
 ·unfold fz at r
  rw [if_pos rfl] at r
  exact .tup upd_same (r.same fun b u q=>by rw [upd_ne (ne_of_none q gp)]; exact q)
 ·unfold fz at r
  rw [if_neg (show ¬ (Mode.U=Mode.V) by intro z; cases z)] at r
  show Rep K (join H0 (upd G p (.tup vs))) _ _
  rw [join_upd (I.hh.free hp)]
  exact .tup upd_same (r.same fun b u q=>by rw [upd_ne (ne_of_none (I.join_H b u q) hp)]; exact q)
theorem itok_zip2 {e:Mode} {Z:Hp} {t u:Bool} {a b:Addr} {xs ys:List V} {us vs:List W} (he:e=.V\/e=.U) (s1:Sq K Z t a xs) (s2:Sq K Z u b ys) (r1:Reps K (fz e H0 G) xs us) (r2:Reps K (fz e H0 G) ys vs) :
  ItOk K e H0 Z G (ItZ K [(t,a),(u,b)]) ((us.zipWith (fun x y=>[x,y]) vs).map W.tup):=by
 have Rn:=runs_zip2 s1 s2
 have l1:=r1.length
 have l2:=r2.length
 have hl:((us.zipWith (fun x y=>[x,y]) vs).map W.tup).length=min xs.length ys.length:=by simp [l1,l2]
 refine ⟨fun i H hi z=>Rn.go i H (by omega) z,fun H z=>by rw [hl]; exact Rn.stop H z,fun i H x H' w hw z y G2 ρ σ I sg=>?_⟩
 have hi:i<min xs.length ys.length:=by
  rw [<- hl]; exact (List.getElem?_eq_some_iff.mp hw).1
 obtain ⟨p,y1,z1,rfl,hp,rfl,hy,hz⟩:=Rn.yld i H x H' hi z y
 obtain ⟨w1,e1,q1⟩:=Reps.get' r1 hy
 obtain ⟨w2,e2,q2⟩:=Reps.get' r2 hz
 have hw':w=.tup [w1,w2]:=by
  rw [List.getElem?_map,List.getElem?_zipWith,e1,e2] at hw
  cases hw; rfl
 subst hw'
 obtain ⟨x1,x2⟩:=rep_new (Hs:=H) he I hp (.cons (q1.same (fz_same sg)) (.cons (q2.same (fz_same sg)) .nil))
 exact ⟨_,x1,x2⟩
theorem itok_zip3 {e:Mode} {Z:Hp} {t u v:Bool} {a b c:Addr} {xs ys zs:List V} {us vs ts:List W} (he:e=.V\/e=.U) (s1:Sq K Z t a xs) (s2:Sq K Z u b ys) (s3:Sq K Z v c zs) (r1:Reps K (fz e H0 G) xs us) (r2:Reps K (fz e H0 G) ys vs) (r3:Reps K (fz e H0 G) zs ts) :
  ItOk K e H0 Z G (ItZ K [(t,a),(u,b),(v,c)]) (((us.zip vs).zipWith (fun p z=>[p.1,p.2,z]) ts).map W.tup):=by
 have Rn:=runs_zip3 s1 s2 s3
 have l1:=r1.length
 have l2:=r2.length
 have l3:=r3.length
 have hl:(((us.zip vs).zipWith (fun p z=>[p.1,p.2,z]) ts).map W.tup).length=min xs.length (min ys.length zs.length):=by simp [l1,l2,l3,Nat.min_assoc]
 refine ⟨fun i H hi z=>Rn.go i H (by omega) z,fun H z=>by rw [hl]; exact Rn.stop H z,fun i H x H' w hw z y G2 ρ σ I sg=>?_⟩
 have hi:i<min xs.length (min ys.length zs.length):=by
  rw [<- hl]; exact (List.getElem?_eq_some_iff.mp hw).1
 obtain ⟨p,y1,z1,t1,rfl,hp,rfl,hy,hz,ht⟩:=Rn.yld i H x H' hi z y
 obtain ⟨w1,e1,q1⟩:=Reps.get' r1 hy
 obtain ⟨w2,e2,q2⟩:=Reps.get' r2 hz
 obtain ⟨w3,e3,q3⟩:=Reps.get' r3 ht
 have hw':w=.tup [w1,w2,w3]:=by
  rw [List.getElem?_map,List.getElem?_zipWith,List.zip,List.getElem?_zipWith,e1,e2,e3] at hw
  cases hw; rfl
 subst hw'
 obtain ⟨x1,x2⟩:=rep_new (Hs:=H) he I hp (.cons (q1.same (fz_same sg)) (.cons (q2.same (fz_same sg)) (.cons (q3.same (fz_same sg)) .nil)))
 exact ⟨_,x1,x2⟩
theorem seqWs_cons {w:W} {ws:List W} {xs:List (List W)} (h:seqWs (w::ws)=.ok xs):∃ y ys,seqW w=.ok y/\seqWs ws=.ok ys/\xs=y::ys:=by
 unfold seqWs at h
 cases h1:seqW w with
 | stuck=>rw [h1] at h; cases h
 | ex _=>rw [h1] at h; cases h
 | ok y=>
  rw [h1] at h
  cases h2:seqWs ws with
  | stuck=>rw [h2] at h; cases h
  | ex _=>rw [h2] at h; cases h
  | ok ys=>rw [h2] at h; cases h; exact ⟨y,ys,rfl,rfl,rfl⟩
theorem c_zip {lp:Bool} {e:Mode} {ma:Rho->R (List W)} {Rr:It->Hp->Prop} (he:e=.V\/e=.U) (h:tIt K EX lp e (fun ρ=>ma ρ>>=zipR) σ H Rr):iZip K (tA K EX (srcM lp e) ma) σ H Rr:=by
 refine tIt_bind h (fun H0 G ρ G1 H1 xs ws us I e1 m1 q o=>?_) (fun ws e z=>?_)
 ·have I1:=I.ext e1
  unfold zipR at q
  split at q
  ·rename_i hn
   cases hs:seqWs ws with
   | stuck=>rw [hs] at q; cases q
   | ex _=>rw [hs] at q; cases q
   | ok ls=>
    rw [hs] at q
    cases q
    cases m1 with
    | nil=>simp at hn
    | cons a1 m1=>
     cases m1 with
     | nil=>simp at hn
     | cons a2 m1=>
      obtain ⟨y1,ys,h1,hs1,rfl⟩:=seqWs_cons hs
      obtain ⟨y2,ys,h2,hs2,rfl⟩:=seqWs_cons hs1
      obtain ⟨t1,p1,v1,rfl,q1,r1⟩:=Md.src he I1 a1 h1
      obtain ⟨t2,p2,v2,rfl,q2,r2⟩:=Md.src he I1 a2 h2
      have k1:=sq_same (lp_H I1) q1
      have k2:=sq_same (lp_H I1) q2
      cases m1 with
      | nil=>
       cases hs2
       refine ⟨[(t1,p1),(t2,p2)],rfl,.inl rfl,fun u hu=>?_,o _ G1 H1 e1 (itok_zip2 he q1 q2 r1 r2)⟩
       simp only [List.mem_cons,List.not_mem_nil,or_false] at hu
       rcases hu with rfl | rfl
       ·exact ⟨_,k1⟩
       ·exact ⟨_,k2⟩
      | cons a3 m1=>
       cases m1 with
       | cons _ _=>simp at hn
       | nil=>
        obtain ⟨y3,ys,h3,hs3,rfl⟩:=seqWs_cons hs2
        cases hs3
        obtain ⟨t3,p3,v3,rfl,q3,r3⟩:=Md.src he I1 a3 h3
        refine ⟨[(t1,p1),(t2,p2),(t3,p3)],rfl,.inr rfl,fun u hu=>?_,o _ G1 H1 e1 (itok_zip3 he q1 q2 q3 r1 r2 r3)⟩
        simp only [List.mem_cons,List.not_mem_nil,or_false] at hu
        rcases hu with rfl | rfl | rfl
        ·exact ⟨_,k1⟩
        ·exact ⟨_,k2⟩
        ·exact ⟨_,sq_same (lp_H I1) q3⟩
  ·cases q
 ·unfold zipR at z
  split at z
  ·split at z <;> cases z
  ·cases z
end
end TP
namespace TP
open PySem L2
section
variable {K:Frag} {EX:EXT} {H0 G H G1 H1 G2 H2:Hp} {ρ:Rho} {σ:St} {d:Mode} {D:Ends} {Q:VK}
theorem Reps.atI {F:Hp} {vs:List V} {ws:List W} {i:Int} {w:W} (r:Reps K F vs ws) (h:L2.atI ws i=some w):∃ v,L2.atI vs i=some v/\Rep K F v w:=by
 unfold L2.atI at h ⊢
 rw [r.length]
 cases q:ixN ws.length i with
 | none=>rw [q] at h; cases h
 | some j=>rw [q] at h; exact Reps.get r h
def fIx:W->W->R W
 | .lst ws,.int i=>toR (L2.atI ws i)
 | .tup ws,.int i=>toR (L2.atI ws i)
 | .scr ws,.int i=>toR (L2.atI ws i)
 | _,_=>.stuck
theorem o2_ixU:Op2 K .B .U (rIx K) fIx:=by
 intro EX H0 Hs G H ρ σ Ha Hb x y u v Q I s mx my o
 cases u <;> first | exact o.elim | skip
 all_goals (cases v <;> first | exact o.elim | skip)
 ·rename_i ws i
  obtain ⟨a,vs,rfl,hs,r⟩:=mx.tupB I
  replace o:Out EX G H (mdW K .U H0 Hs) (toR (L2.atI ws i)) Q:=o
  cases q:L2.atI ws i with
  | none=>rw [q] at o; exact o.elim
  | some w=>
   rw [q] at o
   obtain ⟨v,hv,rv⟩:=r.atI q
   exact .inr (.inl ⟨a,vs,i,v,rfl,my.intB,SqT.of hs,hv,o v G H (Ext.refl I.gh) rv⟩)
 ·rename_i ws i
  obtain ⟨a,vs,rfl,hs,r⟩:=mx.lstB I
  replace o:Out EX G H (mdW K .U H0 Hs) (toR (L2.atI ws i)) Q:=o
  cases q:L2.atI ws i with
  | none=>rw [q] at o; exact o.elim
  | some w=>
   rw [q] at o
   obtain ⟨v,hv,rv⟩:=r.atI q
   exact .inl ⟨a,vs,i,v,rfl,my.intB,SqL.of hs,hv,o v G H (Ext.refl I.gh) rv⟩
 ·rename_i ws i
  obtain ⟨a,vs,rfl,hs,r⟩:=mx.scrB I
  replace o:Out EX G H (mdW K .U H0 Hs) (toR (L2.atI ws i)) Q:=o
  cases q:L2.atI ws i with
  | none=>rw [q] at o; exact o.elim
  | some w=>
   rw [q] at o
   obtain ⟨v,hv,rv⟩:=r.atI q
   exact .inl ⟨a,vs,i,v,rfl,my.intB,hs,hv,o v G H (Ext.refl I.gh) rv⟩
theorem o2_ixV:Op2 K .C .V (rIx K) fIx:=by
 intro EX H0 Hs G H ρ σ Ha Hb x y u v Q I s mx my o
 cases u <;> first | exact o.elim | skip
 all_goals (cases v <;> first | exact o.elim | skip)
 ·rename_i ws i
  obtain ⟨a,vs,rfl,hs,r⟩:=mx.tupC I
  replace o:Out EX G H (mdW K .V H0 Hs) (toR (L2.atI ws i)) Q:=o
  cases q:L2.atI ws i with
  | none=>rw [q] at o; exact o.elim
  | some w=>
   rw [q] at o
   obtain ⟨v,hv,rv⟩:=r.atI q
   exact .inr (.inl ⟨a,vs,i,v,rfl,Md.intB (Md.CB I my),SqT.of hs,hv,o v G H (Ext.refl I.gh) rv⟩)
 ·rename_i ws i
  obtain ⟨a,vs,rfl,hs,r⟩:=mx.lstC I
  replace o:Out EX G H (mdW K .V H0 Hs) (toR (L2.atI ws i)) Q:=o
  cases q:L2.atI ws i with
  | none=>rw [q] at o; exact o.elim
  | some w=>
   rw [q] at o
   obtain ⟨v,hv,rv⟩:=r.atI q
   exact .inl ⟨a,vs,i,v,rfl,Md.intB (Md.CB I my),SqL.of hs,hv,o v G H (Ext.refl I.gh) rv⟩
 ·rename_i ws i
  obtain ⟨a,vs,rfl,hs,r⟩:=(Md.repC mx fun _=>W.noConfusion).inv
  replace o:Out EX G H (mdW K .V H0 Hs) (toR (L2.atI ws i)) Q:=o
  cases q:L2.atI ws i with
  | none=>rw [q] at o; exact o.elim
  | some w=>
    rw [q] at o
    obtain ⟨v,hv,rv⟩:=r.atI q
    exact .inl ⟨_,_,i,v,rfl,Md.intB (Md.CB I my),Same.seq I.gh hs,hv,o v G H (Ext.refl I.gh) rv⟩
def tOp_ (K:Frag) (EX:EXT) (m:Rho->R (Option Int)):TO:=fun σ H Q=>∃ H0 G ρ,PIv K H0 G ρ σ H/\Out EX G H (fun (b c:Option Int) _ _=>c=b) (m ρ) Q
def partW:W->R (Option Int)
 | .int i=>.ok (some i)
 | _=>.stuck
theorem c_noPart {Q:Option Int->Hp->Prop} (h:tOp_ K EX (fun _=>.ok none) σ H Q):tNoPart σ H Q:=by
 obtain ⟨H0,G,ρ,I,o⟩:=h
 exact o none G H (Ext.refl I.gh) rfl
theorem c_part {m:Rho->R W} {Q:Option Int->Hp->Prop} (h:tOp_ K EX (fun ρ=>m ρ>>=partW) σ H Q):tPart (tM K EX .B m) σ H Q:=by
 obtain ⟨H0,G,ρ,I,o⟩:=h
 refine ⟨H0,G,ρ,I,Out.bind o fun x G1 H1 u e1 m1 o1=>?_⟩
 cases u <;> first | exact o1.elim | skip
 rename_i i
 exact ⟨i,m1.intB,o1 _ G1 H1 (Ext.refl e1.gh) rfl⟩
def cutW (xs:List W) (lo hi:Option Int):List W:=(xs.drop (HT.sIx xs.length 0 lo)).take (HT.sIx xs.length xs.length hi-HT.sIx xs.length 0 lo)
theorem Reps.cut {F:Hp} {vs:List V} {ws:List W} (r:Reps K F vs ws) (lo hi:Option Int):Reps K F (cutV vs lo hi) (cutW ws lo hi):=by
 unfold cutV cutW
 rw [r.length]
 exact (r.drop _).take _
def lstOf:W->Option (List W)
 | .lst ws=>some ws
 | .scr ws=>some ws
 | _=>none
def chks (c:Bool) (ws:List W):R W:=if c||noLs ws then .ok (.lst ws) else .stuck
def cb (c:Bool):Mode:=if c then .C else .B
theorem Md.lstOf {c:Bool} {Ha:Hp} {x:V} {w:W} {ws:List W} (I:PIv K H0 G ρ σ H) (m:Md K H0 Ha G H x w (cb c)) (h:lstOf w=some ws):∃ a vs,x=.ref a/\SqL K H a vs/\Reps K (if c then G else join H0 G) vs ws:=by
 cases c with
 | true=>
  rw [if_pos rfl]
  cases w <;> first | cases h | skip
  ·obtain ⟨a,vs,e,hs,r⟩:=Md.lstC (H:=Ha) I m
   exact ⟨a,vs,e,SqL.of hs,r⟩
  ·obtain ⟨a,vs,e,hs,r⟩:=(Md.repC m fun _=>W.noConfusion).inv
   exact ⟨a,vs,e,Same.seq I.gh hs,r⟩
 | false=>
  rw [if_neg Bool.false_ne_true]
  cases w <;> first | cases h | skip
  ·obtain ⟨a,vs,e,hs,r⟩:=Md.lstB (H:=Ha) I m
   exact ⟨a,vs,e,SqL.of hs,r⟩
  ·exact Md.scrB (H:=Ha) I m
theorem Out.chks {c:Bool} {Hs:Hp} {vs:List V} {ws:List W} (I:PIv K H0 G ρ σ H) (s:Same Hs H) (r:Reps K (if c then G else join H0 G) vs ws) (o:Out EX G H (mdW K .F H0 Hs) (chks c ws) Q):∀ p,H p=none->Q (.ref p) (upd H p (.lst vs)):=by
 unfold TP.chks at o
 by_cases n:(c||noLs ws)=true
 ·rw [if_pos n] at o
  have r':Reps K G vs ws:=by
   cases c with
   | true=>rw [if_pos rfl] at r; exact r
   | false=>rw [if_neg Bool.false_ne_true] at r; exact Reps.clean I r (by simpa using n)
  exact fun p hp=>Out.newL I s r' hp o
 ·rw [if_neg n] at o; exact o.elim
theorem c_sl {c:Bool} {m:Rho->R W} {ml mh:Rho->R (Option Int)} (h:tM K EX .F (fun ρ=>m ρ>>=fun x=>ml ρ>>=fun l=>mh ρ>>=fun u=>toR (lstOf x)>>=fun ws=>chks c (cutW ws l u)) σ H Q) :
  tSl (rSlL K) (tM K EX (cb c) m) (tOp_ K EX ml) (tOp_ K EX mh) σ H Q:=by
 obtain ⟨H0,G,ρ,I,o⟩:=h
 refine ⟨H0,G,ρ,I,Out.bind o fun x G1 H1 w e1 m1 o1=>⟨H0,G1,ρ,I.ext e1,Out.bind o1 fun l' G2 H2 l e2 m2 o2=>⟨H0,G2,ρ,(I.ext e1).ext e2,Out.bind o2 fun u' G3 H3 u e3 m3 o3=>?_⟩⟩⟩
 subst m2; subst m3
 have I3:=((I.ext e1).ext e2).ext e3
 cases q:lstOf w with
 | none=>rw [q] at o3; exact o3.elim
 | some ws=>
  rw [q] at o3
  obtain ⟨a,vs,ex,hs,r⟩:=Md.lstOf I3 ((m1.move e2).move e3) q
  refine ⟨a,vs,ex,hs,Out.chks I3 ((e1.hh.trans e2.hh).trans e3.hh) (c:=c) ?_ o3⟩
  cases c with
  | true=>rw [if_pos rfl] at r ⊢; exact r.cut _ _
  | false=>rw [if_neg Bool.false_ne_true] at r ⊢; exact r.cut _ _
def Cal (K:Frag) (b d:Mode) (r:List V->Hp->VK->Prop) (f:List W->R W):Prop:=∀ (EX:EXT) (H0 Hs G H:Hp) (ρ:Rho) (σ:St) (Ha:Hp) (vs:List V) (ws:List W) (Q:VK),PIv K H0 G ρ σ H->Same Hs H->MdA K b H0 Ha G H ws vs ->
 Out EX G H (mdW K d H0 Hs) (f ws) Q->r vs H Q
theorem c_cb {b:Mode} {r:List V->Hp->VK->Prop} {f:List W->R W} {ma:Rho->R (List W)} (hr:Cal K b d r f) (h:tM K EX d (fun ρ=>ma ρ>>=fun ws=>f ws) σ H Q):tCB r (tA K EX b ma) σ H Q:=by
 obtain ⟨H0,G,ρ,I,o⟩:=h
 exact ⟨H0,G,ρ,I,Out.bind o fun xs G1 H1 ws e1 m1 o1=>hr EX H0 H G1 H1 ρ σ H xs ws Q (I.ext e1) e1.hh m1 o1⟩
def fLen:List W->R W
 | [w]=>seqW w>>=fun ws=>.ok (.int ws.length)
 | _=>.stuck
theorem b_len:Cal K .B d (fun xs H Q=>∃ p ys,xs = [.ref p]/\(SqL K H p ys\/SqT K H p ys)/\Q (.int ys.length) H) fLen:=by
 intro EX H0 Hs G H ρ σ Ha vs ws Q I s m o
 cases m with
 | nil=>exact o.elim
 | cons a t=>
  cases t with
  | cons _ _=>exact o.elim
  | nil=>
   rename_i w v
   cases w <;> first | exact o.elim | skip
   ·obtain ⟨p,ys,rfl,hs,r⟩:=a.tupB I
    exact ⟨p,ys,rfl,.inr (SqT.of hs),by rw [r.length]; exact o _ G H (Ext.refl I.gh) (Md.sca rfl (fun _=>.int) d)⟩
   ·obtain ⟨p,ys,rfl,hs,r⟩:=a.lstB I
    exact ⟨p,ys,rfl,.inl (SqL.of hs),by rw [r.length]; exact o _ G H (Ext.refl I.gh) (Md.sca rfl (fun _=>.int) d)⟩
   ·obtain ⟨p,ys,rfl,hs,r⟩:=a.scrB I
    exact ⟨p,ys,rfl,.inl hs,by rw [r.length]; exact o _ G H (Ext.refl I.gh) (Md.sca rfl (fun _=>.int) d)⟩
def fList (c:Bool):List W->R W
 | [w]=>seqW w>>=chks c
 | _=>.stuck
theorem b_list {c:Bool}:Cal K (cb c) .F (fun xs H Q=>∃ p ys,xs = [.ref p]/\(SqL K H p ys\/SqT K H p ys)/\∀ l,H l=none->Q (.ref l) (upd H l (.lst ys))) (fList c):=by
 intro EX H0 Hs G H ρ σ Ha vs ws Q I s m o
 cases m with
 | nil=>exact o.elim
 | cons a t=>
  cases t with
  | cons _ _=>exact o.elim
  | nil=>
   rename_i w v
   cases w <;> first | exact o.elim | skip
   ·rename_i us
    cases c with
    | true=>
     obtain ⟨p,ys,rfl,hs,r⟩:=Md.tupC (H:=Ha) I a
     exact ⟨p,ys,rfl,.inr (SqT.of hs),Out.chks (c:=true) I s r o⟩
    | false=>
     obtain ⟨p,ys,rfl,hs,r⟩:=Md.tupB (H:=Ha) I a
     exact ⟨p,ys,rfl,.inr (SqT.of hs),Out.chks (c:=false) I s r o⟩
   ·obtain ⟨p,ys,rfl,hs,r⟩:=Md.lstOf I a rfl
    exact ⟨p,ys,rfl,.inl hs,Out.chks I s r o⟩
   ·obtain ⟨p,ys,rfl,hs,r⟩:=Md.lstOf I a rfl
    exact ⟨p,ys,rfl,.inl hs,Out.chks I s r o⟩
def chkT (c:Bool) (ws:List W):R W:=if c||noLs ws then .ok (.tup ws) else .stuck
def fTup (c:Bool):List W->R W
 | [w]=>seqW w>>=chkT c
 | _=>.stuck
theorem b_tup {c:Bool}:Cal K (cb c) .F (fun xs H Q=>∃ p ys,xs = [.ref p]/\((SqL K H p ys/\∀ l,H l=none->Q (.ref l) (upd H l (.tup ys)))\/(SqT K H p ys/\Q (.ref p) H))) (fTup c):=by
 intro EX H0 Hs G H ρ σ Ha vs ws Q I s m o
 have key:∀ {vs:List V} {us:List W},Reps K (if c then G else join H0 G) vs us->Out EX G H (mdW K .F H0 Hs) (chkT c us) Q->Reps K G vs us/\Out EX G H (mdW K .F H0 Hs) (.ok (.tup us)) Q:=fun {vs us} r o=>by
  unfold chkT at o
  by_cases n:(c||noLs us)=true
  ·rw [if_pos n] at o
   refine ⟨?_,o⟩
   cases c with
   | true=>rw [if_pos rfl] at r; exact r
   | false=>rw [if_neg Bool.false_ne_true] at r; exact Reps.clean I r (by simpa using n)
  ·rw [if_neg n] at o; exact o.elim
 cases m with
 | nil=>exact o.elim
 | cons a t=>
  cases t with
  | cons _ _=>exact o.elim
  | nil=>
   rename_i w v
   cases w <;> first | exact o.elim | skip
   ·rename_i us
    have hx:∃ p ys,v=.ref p/\(if c then G else join H0 G) p=some (.tup ys)/\Reps K (if c then G else join H0 G) ys us:=by
     cases c with
     | true=>rw [if_pos rfl]; exact (Md.repC a fun _=>W.noConfusion).inv
     | false=>rw [if_neg Bool.false_ne_true]; exact (Md.repB a fun _=>W.noConfusion).inv
    obtain ⟨p,ys,rfl,hp,r⟩:=hx
    obtain ⟨r',o'⟩:=key r o
    have hH:H p=some (.tup ys):=by
     cases c with
     | true=>rw [if_pos rfl] at hp; exact I.gh _ _ hp
     | false=>rw [if_neg Bool.false_ne_true] at hp; exact I.join_H _ _ hp
    have hG:G p=some (.tup ys):=by
     cases c with
     | true=>rw [if_pos rfl] at hp; exact hp
     | false=>
      rw [if_neg Bool.false_ne_true] at hp
      unfold join at hp
      cases q:H0 p with
      | none=>rw [q] at hp; exact hp
      | some u=>
       rw [q] at hp
       dsimp only at hp
       by_cases hl:isL u=true
       ·rw [if_pos hl] at hp; cases hp; cases hl
       ·rw [if_neg hl] at hp; exact hp
    exact ⟨p,ys,rfl,.inr ⟨SqT.of hH,o' _ G H (Ext.refl I.gh) (.tup hG r')⟩⟩
   ·obtain ⟨p,ys,rfl,hs,r⟩:=Md.lstOf I a rfl
    obtain ⟨r',o'⟩:=key r o
    exact ⟨p,ys,rfl,.inl ⟨hs,fun l hl=>Out.newTF I r' hl o'⟩⟩
   ·obtain ⟨p,ys,rfl,hs,r⟩:=Md.lstOf I a rfl
    obtain ⟨r',o'⟩:=key r o
    exact ⟨p,ys,rfl,.inl ⟨hs,fun l hl=>Out.newTF I r' hl o'⟩⟩
def f2 (g:Int->Int->Int):List W->R W
 | [.int i,.int j]=>.ok (.int (g i j))
 | _=>.stuck
def tyW:W->Option String
 | .non=>some "NoneType"
 | .bl _=>some "bool"
 | .int _=>some "int"
 | .str _=>some "str"
 | .tup _=>some "tuple"
 | .lst _=>some "list"
 | _=>none
def fIsi:List W->R W
 | [x,.ty T]=>toR ((tyW x).bind fun A=>isiB A T)>>=fun b=>.ok (.bl b)
 | _=>.stuck
theorem tyW_of {Ha:Hp} {v:V} {w:W} {A:String} (I:PIv K H0 G ρ σ H) (m:Md K H0 Ha G H v w .B) (h:tyW w=some A):L2.tyB H v=some A:=by
 cases w <;> first | cases h | skip
 ·rw [m.nonB]; rfl
 ·rw [m.blB]; rfl
 ·rw [m.intB]; rfl
 ·rw [m.strB]; rfl
 ·obtain ⟨a,vs,rfl,hs,r⟩:=m.tupB I
  show L2.tyO (H a)=_
  rw [hs]; rfl
 ·obtain ⟨a,vs,rfl,hs,r⟩:=m.lstB I
  show L2.tyO (H a)=_
  rw [hs]; rfl
theorem b_isi:Cal K .B d rIsi fIsi:=by
 intro EX H0 Hs G H ρ σ Ha vs ws Q I s m o
 cases m with
 | nil=>exact o.elim
 | @cons x _ _ _ a t=>
  cases t with
  | nil=>exact o.elim
  | @cons y _ _ _ b t=>
   cases t with
   | cons _ _=>first | exact o.elim | (cases y <;> exact o.elim)
   | nil=>
    cases y <;> first | exact o.elim | skip
    rename_i T
    replace o:Out EX G H (mdW K d H0 Hs) (toR ((tyW x).bind fun A=>isiB A T)>>=fun b=>.ok (.bl b)) Q:=o
    cases q:tyW x with
    | none=>rw [q] at o; exact o.elim
    | some A=>
     rw [q] at o
     replace o:Out EX G H (mdW K d H0 Hs) (toR (isiB A T)>>=fun b=>.ok (.bl b)) Q:=o
     cases q2:isiB A T with
     | none=>rw [q2] at o; exact o.elim
     | some c=>
      rw [q2] at o
      exact ⟨_,T,by rw [b.tyB],A,tyW_of I a q,c,q2,o _ G H (Ext.refl I.gh) (Md.sca rfl (fun _=>.bl) d)⟩
def fCat (c:Bool):W->W->R W
 | .lst us,.lst vs=>if us.length+vs.length<=1000 then chks c (us++vs) else .stuck
 | _,_=>.stuck
theorem o2_cat {c:Bool}:Op2 K (cb c) .F rCat (fCat c):=by
 intro EX H0 Hs G H ρ σ Ha Hb x y u v Q I s mx my o
 cases u <;> first | exact o.elim | skip
 all_goals (cases v <;> first | exact o.elim | skip)
 rename_i us vs
 replace o:Out EX G H (mdW K .F H0 Hs) (if us.length+vs.length<=1000 then chks c (us++vs) else .stuck) Q:=o
 by_cases hn:us.length+vs.length<=1000
 ·rw [if_pos hn] at o
  have h1:∃ a ws,x=.ref a/\H a=some (.lst ws)/\Reps K (if c then G else join H0 G) ws us:=by
   cases c with
   | true=>exact Md.lstC (H:=Ha) I mx
   | false=>exact Md.lstB (H:=Ha) I mx
  have h2:∃ a ws,y=.ref a/\H a=some (.lst ws)/\Reps K (if c then G else join H0 G) ws vs:=by
   cases c with
   | true=>exact Md.lstC (H:=Hb) I my
   | false=>exact Md.lstB (H:=Hb) I my
  obtain ⟨a,xs,rfl,ha,ra⟩:=h1
  obtain ⟨b,ys,rfl,hb,rb⟩:=h2
  exact ⟨a,b,xs,ys,rfl,rfl,ha,hb,by rw [ra.length,rb.length]; exact le_line hn,Out.chks I s (ra.append rb) o⟩
 ·rw [if_neg hn] at o; exact o.elim
def fRep (c:Bool):W->W->R W
 | .lst us,.int k=>if us.length*k.toNat<=1000 /\ -1000<=k/\k<=1000 then chks c (List.replicate k.toNat us).flatten else .stuck
 | _,_=>.stuck
end
end TP
namespace TP
open PySem L2
def mC (w:W):Rho->R W:=fun _=>.ok w
def b1 (f:W->R W) (ma:Rho->R W):Rho->R W:=fun ρ=>ma ρ>>=fun x=>f x
def b2 (f:W->W->R W) (ma mb:Rho->R W):Rho->R W:=fun ρ=>ma ρ>>=fun x=>mb ρ>>=fun y=>f x y
def bA (f:List W->R W) (ma:Rho->R (List W)):Rho->R W:=fun ρ=>ma ρ>>=fun ws=>f ws
def bI (f:List W->R (List W)) (ma:Rho->R (List W)):Rho->R (List W):=fun ρ=>ma ρ>>=f
def bS (ma:Rho->R W):Rho->R (List W):=fun ρ=>ma ρ>>=seqW
def aN:Rho->R (List W):=fun _=>.ok []
def aC (ma:Rho->R W) (mr:Rho->R (List W)):Rho->R (List W):=fun ρ=>ma ρ>>=fun x=>mr ρ>>=fun xs=>.ok (x::xs)
def bChk (ma:Rho->R W):Rho->R W:=fun ρ=>ma ρ>>=chk
def bTest (ma:Rho->R W):Rho->R Bool:=fun ρ=>ma ρ>>=toB
def tAnd' (a b:Rho->R Bool):Rho->R Bool:=fun ρ=>rAnd (a ρ) (b ρ)
def tOr' (a b:Rho->R Bool):Rho->R Bool:=fun ρ=>rOr (a ρ) (b ρ)
def tNot' (a:Rho->R Bool):Rho->R Bool:=fun ρ=>rNot (a ρ)
def vAnd (a b:Rho->R W):Rho->R W:=fun ρ=>rAndV (a ρ) (b ρ)
def vOr (a b:Rho->R W):Rho->R W:=fun ρ=>rOrV (a ρ) (b ρ)
def vNot (a:Rho->R W):Rho->R W:=fun ρ=>rNotV (a ρ)
def vIf (c:Rho->R Bool) (a b:Rho->R W):Rho->R W:=fun ρ=>c ρ>>=fun t=>if t then a ρ else b ρ
def vChain (f f':W->W->R W) (ma mb mc:Rho->R W):Rho->R W:=fun ρ=>ma ρ>>=fun x=>mb ρ>>=fun y=>f x y>>=fun z=>toB z>>=fun c=>if c then mc ρ>>=fun u=>f' y u else .ok (.bl false)
def vTup (ma:Rho->R (List W)):Rho->R W:=fun ρ=>ma ρ>>=fun ws=>lim ws.length (.tup ws)
def vLst (ma:Rho->R (List W)):Rho->R W:=fun ρ=>ma ρ>>=fun ws=>lim ws.length (.lst ws)
def pN:Rho->R (Option Int):=fun _=>.ok none
def pS (m:Rho->R W):Rho->R (Option Int):=fun ρ=>m ρ>>=partW
def vSl (c:Bool) (m:Rho->R W) (ml mh:Rho->R (Option Int)):Rho->R W:=fun ρ=>m ρ>>=fun x=>ml ρ>>=fun l=>mh ρ>>=fun u=>toR (lstOf x)>>=fun ws=>chks c (cutW ws l u)
def vComp (n:Nat) (mi:Rho->R (List W)) (mg:W->Rho->Option Rho) (mc:Rho->R Bool) (me:Rho->R W):Rho->R W:=fun ρ=>mi ρ>>=fun ws=>mComp n mg mc me ws ρ
def yes:Rho->R Bool:=fun _=>.ok true
def sNx:Rho->R Fl:=fun ρ=>.ok (.nx ρ)
def sDrop (m:Rho->R W):Rho->R Fl:=fun ρ=>m ρ>>=fun _=>.ok (.nx ρ)
def sRet (m:Rho->R W):Rho->R Fl:=fun ρ=>m ρ>>=fun w=>.ok (.rt w)
def sRetN:Rho->R Fl:=fun _=>.ok (.rt .non)
def sV (i:Nat) (m:Rho->R W):Rho->R Fl:=fun ρ=>m ρ>>=fun w=>.ok (.nx (ρ.set i (.val w)))
def sU (i:Nat) (m:Rho->R W):Rho->R Fl:=fun ρ=>m ρ>>=fun w=>.ok (.nx (ρ.set i (.par w)))
def sF (i:Nat) (m:Rho->R W):Rho->R Fl:=fun ρ=>m ρ>>=fun w=>.ok (.nx (ρ.set i (slotF w)))
def sG (mg:W->Rho->Option Rho) (m:Rho->R W):Rho->R Fl:=fun ρ=>m ρ>>=fun w=>toR (mg w ρ)>>=fun ρ'=>.ok (.nx ρ')
def sFor (mi:Rho->R (List W)) (mg:W->Rho->Option Rho) (mb:Rho->R Fl):Rho->R Fl:=fun ρ=>mi ρ>>=fun ws=>mFor mg mb ws ρ
def sFrz (i:Nat) (m:Rho->R Fl):Rho->R Fl:=fun ρ=>m (frz i ρ)
def sNever:Rho->R Fl:=fun _=>.stuck
def sBk:Rho->R Fl:=fun ρ=>.ok (.bk ρ)
def sCt:Rho->R Fl:=fun ρ=>.ok (.ct ρ)
section
variable {X:Cx} {e:Expr} {es:List Expr} {st:Stmt} {sts:List Stmt}
theorem _root_.L2.PE.mono {t t':TE} (h:PE X e t) (hm:∀ σ H Q,t' σ H Q->t σ H Q):PE X e t':=fun pins s σ H Q I q=>h pins s σ H Q I (hm σ H Q q)
theorem _root_.L2.PT.mono {t t':TT} (h:PT X e t) (hm:∀ σ H Q,t' σ H Q->t σ H Q):PT X e t':=fun pins s σ H Q I q=>h pins s σ H Q I (hm σ H Q q)
theorem _root_.L2.PW.mono {t t':TT} (h:PW X e t) (hm:∀ σ H Q,t' σ H Q->t σ H Q):PW X e t':=fun wh pins s σ H Q I q=>h wh pins s σ H Q I (hm σ H Q q)
theorem _root_.L2.PA.mono {t t':TA} (h:PA X es t) (hm:∀ σ H Q,t' σ H Q->t σ H Q):PA X es t':=fun pos pins s σ H Q I q=>h pos pins s σ H Q I (hm σ H Q q)
theorem _root_.L2.PS.mono {t t':TS} (h:PS X st t) (hm:∀ D σ H,t' D σ H->t D σ H):PS X st t':=fun pins s σ H D I q=>h pins s σ H D I (hm D σ H q)
theorem _root_.L2.PSs.mono {t t':TS} (h:PSs X sts t) (hm:∀ D σ H,t' D σ H->t D σ H):PSs X sts t':=fun pins s σ H D I q=>h pins s σ H D I (hm D σ H q)
theorem _root_.L2.PI.mono {tg:Expr} {t t':TI} (h:PI X tg e t) (hm:∀ σ H Q,t' σ H Q->t σ H Q):PI X tg e t':=fun pins s σ H Q I q=>h pins s σ H Q I (hm σ H Q q)
theorem _root_.L2.PO.mono {oe:Option Expr} {t t':TO} (h:PO X oe t) (hm:∀ σ H Q,t' σ H Q->t σ H Q):PO X oe t':=by
 intro pins s σ H Q I q
 exact h pins s σ H Q I (hm σ H Q q)
end
section
variable {X:Cx} {K:Frag} {EX:EXT} {d b:Mode} {a c e:Expr} {es rest:List Expr} {pos:Pos} {ma mb mc:Rho->R W} {ta tb:Rho->R Bool} {mr:Rho->R (List W)}
theorem q_FV (h:PE X e (tM K EX .F ma)):PE X e (tM K EX .V ma):=h.mono fun _ _ _ q=>mode_FV q
theorem q_VU (h:PE X e (tM K EX .V ma)):PE X e (tM K EX .U ma):=h.mono fun _ _ _ q=>mode_VU q
theorem q_FC (h:PE X e (tM K EX .F ma)):PE X e (tM K EX .C ma):=h.mono fun _ _ _ q=>mode_FC q
theorem q_UB (h:PE X e (tM K EX .U ma)):PE X e (tM K EX .B ma):=h.mono fun _ _ _ q=>mode_UB q
theorem q_CB (h:PE X e (tM K EX .C ma)):PE X e (tM K EX .B ma):=h.mono fun _ _ _ q=>mode_CB q
theorem q_chkF (h:PE X e (tM K EX .U ma)):PE X e (tM K EX .F (bChk ma)):=h.mono fun _ _ _ q=>mode_chk (.inl rfl) q
theorem qv (d:Mode) (i:Nat) {x:Str} (hN:X.N[i]?=some x:=by rfl) (hv:Vis X.env.scope x:=by first | exact Or.inl rfl | exact Or.inr (Or.inl rfl) | exact Or.inr (Or.inr rfl)) (hd:(x == ("__debug__" : Str))=false:=by decide)
  (hcd:(x == ("__classdict__" : Str))=false:=by decide):PE X (.Name x pos) (tM K EX d (mVar d i)):=(pe_var hN hv hd hcd).mono fun _ _ _ q=>c_var q
theorem q_int {i j}:PE X (.Constant (.int i) j pos) (tM K EX d (mC (.int i))):=pe_int.mono fun _ _ _ q=>c_const rfl (fun _=>.int) q
theorem q_bl {t j}:PE X (.Constant (.bool t) j pos) (tM K EX d (mC (.bl t))):=pe_bl.mono fun _ _ _ q=>c_const rfl (fun _=>.bl) q
theorem q_non {j}:PE X (.Constant .none j pos) (tM K EX d (mC .non)):=pe_non.mono fun _ _ _ q=>c_const rfl (fun _=>.non) q
theorem q_str {x j}:PE X (.Constant (.str x) j pos) (tM K EX d (mC (.str x))):=pe_str.mono fun _ _ _ q=>c_const rfl (fun _=>.str) q
theorem q_globI {x:Str} {i:Int} {t:Tok} (hg:Gl X x) (hm:X.mg x=some (.int i t)) (hd:(x == ("__debug__" : Str))=false:=by decide):PE X (.Name x pos) (tM K EX d (mC (.int i))):=
 (pe_glob (v:=.int i) hg hm ⟨t,rfl⟩ hd).mono fun _ _ _ q=>c_const rfl (fun _=>.int) q
theorem q_ty {x:Str} {n:String} (hg:Gl X x) (hm:X.mg x=none) (hv:bootBuiltins x=some (.type n)) (hn:x ≠ "__name__" := by decide) (hd:(x == ("__debug__" : Str))=false:=by decide):PE X (.Name x pos) (tM K EX d (mC (.ty n))):=
 (pe_bltn (v:=.ty n) hg hm hv rfl hn hd).mono fun _ _ _ q=>c_const rfl (fun _=>.ty) q
theorem q_op {op:Operator} {r:R2} {f:W->W->R W} (ho:OpR X (binaryOp op) r) (hr:Op2 K b d r f) (ha:PE X a (tM K EX b ma)) (hb:PE X c (tM K EX b mb)):PE X (.BinOp a op c pos) (tM K EX d (b2 f ma mb)):=
 (pe_op ho ha hb).mono fun _ _ _ q=>c_op hr q
theorem q_cmp {op:CmpOp} {r:R2} {f:W->W->R W} (ho:OpR X (compareOp op) r) (hr:Op2 K b d r f) (ha:PE X a (tM K EX b ma)) (hb:PE X c (tM K EX b mb)) (hm:behindInMarks op c=false:=by first | exact nomark _ | rfl):PE X (.Compare a [op] [c] pos) (tM K EX d (b2 f ma mb)):=
 (pe_cmpR ho ha hb hm).mono fun _ _ _ q=>c_op hr q
theorem q_tcmp {op:CmpOp} {r:R2} {f:W->W->R W} (ho:OpR X (compareOp op) r) (hr:Op2 K b .B r f) (ha:PE X a (tM K EX b ma)) (hb:PE X c (tM K EX b mb)) (hm:behindInMarks op c=false:=by first | exact nomark _ | rfl):PT X (.Compare a [op] [c] pos) (tT K EX (bTest (b2 f ma mb))):=
 (pt_cmpR ho ha hb hm).mono fun σ H Q q=>by
  obtain ⟨H0,G,ρ,I,o⟩:=q
  have:=c_test (ma:=b2 f ma mb) ⟨H0,G,ρ,I,o⟩
  exact c_op hr this
theorem q_val (ha:PE X a (tM K EX .B ma)) (he:∀ whole,isTrue a X.env whole=(do let v <- whole; standAt a.pos; holding [v] (truthy v)):=by intro _; rfl):PT X a (tT K EX (bTest ma)):=
 (pt_val ha he).mono fun _ _ _ q=>c_tB q
theorem q_tand1 (ha:PT X a (tT K EX ta)):PW X (.BoolOp .And [a] pos) (tT K EX ta):=pw_and1 ha
theorem q_tor1 (ha:PT X a (tT K EX ta)):PW X (.BoolOp .Or [a] pos) (tT K EX ta):=pw_or1 ha
theorem q_tand {b:Expr} (ha:PT X a (tT K EX ta)) (hb:PW X (.BoolOp .And (b::rest) pos) (tT K EX tb)):PW X (.BoolOp .And (a::b::rest) pos) (tT K EX (tAnd' ta tb)):=(pw_and ha hb).mono fun _ _ _ q=>c_and q
theorem q_tor {b:Expr} (ha:PT X a (tT K EX ta)) (hb:PW X (.BoolOp .Or (b::rest) pos) (tT K EX tb)):PW X (.BoolOp .Or (a::b::rest) pos) (tT K EX (tOr' ta tb)):=(pw_or ha hb).mono fun _ _ _ q=>c_or q
theorem q_tnot (ha:PT X a (tT K EX ta)):PT X (.UnaryOp .Not a pos) (tT K EX (tNot' ta)):=(pt_not ha).mono fun _ _ _ q=>c_not q
theorem q_one {op} (h:PE X a (tM K EX d ma)):PE X (.BoolOp op [a] pos) (tM K EX d ma):=pe_one h
theorem q_and {b:Expr} (ha:PE X a (tM K EX .B ma)) (hb:PE X (.BoolOp .And (b::rest) pos) (tM K EX d mb)):PE X (.BoolOp .And (a::b::rest) pos) (tM K EX d (vAnd ma mb)):=(pe_and ha hb).mono fun _ _ _ q=>c_andV q
theorem q_if {t:Expr} (ht:PT X t (tT K EX ta)) (ha:PE X a (tM K EX d ma)) (hb:PE X c (tM K EX d mb)):PE X (.IfExp t a c pos) (tM K EX d (vIf ta ma mb)):=(pe_ifExp ht ha hb).mono fun _ _ _ q=>c_if q
theorem q_tchain {op op':CmpOp} {r r':R2} {f f':W->W->R W} {x y z:Expr} (ho:OpR X (compareOp op) r) (hr:Op2 K b .B r f) (ho':OpR X (compareOp op') r') (hr':Op2 K b .B r' f') (ha:PE X x (tM K EX b ma)) (hb:PE X y (tM K EX b mb)) (hc:PE X z (tM K EX b mc))
  (hm:lastMarks [op,op'] [y,z]=false:=by with_unfolding_all rfl):PT X (.Compare x [op,op'] [y,z] pos) (tT K EX (bTest (vChain f f' ma mb mc))):=
 (pt_chain ho ho' ha hb hc hm).mono fun σ H Q q=>by
  obtain ⟨H0,G,ρ,I,o⟩:=q
  have:=c_test (ma:=vChain f f' ma mb mc) ⟨H0,G,ρ,I,o⟩
  exact c_chain hr hr' this
theorem q_anil:PA X [] (tA K EX d aN):=pa_nil.mono fun _ _ _ q=>c_nil q
theorem q_acons (ha:PE X e (tM K EX d ma)) (hr:PA X es (tA K EX d mr)) (hs:starEach (e::es) X.env=(false,eval e X.env)::starEach es X.env:=by rfl):PA X (e::es) (tA K EX d (aC ma mr)):=(pa_cons ha hr hs).mono fun _ _ _ q=>c_cons q
theorem q_tup {x1} (h:PA X es (tA K EX .V mr)):PE X (.Tuple es x1 pos) (tM K EX .F (vTup mr)):=(pe_tup h).mono fun _ _ _ q=>c_tup q
theorem q_tupU {x1} (h:PA X es (tA K EX .U mr)):PE X (.Tuple es x1 pos) (tM K EX .U (vTup mr)):=(pe_tup h).mono fun _ _ _ q=>c_tupU q
theorem q_lst (h:PA X es (tA K EX .V mr)):PE X (.List es pos) (tM K EX .F (vLst mr)):=(pe_lst h).mono fun _ _ _ q=>c_lst q
theorem q_ixU (ha:PE X a (tM K EX .B ma)) (hb:PE X c (tM K EX .B mb)) (hs:PlainIx c:=by exact fun _ _=>rfl) (hK:X.K=K:=by rfl):PE X (.Subscript a c pos) (tM K EX .U (b2 fIx ma mb)):=by
 subst hK; exact (pe_ix ix_seq ha hb hs).mono fun _ _ _ q=>c_op o2_ixU q
theorem q_ixV (ha:PE X a (tM K EX .C ma)) (hb:PE X c (tM K EX .C mb)) (hs:PlainIx c:=by exact fun _ _=>rfl) (hK:X.K=K:=by rfl):PE X (.Subscript a c pos) (tM K EX .V (b2 fIx ma mb)):=by
 subst hK; exact (pe_ix ix_seq ha hb hs).mono fun _ _ _ q=>c_op o2_ixV q
theorem q_pN:PO X none (tOp_ K EX pN):=po_none.mono fun _ _ _ q=>c_noPart q
theorem q_pS (h:PE X e (tM K EX .B ma)):PO X (some e) (tOp_ K EX (pS ma)):=(po_some h).mono fun _ _ _ q=>c_part q
theorem q_sl (k:Bool) {lo hi:Option Expr} {p2:Pos} {ml mh:Rho->R (Option Int)} (he:PE X e (tM K EX (cb k) ma)) (hl:PO X lo (tOp_ K EX ml)) (hu:PO X hi (tOp_ K EX mh)) (hK:X.K=K:=by rfl):PE X (.Subscript e (.Slice lo hi none p2) pos) (tM K EX .F (vSl k ma ml mh)):=by
 subst hK; exact (pe_slice sl_list he hl hu).mono fun _ _ _ q=>c_sl q
theorem q_cb {x:Str} {id:String} {r:List V->Hp->VK->Prop} {f:List W->R W} {p:Pos} (hc:CallR X (.builtin id) r) (hr:Cal K b d r f) (hg:Gl X x) (hm:X.mg x=none) (hv:bootBuiltins x=some (.builtin id)) (ha:PA X (e::es) (tA K EX b mr))
  (hn:x ≠ "__name__" := by decide) (hdb:(x == ("__debug__" : Str))=false:=by decide) (he:starEach (e::es) X.env=(false,eval e X.env)::starEach es X.env:=by rfl) (hpl:(backTo pos (starEach es X.env)).any (·.1)=false:=by rfl) :
  PE X (.Call (.Name x p) (e::es) [] pos) (tM K EX d (bA f mr)):=(pe_callB hc hg hm hv ha hn hdb he hpl).mono fun _ _ _ q=>c_cb hr q
theorem q_ct {x:Str} {T:String} {r:List V->Hp->VK->Prop} {f:List W->R W} {p:Pos} (hc:CallR X (.type T) r) (hr:Cal K b d r f) (hg:Gl X x) (hm:X.mg x=none) (hv:bootBuiltins x=some (.type T)) (ha:PA X (e::es) (tA K EX b mr))
  (hn:x ≠ "__name__" := by decide) (hdb:(x == ("__debug__" : Str))=false:=by decide) (he:starEach (e::es) X.env=(false,eval e X.env)::starEach es X.env:=by rfl) (hpl:(backTo pos (starEach es X.env)).any (·.1)=false:=by rfl) :
  PE X (.Call (.Name x p) (e::es) [] pos) (tM K EX d (bA f mr)):=(pe_callTy hc hg hm hv ha hn hdb he hpl).mono fun _ _ _ q=>c_cb hr q
theorem K_len (hK:X.K=K:=by rfl):CallR X (.builtin "len") (fun xs H Q=>∃ p ys,xs = [.ref p]/\(SqL K H p ys\/SqT K H p ys)/\Q (.int ys.length) H):=by subst hK; exact call_len_seq
theorem K_list (hK:X.K=K:=by rfl):CallR X (.type "list") (fun xs H Q=>∃ p ys,xs = [.ref p]/\(SqL K H p ys\/SqT K H p ys)/\∀ l,H l=none->Q (.ref l) (upd H l (.lst ys))):=by subst hK; exact call_list_of
theorem K_tup (hK:X.K=K:=by rfl):CallR X (.type "tuple") (fun xs H Q=>∃ p ys,xs = [.ref p]/\((SqL K H p ys/\∀ l,H l=none->Q (.ref l) (upd H l (.tup ys)))\/(SqT K H p ys/\Q (.ref p) H))):=by subst hK; exact call_tuple_of
theorem q_call {k:Nat} {f:Addr} {fd:FuncData} {ps:List Str} {x:Str} {p:Pos} {n N:Nat} {m:Rho->R Fl} (F:FnOk X.prog X.w X.K X.mg X.base CX0 k f fd ps (spM K n d (runB n N m))) (hd:d=.F\/d=.V) (hr:Room k X.A) (hg:Gl X x) (hm:X.mg x=some (.ref f)) (hk:PySem.W.keepIn X.K (.ref f)=true) (hb:Binds X.K fd ps [])
  (ha:PA X (e::es) (tA K (fun _ _=>False) .B mr)) (hdb:(x == ("__debug__" : Str))=false:=by decide) (he:starEach (e::es) X.env=(false,eval e X.env)::starEach es X.env:=by rfl) (hpl:(backTo pos (starEach es X.env)).any (·.1)=false:=by rfl) :
  PE X (.Call (.Name x p) (e::es) [] pos) (tM K (fun _ _=>False) d (bA (runB n N m) mr)):=
 (pe_call F hr hg hm hk hb .nil pass0 ha hdb he hpl).mono fun _ _ _ q=>c_call hd (fun ws h=>runB_len ws h) (fun _ _ z=>z) q
variable {tg:Expr} {lp:Bool}
theorem q_iSq (h:PE X e (tM K EX (srcM lp .U) ma)) (hK:X.K=K:=by rfl):PI X tg e (tIt K EX lp .U (bS ma)):=by subst hK; exact (pi_sq h).mono fun _ _ _ q=>c_iSq (.inr rfl) q
theorem q_rng1 {p:Pos} (hg:Gl X "range") (hm:X.mg "range" = none) (ha:PA X [a] (tA K EX .B mr)) (hs:starEach [a] X.env = [(false,eval a X.env)]:=by rfl):PI X tg (.Call (.Name "range" p) [a] [] pos) (tIt K EX lp .U (bI rng1 mr)):=
 (pi_range1 hg hm ha hs).mono fun _ _ _ q=>c_rng1 (.inr rfl) q
theorem q_zip {elts:List Expr} {p tp:Pos} {k:Nat} (hg:Gl X "zip") (hm:X.mg "zip" = none) (ha:PA X (a::es) (tA K EX (srcM lp .U) mr)) (hK:X.K=K:=by rfl) (hs:starEach (a::es) X.env=(false,eval a X.env)::starEach es X.env:=by rfl) (hpl:(backTo pos (starEach es X.env)).any (·.1)=false:=by rfl) :
  PI X (.Tuple elts k tp) (.Call (.Name "zip" p) (a::es) [] pos) (tIt K EX lp .U (bI zipR mr)):=by subst hK; exact (pi_zip hg hm ha hs hpl).mono fun _ _ _ q=>c_zip (.inr rfl) q
end
section
variable {X:Cx} {K:Frag} {EX:EXT} {d b:Mode} {e:Expr} {st:Stmt} {sts:List Stmt} {pos:Pos} {ma mb:Rho->R W} {ta:Rho->R Bool} {m n:Rho->R Fl}
theorem q_comp {cs:Scope} {N':List Str} {tg iter elt:Expr} {ifs:List Expr} {dd:Mode} {g:TG} {mg:W->Rho->Option Rho} {mi:Rho->R (List W)} (S:CompScope X.env.scope cs X.N N') (hc:X.calm=true) (hi:PI X tg iter (tIt K EX false dd mi))
  (hg:∀ cl ex s H,PG (cxComp X cs cl N' ex s H) tg g) (hgt:Gt K dd g mg) (hk:GKeep X.N.length g) (ht:∀ cl ex s H,PIf (cxComp X cs cl N' ex s H) ifs (tT K EX ta)) (he:∀ cl ex s H,PE (cxComp X cs cl N' ex s H) elt (tM K EX .V ma))
  (hs:∀ x,foldedSetIterable iter X.env x=pure x:=by intro _; rfl):PE X (.ListComp elt [⟨tg,iter,ifs,0⟩] cs pos) (tM K EX .F (vComp N'.length mi mg ta ma)):=
 (pe_comp S hc hi hg hk ht he hs).mono fun _ _ _ q=>c_comp hgt q
theorem q_setc {i:Nat} {y:Str} {py:Pos} {cs:Scope} {N':List Str} {tg iter elt:Expr} {ifs:List Expr} {dd:Mode} {g:TG} {mg:W->Rho->Option Rho} {mi:Rho->R (List W)} {cpos:Pos} (S:CompScope X.env.scope cs X.N N') (hc:X.calm=true) (hi:PI X tg iter (tIt K EX false dd mi))
  (hg:∀ cl ex s H,PG (cxComp X cs cl N' ex s H) tg g) (hgt:Gt K dd g mg) (hk:GKeep X.N.length g) (ht:∀ cl ex s H,PIf (cxComp X cs cl N' ex s H) ifs (tT K EX ta)) (he:∀ cl ex s H,PE (cxComp X cs cl N' ex s H) elt (tM K EX .V ma))
  (hN:X.N.Nodup) (hy:X.N[i]?=some y) (hl:Loc X.env.scope y)
  (hsw:swapsWith (.ListComp elt [⟨tg,iter,ifs,0⟩] cs cpos) (some (.Name y py)) pos.line X.env=pure true:=by rfl) (hf:X.fn y=true\/X.env.scope.names.lookup y=some .local:=by first | exact .inl rfl | exact .inr rfl | assumption)
  (hs:∀ x,foldedSetIterable iter X.env x=pure x:=by intro _; rfl):PS X (.Assign [.Name y py] (.ListComp elt [⟨tg,iter,ifs,0⟩] cs cpos) pos) (tSt K EX d (sF i (vComp N'.length mi mg ta ma))):=
 (ps_setc S hc hi hg hk ht he hN hy hl hsw hf hs).mono fun D σ H q=>by
  have:=c_setF (m:=vComp N'.length mi mg ta ma) q
  exact c_comp hgt this
theorem q_pifN:PIf X [] (tT K EX yes):=fun pins s σ H Q I q=>pif_nil pins s σ H Q I (by obtain ⟨H0,G,ρ,I0,o⟩:=q; exact o true G H (Ext.refl I0.gh) rfl)
theorem q_pif1 {c:Expr} (h:PT X c (tT K EX ta)):PIf X [c] (tT K EX ta):=pif_one h
theorem q_nil:PSs X [] (tSt K EX d sNx):=pss_nil.mono fun _ _ _ q=>c_next q
theorem q_cons (h1:PS X st (tSt K EX d m)) (h2:PSs X sts (tSt K EX d n)):PSs X (st::sts) (tSt K EX d (mSeq m n)):=(pss_cons h1 h2).mono fun _ _ _ q=>c_seq q
theorem q_last (h1:PS X st (tSt K EX d m)):PSs X [st] (tSt K EX d m):=pss_one h1
theorem q_frz {i:Nat} (h:PS X st (tSt K EX d m)):PS X st (tSt K EX d (sFrz i m)):=h.mono fun _ _ _ q=>c_frz q
theorem q_never:PS X st (tSt K EX d sNever):=ps_never.mono fun _ _ _ q=>c_never q
theorem q_expr (he:PE X e (tM K EX b ma)) (hs:swapsWith e none pos.line X.env=pure false:=by rfl):PS X (.Expr e pos) (tSt K EX d (sDrop ma)):=(ps_expr he hs).mono fun _ _ _ q=>c_drop q
theorem q_ret (he:PE X e (tM K EX d ma)):PS X (.Return (some e) pos) (tSt K EX d (sRet ma)):=(ps_ret he).mono fun _ _ _ q=>c_ret q
theorem q_retv (i:Nat) {x:Str} {p:Pos} (hd:d=.F\/d=.V) (hN:X.N[i]?=some x:=by rfl) (hv:Vis X.env.scope x:=by first | exact Or.inl rfl | exact Or.inr (Or.inl rfl) | exact Or.inr (Or.inr rfl)) (hdd:(x == ("__debug__" : Str))=false:=by decide)
  (hcd:(x == ("__classdict__" : Str))=false:=by decide):PS X (.Return (some (.Name x p)) pos) (tSt K EX d (mRetVar d i)):=(ps_ret (pe_var hN hv hdd hcd)).mono fun _ _ _ q=>c_retVar hd q
theorem q_setV {i:Nat} {x:Str} {pos':Pos} (hN:X.N.Nodup) (hi:X.N[i]?=some x) (hx:Loc X.env.scope x) (he:PE X e (tM K EX .V ma)) (hs:swapsWith e (some (.Name x pos')) pos.line X.env=pure false:=by rfl) (hf:X.fn x=true\/X.env.scope.names.lookup x=some .local:=by first | exact .inl rfl | exact .inr rfl | assumption) :
  PS X (.Assign [.Name x pos'] e pos) (tSt K EX d (sV i ma)):=(ps_set hN hi hx he hs hf).mono fun _ _ _ q=>c_setV q
theorem q_setF {i:Nat} {x:Str} {pos':Pos} (hN:X.N.Nodup) (hi:X.N[i]?=some x) (hx:Loc X.env.scope x) (he:PE X e (tM K EX .F ma)) (hs:swapsWith e (some (.Name x pos')) pos.line X.env=pure false:=by rfl) (hf:X.fn x=true\/X.env.scope.names.lookup x=some .local:=by first | exact .inl rfl | exact .inr rfl | assumption) :
  PS X (.Assign [.Name x pos'] e pos) (tSt K EX d (sF i ma)):=(ps_set hN hi hx he hs hf).mono fun _ _ _ q=>c_setF q
theorem q_app {i:Nat} {x:Str} {p apos cpos:Pos} (hN:X.N[i]?=some x) (hv:Vis X.env.scope x) (ha:PE X e (tM K EX .V ma)) (hd:(x == ("__debug__" : Str))=false:=by decide) (hcd:(x == ("__classdict__" : Str))=false:=by decide)
  (hbase:attributeBase (.Name x p) "append" X.env (eval (.Name x p) X.env)=eval (.Name x p) X.env:=by rfl)
  (hfew:((backTo cpos (starEach [e] X.env)).all (fun x=>!x.1)&&(backToKw cpos (keywordEach [] X.env)).all (fun x=>x.1.isSome)
   && decide (([e]:List Expr).length+([]:List Keyword).length+(if ([]:List Keyword).isEmpty then 0 else 1)<30))=true:=by rfl)
  (hline:(apos.endLine == cpos.line)=true:=by rfl) (hs:starEach [e] X.env=(false,eval e X.env)::starEach [] X.env:=by rfl) (hsw:swapsWith (.Call (.Attribute (.Name x p) "append" apos) [e] [] cpos) none pos.line X.env=pure false:=by rfl) :
  PS X (.Expr (.Call (.Attribute (.Name x p) "append" apos) [e] [] cpos) pos) (tSt K EX d (mApp i ma)):=(ps_expr (pe_append (pe_var hN hv hd hcd) ha hbase hfew hline hs) hsw).mono fun _ _ _ q=>c_app q
theorem q_if_ {c:Expr} {x y:List Stmt} (hc:PT X c (tT K EX ta)) (ha:PSs X x (tSt K EX d m)) (hb:PSs X y (tSt K EX d n)):PS X (.If c x y pos) (tSt K EX d (mIf ta m n)):=(ps_if hc ha hb).mono fun _ _ _ q=>c_ifS q
theorem q_while {c:Expr} {body:List Stmt} (hp:PassesOwn (model X.prog X.w) X.A X.env X.xe) (hc:PT X c (tT K EX ta)) (hb:PSs X body (tSt K EX d m)):PS X (.While c body [] pos) (tSt K EX d (mWhile ta m)):=(ps_while hp hc hb).mono fun _ _ _ q=>c_while q
theorem q_for {tg iter:Expr} {body:List Stmt} {dd:Mode} {g:TG} {mg:W->Rho->Option Rho} {mi:Rho->R (List W)} (hp:PassesOwn (model X.prog X.w) X.A X.env X.xe) (hc:X.calm=true) (hi:PI X tg iter (tIt K EX true dd mi)) (hg:PG X tg g) (hgt:Gt K dd g mg) (hb:PSs X body (tSt K EX d m))
  (hs:∀ x,foldedSetIterable iter X.env x=pure x:=by intro _; rfl):PS X (.For tg iter body [] pos) (tSt K EX d (sFor mi mg m)):=(ps_for hp hc hi hg hb hs).mono fun _ _ _ q=>c_for hgt q
end
end TP
namespace TP
open PySem L2
abbrev gLt (i j:Int):W:=.bl (decide (i<j))
abbrev gLe (i j:Int):W:=.bl (decide (i<=j))
abbrev gGt (i j:Int):W:=.bl (decide (j<i))
abbrev gGe (i j:Int):W:=.bl (decide (j<=i))
abbrev gAdd (i j:Int):W:=.int (i+j)
abbrev gSub (i j:Int):W:=.int (i-j)
abbrev gMul (i j:Int):W:=.int (i*j)
abbrev gMod (i j:Int):W:=.int (i%j)
abbrev gDiv (i j:Int):W:=.int (i/j)
abbrev gPow (i j:Int):W:=.int (i^j.toNat)
abbrev gNeg (i:Int):W:=.int (-i)
abbrev gMax (i j:Int):Int:=if j>i then j else i
abbrev gMin (i j:Int):Int:=if j<i then j else i
abbrev gAdd_ (i j:Int):Int:=i+j
abbrev gSub_ (i j:Int):Int:=i-j
abbrev cMod (_ j:Int):Prop:=0<j
instance (i j:Int):Decidable (CMul i j):=by unfold CMul; infer_instance
instance (i j:Int):Decidable (CDiv i j):=by unfold CDiv; infer_instance
instance (i j:Int):Decidable (CPow i j):=by unfold CPow; infer_instance
instance (i j:Int):Decidable (CPowB i j):=by unfold CPowB; infer_instance
def vOf:W->Option V
 | .non=>some .non
 | .bl b=>some (.bl b)
 | .int i=>some (.int i)
 | .str x=>some (.str x)
 | _=>none
def eqSc (u v:W):Option Bool:=match vOf u,vOf v with
 | some x,some y=>if scal x y then some (decide (x=y)) else none
 | _,_=>none
def fEqS (neg:Bool) (u v:W):R W:=match eqSc u v with
 | some b=>.ok (.bl (if neg then !b else b))
 | none=>.stuck
section
variable {K:Frag} {H0 G H:Hp} {ρ:Rho} {σ:St} {d:Mode}
theorem vOf_B {Ha:Hp} {v:V} {w:W} {x:V} (h:Md K H0 Ha G H v w .B) (e:vOf w=some x):v=x:=by
 cases w <;> first | cases e | skip
 ·exact h.nonB
 ·exact h.blB
 ·exact h.intB
 ·exact h.strB
theorem o2_eqS:Op2 K .B d rEq (fEqS false):=by
 intro EX H0 Hs G H ρ σ Ha Hb x y u v Q I s mx my o
 unfold fEqS eqSc at o
 cases hu:vOf u with
 | none=>rw [hu] at o; exact o.elim
 | some p=>
  cases hv:vOf v with
  | none=>rw [hu,hv] at o; exact o.elim
  | some q=>
   rw [hu,hv] at o
   cases vOf_B mx hu
   cases vOf_B my hv
   dsimp only at o
   by_cases c:scal x y=true
   ·rw [if_pos c] at o
    exact ⟨c,o _ G H (Ext.refl I.gh) (Md.sca rfl (fun _=>.bl) d)⟩
   ·rw [if_neg c] at o; exact o.elim
theorem o2_neS:Op2 K .B d rNe (fEqS true):=by
 intro EX H0 Hs G H ρ σ Ha Hb x y u v Q I s mx my o
 unfold fEqS eqSc at o
 cases hu:vOf u with
 | none=>rw [hu] at o; exact o.elim
 | some p=>
  cases hv:vOf v with
  | none=>rw [hu,hv] at o; exact o.elim
  | some q=>
   rw [hu,hv] at o
   cases vOf_B mx hu
   cases vOf_B my hv
   dsimp only at o
   by_cases c:scal x y=true
   ·rw [if_pos c] at o
    exact ⟨c,o _ G H (Ext.refl I.gh) (Md.sca rfl (fun _=>.bl) d)⟩
   ·rw [if_neg c] at o; exact o.elim
end
end TP
namespace TP
open PySem L2
mutual
def pd:W->PyData
 | .non=>.none
 | .bl b=>.bool b
 | .int i=>.int i
 | .str x=>.str x
 | .ty _=>.none
 | .exc _ _=>.none
 | .cls _=>.none
 | .dst _ _ _ _=>.none
 | .tup ws=>.tuple (pds ws)
 | .lst ws=>.list (pds ws)
 | .scr ws=>.list (pds ws)
def pds:List W->List PyData
 | []=>[]
 | w::ws=>pd w::pds ws
end
mutual
def shp:Nat->W->Bool
 | _,.non=>true
 | _,.bl _=>true
 | _,.int _=>true
 | _,.str x=>PyData.strOk x
 | n+1,.tup ws=>shps n ws
 | n+1,.lst ws=>shps n ws
 | n+1,.scr ws=>shps n ws
 | _,_=>false
def shps:Nat->List W->Bool
 | _,[]=>true
 | n,w::ws=>shp n w&&shps n ws
end
theorem shp_ok:∀ (w:W) (n:Nat),shp n w=true->(pd w).canLay0=true/\(pd w).depth<=n:=by
 intro w
 have tl:∀ (ws:List W) (c:List PyData->PyData),(∀ l,(c l).canLay0=PyData.canLayAll0 l)->(∀ l,(c l).depth=PyData.depthAll l+1)->(∀ n:Nat,shps n ws=true->PyData.canLayAll0 (pds ws)=true/\PyData.depthAll (pds ws)<=n)->∀ n:Nat,(match n with | 0=>false | n+1=>shps n ws)=true->(c (pds ws)).canLay0=true/\(c (pds ws)).depth<=n:=fun ws c h1 h2 ih n h=>by
  cases n with
  | zero=>cases h
  | succ n=>have:=ih n h; exact ⟨by rw [h1]; exact this.1,by rw [h2]; exact Nat.succ_le_succ this.2⟩
 have fl:∀ {n:Nat} {w:W} {P:Prop},shp n w=false->shp n w=true->P:=fun h1 h2=>by rw [h1] at h2; cases h2
 induction w using W.rec (motive_2:=fun ws=>∀ n:Nat,shps n ws=true->PyData.canLayAll0 (pds ws)=true/\PyData.depthAll (pds ws)<=n) with
 | non=>exact fun n _=>⟨rfl,Nat.zero_le _⟩
 | bl b=>exact fun n _=>⟨rfl,Nat.zero_le _⟩
 | int i=>exact fun n _=>⟨rfl,Nat.zero_le _⟩
 | str x=>exact fun n h=>⟨by cases n <;> exact h,Nat.zero_le _⟩
 | ty a=>exact fun n h=>fl (by cases n <;> rfl) h
 | exc a b=>exact fun n h=>fl (by cases n <;> rfl) h
 | cls a=>exact fun n h=>fl (by cases n <;> rfl) h
 | dst a b c d=>exact fun n h=>fl (by cases n <;> rfl) h
 | tup ws ih=>exact fun n h=>tl ws .tuple (fun _=>rfl) (fun _=>rfl) ih n (by cases n <;> exact h)
 | lst ws ih=>exact fun n h=>tl ws .list (fun _=>rfl) (fun _=>rfl) ih n (by cases n <;> exact h)
 | scr ws ih=>exact fun n h=>tl ws .list (fun _=>rfl) (fun _=>rfl) ih n (by cases n <;> exact h)
 | nil=>exact ⟨rfl,Nat.zero_le _⟩
 | cons w ws h1 h2=>
  rename_i n h
  have h':shp n w=true/\shps n ws=true:=(Bool.and_eq_true _ _).mp h
  have a:=h1 n h'.1
  have b:=h2 n h'.2
  exact ⟨by show (PyData.canLay0 _&&PyData.canLayAll0 _)=true; rw [a.1,b.1]; rfl,Nat.max_le.mpr ⟨a.2,b.2⟩⟩
theorem shps_ok (ws:List W) (n:Nat) (h:shps n ws=true):PyData.canLayAll0 (pds ws)=true/\PyData.depthAll (pds ws)<=n:=by
 have:=shp_ok (.tup ws) (n+1) h
 exact ⟨this.1,Nat.le_of_succ_le_succ this.2⟩
section
variable {X:Cx} {pins:List (Addr×Obj)} {σ:St} {H:Hp} {s:Shared}
theorem Rep.reads (I:Inv X pins σ H s) {x:V} {w:W} {u:Value} (n:Nat) (r:Rep X.K H x w):shp n w=true->RelV x u->∃ as,Reads s.heap u (pd w) as:=by
 have fl:∀ {n:Nat} {w:W} {P:Prop},shp n w=false->shp n w=true->P:=fun h1 h2=>by rw [h1] at h2; cases h2
 induction r using Rep.rec (motive_2:=fun xs ws _=>∀ (us:List Value) (n:Nat),shps n ws=true->Vals xs us->∃ as,ReadsAll s.heap us (pds ws) as) generalizing u n with
 | non=>intro _ r; cases r; exact ⟨_,.none⟩
 | bl=>intro _ r; cases r; exact ⟨_,.bool _⟩
 | int=>intro _ r; obtain ⟨t,rfl⟩:=r; exact ⟨_,.int _ _⟩
 | str=>intro _ r; obtain ⟨t,rfl⟩:=r; exact ⟨_,.str _ _⟩
 | ty=>exact fun h _=>fl (by cases n <;> rfl) h
 | exc=>exact fun h _=>fl (by cases n <;> rfl) h
 | cls=>exact fun h _=>fl (by cases n <;> rfl) h
 | dct=>exact fun h _=>fl (by cases n <;> rfl) h
 | dst=>exact fun h _=>fl (by cases n <;> rfl) h
 | dsz=>exact fun h _=>fl (by cases n <;> rfl) h
 | tup ha _ ih=>
  intro h r
  cases r
  cases n with
  | zero=>cases h
  | succ n=>
   obtain ⟨its,rv,⟨o,e,c,k,dd⟩,_⟩:=I.tuple (SqT.of ha)
   obtain ⟨as,q⟩:=ih _ n h rv
   exact ⟨_,.tuple e c dd (by simpa using q)⟩
 | lst ha _ ih=>
  intro h r
  cases r
  cases n with
  | zero=>cases h
  | succ n=>
   obtain ⟨its,rv,pl,_⟩:=I.list (SqL.of ha)
   obtain ⟨o,e,c,k,dd⟩:=pl.isList
   obtain ⟨as,q⟩:=ih _ n h rv
   exact ⟨_,.list e c dd (by simpa using q)⟩
 | scr ha _ ih=>
  intro h r
  cases r
  cases n with
  | zero=>cases h
  | succ n=>
   obtain ⟨its,rv,pl,_⟩:=I.list ha
   obtain ⟨o,e,c,k,dd⟩:=pl.isList
   obtain ⟨as,q⟩:=ih _ n h rv
   exact ⟨_,.list e c dd (by simpa using q)⟩
 | nil=>rename_i us n _ r; cases r; exact ⟨_,.nil⟩
 | cons _ _ h1 h2=>
  rename_i us n h r
  cases r with
  | cons r1 r2=>
   have h':=(Bool.and_eq_true _ _).mp h
   obtain ⟨as,q1⟩:=h1 n h'.1 r1
   obtain ⟨bs,q2⟩:=h2 _ n h'.2 r2
   exact ⟨_,.cons q1 q2⟩
def eqW (u v:W):Bool:=PyData.eqv (pd u) (pd v)
def rEqD (K:Frag) (neg:Bool):R2:=fun x y H Q=>∃ u v,Rep K H x u/\Rep K H y v/\shp 8 u=true/\shp 8 v=true/\Q (.bl (if neg then !eqW u v else eqW u v)) H
theorem shaped_of {w:W} (h:shp 8 w=true):SeqAt.shaped (pd w)=true:=by
 obtain ⟨a,b⟩:=shp_ok w 8 h
 unfold SeqAt.shaped
 rw [a,Bool.true_and]
 exact decide_eq_true (Nat.le_trans b (by decide))
theorem op_eqD (hu:X.A.units+64<cLine):OpR X (compareOp .Eq) (rEqD X.K false):=by
 intro pins s σ H x y v u Q I rx ry h
 obtain ⟨a,b,ra,rb,sa,sb,q⟩:=h
 obtain ⟨as,qa⟩:=Rep.reads I 8 ra sa rx
 obtain ⟨bs,qb⟩:=Rep.reads I 8 rb sb ry
 exact PyProof.Rows.eq_dataH qa qb (shaped_of sa) (shaped_of sb) hu ⟨.bl (eqW a b),H,I,rfl,q⟩
theorem op_neD (hu:X.A.units+64<cLine):OpR X (compareOp .NotEq) (rEqD X.K true):=by
 intro pins s σ H x y v u Q I rx ry h
 obtain ⟨a,b,ra,rb,sa,sb,q⟩:=h
 obtain ⟨as,qa⟩:=Rep.reads I 8 ra sa rx
 obtain ⟨bs,qb⟩:=Rep.reads I 8 rb sb ry
 exact PyProof.Rows.ne_dataH qa qb (shaped_of sa) (shaped_of sb) hu ⟨.bl (!eqW a b),H,I,rfl,q⟩
def fEq (neg:Bool) (u v:W):R W:=if shp 8 u&&shp 8 v then .ok (.bl (if neg then !eqW u v else eqW u v)) else .stuck
theorem o2_eqD {K:Frag} {d:Mode} {neg:Bool}:Op2 K .B d (rEqD K neg) (fEq neg):=by
 intro EX H0 Hs G H ρ σ Ha Hb x y u v Q I s mx my o
 unfold fEq at o
 by_cases c:(shp 8 u&&shp 8 v)=true
 ·rw [if_pos c] at o
  have c':shp 8 u=true/\shp 8 v=true:=by simpa using c
  exact ⟨u,v,mx.whole I,my.whole I,c'.1,c'.2,o _ G H (Ext.refl I.gh) (Md.sca rfl (fun _=>.bl) d)⟩
 ·rw [if_neg c] at o; exact o.elim
def isBW:W->Bool->Bool
 | .bl a,b=>a == b
 | _,_=>false
def fIsB (neg:Bool):W->W->R W
 | u,.bl b=>.ok (.bl (if neg then !isBW u b else isBW u b))
 | _,_=>.stuck
end
theorem hu64 {A:Around} {k:Nat} (hr:Room k A):A.units+64<cLine:=hr.units
end TP
namespace TP
open PySem L2
section
variable {X:Cx} {pins:List (Addr×Obj)} {σ:St} {H:Hp} {s:Shared}
theorem vals_one {x:V} {us:List Value} (r:Vals [x] us):∃ u,us = [u]/\RelV x u:=by
 cases r with
 | cons a t=>cases t; exact ⟨_,rfl,a⟩
theorem keep_push {h':Heap} {o:Obj} (hk:∀ b u,b ∉ [s.heap.objs.size]->(s.heap.push o).get? b=some u->h'.get? b=some u):∀ b u,s.heap.get? b=some u->h'.get? b=some u:=fun b u e=>
 hk b u (by simp; exact Nat.ne_of_lt (Heap.lt_size e)) (Heap.get?_push_of_some _ e)
theorem val_at {α:Type} {f:α->V} {g:α->Value->Prop} (hg:∀ a u,RelV (f a) u->g a u) {as:List α} {its:List Value} (r:Vals (as.map f) its) {i:Nat} {v:Value} (h:its.toArray[i]?=some v):∃ a,as[i]?=some a/\g a v:=by
 have h':its[i]?=some v:=by simpa using h
 induction as generalizing its i with
 | nil=>cases r; simp at h'
 | cons a as ih=>
  cases r with
  | cons q t=>
   cases i with
   | zero=>simp at h'; subst h'; exact ⟨a,rfl,hg _ _ q⟩
   | succ i=>simpa using ih t (i:=i) (by simpa using h') (by simpa using h')
theorem walk_list {p:Addr} {xs:List V} (I:Inv X pins σ H s) (hc:X.calm=true) (hp:H p=some (.lst xs)):∃ its:List Value,Vals xs its/\s.heap.IsList p its.toArray/\xs.length=its.toArray.size/\p≠s.heap.objs.size /\
  Walks X.prog X.w X.A.in1 s.heap.objs.size [s.heap.objs.size,p] [s.heap.objs.size] its.toArray.size (fun i v=>its.toArray[i]?=some v) (fun i h=>h.IsListIter s.heap.objs.size p i/\h.IsList p its.toArray):=by
 obtain ⟨its,rv,pl,hz⟩:=I.list (SqL.of hp)
 obtain ⟨o,e,_⟩:=pl.isList
 have hne:p≠s.heap.objs.size:=Nat.ne_of_lt (Heap.lt_size e)
 exact ⟨its,rv,pl.isList,by rw [List.size_toArray]; exact rv.length,hne,Walks.list (show X.A.in1.handled=none from I.ok.hd hc) _ p hne _⟩
theorem all_range {bs:List Bool}:(List.range bs.length).all (fun i=>bs.getD i false)=bs.all id:=by
 rw [Bool.eq_iff_iff,List.all_eq_true,List.all_eq_true]
 constructor
 ·intro h x hx
  obtain ⟨i,hi,e⟩:=List.mem_iff_getElem.mp hx
  have:=h i (by simpa using hi)
  rw [List.getD_eq_getElem?_getD] at this
  simpa [hi,e] using this
 ·intro h i hi
  have hi:i<bs.length:=by simpa using hi
  rw [List.getD_eq_getElem?_getD]
  simpa [hi] using h bs[i] (List.getElem_mem hi)
theorem truth_bl {A:Around} {bs:List Bool} {its:List Value} (rv:Vals (bs.map V.bl) its):TruthOf X.prog X.w A (fun i v=>its.toArray[i]?=some v) (fun i=>bs.getD i false):=fun i v s' Q' E hv hq=>by
 obtain ⟨b,hb,e⟩:=val_at (f:=V.bl) (g:=fun b u=>u=.bool b) (fun b u r=>r) rv hv
 subst e
 have:bs.getD i false=b:=by rw [List.getD_eq_getElem?_getD,hb]; rfl
 have hq':Q' (bs.getD i false) s':=hq
 rw [this] at hq'
 exact wpAny_truthy_bool hq'
theorem call_allL (hc:X.calm=true):CallR X (.builtin "all") (fun xs H Q=>∃ (p:Addr) (bs:List Bool),xs = [.ref p]/\H p=some (.lst (bs.map V.bl))/\Q (.bl (bs.all id)) H):=by
 intro pins s σ H xs us Q I r h
 obtain ⟨p,bs,rfl,hp,q⟩:=h
 obtain ⟨u,rfl,rx⟩:=vals_one r
 cases rx
 obtain ⟨its,rv,hl,hlen,hne,Wk⟩:=walk_list I hc hp
 rw [List.length_map] at hlen
 refine call_all_walk (wpAny_pyIter_list hl ⟨_,_,_,_,_,_,_,rfl,Wk,⟨⟨_,Heap.get?_push_size _ rfl,rfl,rfl⟩,hl.push _⟩,truth_bl rv,fun h' tk hk=>?_⟩)
 rw [<- hlen,all_range]
 exact ⟨.bl (bs.all id),H,I.kept (t':=tk) (keep_push hk),rfl,q⟩
def blsW:List W->Option (List Bool)
 | []=>some []
 | .bl b::ws=>(blsW ws).map (b::·)
 | _=>none
theorem bls_map (bs:List Bool):blsW (bs.map W.bl)=some bs:=by
 induction bs with
 | nil=>rfl
 | cons b bs ih=>rw [List.map_cons,blsW,ih]; rfl
theorem Reps.bls {K:Frag} {F:Hp} {vs:List V} {ws:List W} {bs:List Bool} (r:Reps K F vs ws):blsW ws=some bs->vs=bs.map V.bl:=
 Reps.ind (P:=fun vs ws=>∀ bs,blsW ws=some bs->vs=bs.map V.bl) (fun bs h=>by cases h; rfl) (fun {v w vs ws} r _ ih bs h=>by
  cases w <;> first | cases h | skip
  rename_i b
  have e:v=.bl b:=r.inv
  subst e
  have h':(blsW ws).map (b::·)=some bs:=h
  cases q:blsW ws with
  | none=>rw [q] at h'; cases h'
  | some cs=>rw [q] at h'; cases h'; rw [ih cs q]; rfl) r bs
def fBools (g:List Bool->Bool):List W->R W
 | [.lst ws]=>toR (blsW ws)>>=fun bs=>.ok (.bl (g bs))
 | _=>.stuck
theorem b_bools {K:Frag} {d:Mode} {g:List Bool->Bool}:Cal K .B d (fun xs H Q=>∃ (p:Addr) (bs:List Bool),xs = [.ref p]/\H p=some (.lst (bs.map V.bl))/\Q (.bl (g bs)) H) (fBools g):=by
 intro EX H0 Hs G H ρ σ Ha vs ws Q I s m o
 cases m with
 | nil=>exact o.elim
 | @cons w v ws2 vs2 a t=>
  cases t with
  | cons _ _=>first | exact o.elim | (cases w <;> exact o.elim)
  | nil=>
   cases w <;> first | exact o.elim | skip
   rename_i ws
   obtain ⟨p,ys,rfl,hs,r⟩:=a.lstB I
   replace o:Out EX G H (mdW K d H0 Hs) (toR (blsW ws)>>=fun bs=>.ok (.bl (g bs))) Q:=o
   cases q:blsW ws with
   | none=>rw [q] at o; exact o.elim
   | some bs=>
    rw [q] at o
    rw [Reps.bls r q] at hs
    exact ⟨p,bs,rfl,hs,o _ G H (Ext.refl I.gh) (Md.sca rfl (fun _=>.bl) d)⟩
def gAll (bs:List Bool):Bool:=bs.all id
end
theorem bt_all:bootBuiltins "all" = some (.builtin "all"):=by decide +kernel
section
variable {X:Cx} {K:Frag} {d:Mode}
def intsW:List W->Option (List Int)
 | []=>some []
 | .int b::ws=>(intsW ws).map (b::·)
 | _=>none
theorem ints_map (bs:List Int):intsW (bs.map W.int)=some bs:=by
 induction bs with
 | nil=>rfl
 | cons b bs ih=>rw [List.map_cons,intsW,ih]; rfl
def fInts (g:List Int->Int):List W->R W
 | [.lst ws]=>toR (intsW ws)>>=fun bs=>.ok (.int (g bs))
 | _=>.stuck
def fAbs:List W->R W
 | [.int i]=>.ok (.int (if i<0 then -i else i))
 | _=>.stuck
def fInt:List W->R W
 | [.int i]=>.ok (.int i)
 | [.bl k]=>.ok (.int (if k then 1 else 0))
 | _=>.stuck
def fStr:List W->R W
 | [.int i]=>if i.natAbs.log2<1920 then .ok (.str (toString i)) else .stuck
 | _=>.stuck
theorem b_str:Cal K .B d (fun xs H Q=>∃ i,xs = [.int i]/\i.natAbs.log2<1920/\Q (.str (toString i)) H) fStr:=by
 intro EX H0 Hs G H ρ σ Ha vs ws Q I s m o
 cases m with
 | nil=>exact o.elim
 | @cons w v ws2 vs2 a t=>
  cases t with
  | cons _ _=>first | exact o.elim | (cases w <;> exact o.elim)
  | nil=>
   cases w <;> first | exact o.elim | skip
   rename_i i
   replace o:Out EX G H (mdW K d H0 Hs) (if i.natAbs.log2<1920 then R.ok (W.str (toString i)) else .stuck) Q:=o
   by_cases c:i.natAbs.log2<1920
   ·rw [if_pos c] at o
    exact ⟨_,by rw [a.intB],c,o _ G H (Ext.refl I.gh) (Md.sca rfl (fun _=>.str) d)⟩
   ·rw [if_neg c] at o; exact o.elim
end
end TP
namespace TP
open PySem L2
def mExt (i:Nat) (c:Bool) (m:Rho->R W):Rho->R Fl:=fun ρ=>match ρ[i]? with
 | some (.own ws)=>m ρ>>=fun w=>(match w with
  | .lst us=>if ws.length+us.length<=1000 then (if c||noLs us then .ok (.nx (ρ.set i (.own (ws++us)))) else .stuck) else .stuck
  | _=>.stuck)
 | _=>.stuck
def mRev (i:Nat):Rho->R Fl:=fun ρ=>match ρ[i]? with
 | some (.own ws)=>.ok (.nx (ρ.set i (.own ws.reverse)))
 | _=>.stuck
section
variable {K:Frag} {EX:EXT} {H0 G H:Hp} {ρ:Rho} {σ:St} {d:Mode} {D:Ends}
end
section
variable {X:Cx} {K:Frag} {EX:EXT} {d:Mode} {e:Expr} {pos:Pos} {ma:Rho->R W}
end
section
variable {X:Cx} {K:Frag} {EX:EXT} {a e tg:Expr} {es:List Expr} {pos:Pos} {ma:Rho->R W} {mr:Rho->R (List W)}
theorem q_iSqB (h:PE X e (tM K EX .B ma)) (hK:X.K=K:=by rfl):PI X tg e (tIt K EX false .U (bS ma)):=q_iSq (lp:=false) h hK
theorem q_iSqU (h:PE X e (tM K EX .U ma)) (hK:X.K=K:=by rfl):PI X tg e (tIt K EX true .U (bS ma)):=q_iSq (lp:=true) h hK
theorem q_zipB {elts:List Expr} {p tp:Pos} {k:Nat} (hg:Gl X "zip") (hm:X.mg "zip" = none) (ha:PA X (a::es) (tA K EX .B mr)) (hK:X.K=K:=by rfl) (hs:starEach (a::es) X.env=(false,eval a X.env)::starEach es X.env:=by rfl) (hpl:(backTo pos (starEach es X.env)).any (·.1)=false:=by rfl) :
  PI X (.Tuple elts k tp) (.Call (.Name "zip" p) (a::es) [] pos) (tIt K EX false .U (bI zipR mr)):=q_zip (lp:=false) hg hm ha hK hs hpl
theorem q_zipU {elts:List Expr} {p tp:Pos} {k:Nat} (hg:Gl X "zip") (hm:X.mg "zip" = none) (ha:PA X (a::es) (tA K EX .U mr)) (hK:X.K=K:=by rfl) (hs:starEach (a::es) X.env=(false,eval a X.env)::starEach es X.env:=by rfl) (hpl:(backTo pos (starEach es X.env)).any (·.1)=false:=by rfl) :
  PI X (.Tuple elts k tp) (.Call (.Name "zip" p) (a::es) [] pos) (tIt K EX true .U (bI zipR mr)):=q_zip (lp:=true) hg hm ha hK hs hpl
end
end TP
namespace TP
open PySem L2
section
variable {K:Frag} {EX:EXT} {H0 G H G1 H1:Hp} {ρ:Rho} {σ:St} {d:Mode} {D:Ends}
def isOwn:Sl->Bool
 | .own _=>true
 | .dic _=>true
 | .dik _=>true
 | .dos _=>true
 | _=>false
def noOwn (ρ:Rho):Bool:=ρ.all fun s=>!isOwn s
def sCU (i:Nat) (f:List W->R W) (ma:Rho->R (List W)):Rho->R Fl:=fun ρ=>if noOwn ρ then (ma ρ>>=fun ws=>f ws>>=fun w=>.ok (.nx (ρ.set i (.par w)))) else .stuck
end
section
variable {X:Cx} {K:Frag} {d:Mode} {e:Expr} {es:List Expr} {pos:Pos} {mr:Rho->R (List W)}
end
end TP
namespace TP
open PySem L2
section
variable {X:Cx} {tg:Expr}
end
def revW:List W->R (List W)
 | [.lst ws]=>.ok ws.reverse
 | _=>.stuck
section
variable {K:Frag} {EX:EXT} {H0 G H:Hp} {ρ:Rho} {σ:St}
end
section
variable {X:Cx} {K:Frag} {EX:EXT} {a tg:Expr} {pos:Pos} {mr:Rho->R (List W)}
end
end TP
namespace TP
open PySem L2
section
variable {X:Cx} {pins:List (Addr×Obj)} {σ:St} {H:Hp} {s:Shared}
end
def seqI:W->Option (List Int)
 | .lst ws=>intsW ws
 | .tup ws=>intsW ws
 | _=>none
def fBest (g:List Int->Int):List W->R W
 | [w]=>toR (seqI w)>>=fun ns=>if 0<ns.length then .ok (.int (g ns)) else .stuck
 | _=>.stuck
end TP
namespace HT
open PySem PySem.Spec PyProof.Rows
end HT
namespace TP
open PySem L2 PySem.Spec PyProof.Rows
variable {X:Cx} {K:Frag}
end TP
namespace TP
open PySem PySem.W PyProof.Rows
section
variable (r:Nat->Int)
def runK {α:Type}:KasT α->α
 | .ret a=>a
 | .ask i j k=>runK (k (decide (r i<r j)))
theorem ask_t {α:Type} {i j:Nat} {k:Bool->KasT α} (h:r i<r j):runK r (.ask i j k)=runK r (k true):=congrArg (fun b=>runK r (k b)) (decide_eq_true h)
theorem ask_f {α:Type} {i j:Nat} {k:Bool->KasT α} (h:¬ r i<r j):runK r (.ask i j k)=runK r (k false):=congrArg (fun b=>runK r (k b)) (decide_eq_false h)
def ky (p:Array Nat) (k:Nat):Int:=r (p.getD k 0)
def up (p:Array Nat) (n:Nat):Prop:=∀ k,k+1<n->ky r p k<=ky r p (k+1)
def dn (p:Array Nat) (n:Nat):Prop:=∀ k,k+1<n->ky r p (k+1)<=ky r p k
theorem up_all {p:Array Nat} {n:Nat} (h:up r p n):∀ j i,i<=j->j<n->ky r p i<=ky r p j:=by
 intro j
 induction j with
 | zero=>intro i a _; rw [Nat.le_zero.mp a]; exact Int.le_refl _
 | succ j ih=>
  intro i a b
  rcases Nat.lt_or_eq_of_le a with q | rfl
  ·exact Int.le_trans (ih i (Nat.le_of_lt_succ q) (Nat.lt_of_succ_lt b)) (h j b)
  ·exact Int.le_refl _
theorem place_ok {p:Array Nat} {k:Nat} (hu:up r p k):∀ (f l h:Nat),h-l<=f->l<=h->h<=k->(∀ i,i<l->ky r p i<=ky r p k)->(∀ i,h<=i->i<k->ky r p k<ky r p i) ->
  ∃ R,runK r (kas_place p k f l h)=R/\R<=k/\(∀ i,i<R->ky r p i<=ky r p k)/\∀ i,R<=i->i<k->ky r p k<ky r p i:=by
 intro f
 induction f with
 | zero=>
  intro l h hf hl hk a b
  have e:h=l:=by omega
  subst e
  exact ⟨h,rfl,hk,a,b⟩
 | succ f ih=>
  intro l h hf hl hk a b
  by_cases hlh:l≥h
  ·have e:h=l:=Nat.le_antisymm hlh hl
   subst e
   exact ⟨h,by show runK r (if h≥h then .ret h else _)=h; rw [if_pos (Nat.le_refl _)]; rfl,hk,a,b⟩
  ·obtain ⟨md,hmd⟩:∃ md,md=(l+h)/2:=⟨_,rfl⟩
   have m1:l<=md:=by rw [hmd]; exact (Nat.le_div_iff_mul_le (by decide)).mpr (by rw [Nat.mul_two]; exact Nat.add_le_add_left hl _)
   have m2:md<h:=by rw [hmd]; exact (Nat.div_lt_iff_lt_mul (by decide)).mpr (by rw [Nat.mul_two]; exact Nat.add_lt_add_right (Nat.lt_of_not_le hlh) _)
   have m3:md-l<=f:=Nat.le_of_lt_succ (Nat.lt_of_lt_of_le (Nat.sub_lt_sub_right m1 m2) hf)
   have m4:h-(md+1)<=f:=Nat.le_trans (Nat.sub_le_sub_left (Nat.succ_le_succ m1) h) (Nat.pred_le_pred hf)
   have e0:runK r (kas_place p k (f+1) l h)=runK r (.ask (p.getD k 0) (p.getD md 0) fun c=>if c=true then kas_place p k f l md else kas_place p k f (md+1) h):=by
    rw [hmd]
    show runK r (if l≥h then .ret l else _)=_
    rw [if_neg hlh]
   by_cases c:ky r p k<ky r p md
   ·obtain ⟨R,e,x⟩:=ih l md m3 m1 (Nat.le_trans (Nat.le_of_lt m2) hk) a fun i x y=>Int.lt_of_lt_of_le c (up_all r hu i md x y)
    exact ⟨R,e0.trans ((ask_t r c).trans e),x⟩
   ·obtain ⟨R,e,x⟩:=ih (md+1) h m4 m2 hk (fun i x=>Int.le_trans (up_all r hu md i (Nat.le_of_lt_succ x) (Nat.lt_of_lt_of_le m2 hk)) (Int.not_lt.mp c)) b
    exact ⟨R,e0.trans ((ask_f r c).trans e),x⟩
end
end TP
namespace TP
open PySem L2
section
variable {prog:Program} {w:World} {A:Around} {E:Value->Shared->Prop} {s:Shared}
end
section
variable {X:Cx}
end
section
variable {K:Frag} {EX:EXT} {H0 G H:Hp} {ρ:Rho} {σ:St}
end
section
variable {X:Cx} {K:Frag} {EX:EXT} {a:Expr} {pos:Pos} {mr:Rho->R (List W)}
end
def inW (u:W):W->Option Bool
 | .tup ws=>some ((pds ws).any fun y=>PyData.eqv y (pd u))
 | .lst ws=>some ((pds ws).any fun y=>PyData.eqv y (pd u))
 | .scr ws=>some ((pds ws).any fun y=>PyData.eqv y (pd u))
 | _=>none
def rIn (K:Frag) (neg:Bool):R2:=fun x y H Q=>∃ u v b,Rep K H x u/\Rep K H y v/\shp 8 u=true/\shp 8 v=true/\inW u v=some b/\Q (.bl (if neg then !b else b)) H
section
variable {X:Cx}
theorem op_in (hu:X.A.units+64<cLine):OpR X (compareOp .In) (rIn X.K false):=by
 intro pins s σ H x y v u Q I rx ry h
 obtain ⟨a,c,b,ra,rc,sa,sc,e,q⟩:=h
 obtain ⟨as,qa⟩:=Rep.reads I 8 ra sa rx
 obtain ⟨bs,qb⟩:=Rep.reads I 8 rc sc ry
 have la:=shp_ok a 8 sa
 cases c <;> first | (cases e; done) | skip
 all_goals
  rename_i ws
  have lc:=shps_ok ws 7 sc
  have hm:X.A.units+1+min (PyData.depthAll (pds ws)) (pd a).depth<cLine:=by have:=Nat.min_le_left (PyData.depthAll (pds ws)) (pd a).depth; omega
  cases e
 ·exact SeqAt.in_tuple_reads qb qa lc.1 la.1 hm ⟨.bl _,H,I,rfl,q⟩
 ·exact SeqAt.in_list_reads qb qa lc.1 la.1 hm ⟨.bl _,H,I,rfl,q⟩
 ·exact SeqAt.in_list_reads qb qa lc.1 la.1 hm ⟨.bl _,H,I,rfl,q⟩
end
def fIn (neg:Bool) (u v:W):R W:=if shp 8 u&&shp 8 v then (match inW u v with
 | some b=>.ok (.bl (if neg then !b else b))
 | none=>.stuck) else .stuck
theorem o2_in {K:Frag} {d:Mode} {neg:Bool}:Op2 K .B d (rIn K neg) (fIn neg):=by
 intro EX H0 Hs G H ρ σ Ha Hb x y u v Q I s mx my o
 unfold fIn at o
 by_cases c:(shp 8 u&&shp 8 v)=true
 ·rw [if_pos c] at o
  have c':shp 8 u=true/\shp 8 v=true:=by simpa using c
  cases hb:inW u v with
  | none=>rw [hb] at o; exact o.elim
  | some b=>
   rw [hb] at o
   exact ⟨u,v,b,mx.whole I,my.whole I,c'.1,c'.2,hb,o _ G H (Ext.refl I.gh) (Md.sca rfl (fun _=>.bl) d)⟩
 ·rw [if_neg c] at o; exact o.elim
end TP
namespace TP
open PySem L2
def lexLt:List Int->List Int->Bool
 | [],[]=>false
 | [],_::_=>true
 | _::_,[]=>false
 | a::as,b::bs=>if a=b then lexLt as bs else decide (a<b)
def rankL (ss:List (List Int)) (i:Nat):Int:=((ss.countP fun x=>lexLt x (ss.getD i [])):Nat)
theorem getD_mem {ss:List (List Int)} {i:Nat} (h:i<ss.length):ss.getD i []∈ss:=by
 rw [List.getD_eq_getElem?_getD]; simp [h]
def allLt (n:Nat) (p:Array Nat):Prop:=∀ x∈p,x<n
section
open PySem.W PyProof.Rows
variable {n:Nat} (h0:0<n)
include h0
end
section
open PySem.W PyProof.Rows
variable {prog:Program} {w:World} {A:Around} {E:Value->Shared->Prop} {s:Shared}
end
section
open PySem.W PyProof.Rows
variable {prog:Program} {w:World} {A:Around} {E:Value->Shared->Prop} {s:Shared}
end
section
variable {X:Cx} {K:Frag}
end
section
variable {K:Frag}
end
end TP
namespace TP
open PySem L2
set_option maxHeartbeats 2000000
theorem tup_add0 (l b:Addr) (its2:Array Value) (m m2:Nat) (dd dd2:Option Addr) (sl sl2:Array (Option Value)) :
  Meets (Builtin.«tuple.__add__» ⟨[.ref l,.ref b],[]⟩) (fun _ R s=>s.heap.get? l=some { cls:=.type "tuple",dict:=dd,data:=.seq #[] m,slots:=sl }/\s.heap.get? b=some { cls:=.type "tuple",dict:=dd2,data:=.seq its2 m2,slots:=sl2 }/\R (.ok (.ret (.ref b))) s):=
 .of_wp fun prog w A R s hyp=>by
  obtain ⟨hp,g,d,tk,os⟩:=s; obtain ⟨hl,hb,hyp⟩:=hyp; have g1:=AutoSeq1.sub_tuple_tuple
  wp_walk using AutoSeq1.wpAny_loadPart' hl,AutoSeq1.wpAny_loadPart' hb
  exact ⟨_,rfl,hyp⟩
section
variable {X:Cx} {K:Frag}
def rCat3 (K:Frag):R2:=fun x y H Q=>rCatT K x y H Q\/∃ a b ys,x=.ref a/\y=.ref b/\SqT K H a []/\SqT K H b ys/\Q (.ref b) H
theorem op_cat3 (hK:X.K=K:=by rfl):OpR X (binaryOp .Add) (rCat3 K):=by
 subst hK
 intro pins s σ H x y v u Q I rx ry h
 rcases h with h | ⟨a,b,ys,rfl,rfl,ha,hb,q⟩
 ·exact op_catT pins s σ H x y v u Q I rx ry h
 ·cases rx
  cases ry
  obtain ⟨its,r1,⟨⟨c1,d1,t1,sl1⟩,o1,hc1,n1,hd1⟩,_⟩:=I.tuple ha
  obtain ⟨its2,r2,⟨⟨c2,d2,t2,sl2⟩,o2,hc2,n2,hd2⟩,_⟩:=I.tuple hb
  cases r1
  simp only at hc1 hd1 hc2 hd2
  subst hc1 hd1 hc2 hd2
  exact concat_meets ⟨_,o1,rfl⟩ ⟨_,o2,rfl⟩ noFill_tuple_add seq_tuple_add PySem.F.slot_tuple_add PySem.F.entry_tuple_add (PySem.F.args_tuple_add_2 _ _) (tup_add0 a b its2.toArray n1 n2 d1 d2 sl1 sl2) ⟨o1,o2,.ref b,H,I,rfl,q⟩
end
def fCatT:W->W->R W
 | .tup us,.tup vs=>if us.length+vs.length<=1000/\noLs us=true/\noLs vs=true then .ok (.tup (us++vs)) else .stuck
 | _,_=>.stuck
section
variable {K:Frag}
theorem o2_catT:Op2 K .B .F (rCat3 K) fCatT:=by
 intro EX H0 Hs G H ρ σ Ha Hb x y u v Q I s mx my o
 cases u <;> first | exact o.elim | skip
 all_goals (cases v <;> first | exact o.elim | skip)
 rename_i us vs
 replace o:Out EX G H (mdW K .F H0 Hs) (if us.length+vs.length<=1000/\noLs us=true/\noLs vs=true then .ok (.tup (us++vs)) else .stuck) Q:=o
 by_cases hn:us.length+vs.length<=1000/\noLs us=true/\noLs vs=true
 ·rw [if_pos hn] at o
  obtain ⟨hz,n1,n2⟩:=hn
  rcases mx with mx | ⟨_,_,_,_,e2,_⟩
  ·rcases my with my | ⟨_,_,_,_,e2,_⟩
   ·have cx:=Rep.clean I mx (by simpa [noL] using n1)
    have cy:=Rep.clean I my (by simpa [noL] using n2)
    cases cx with
    | tup ha ra=>
     cases cy with
     | tup hb rb=>
      have l1:=ra.length
      have l2:=rb.length
      by_cases he:us = []
      ·subst he
       cases ra
       exact .inr ⟨_,_,_,rfl,rfl,SqT.of (I.gh _ _ ha),SqT.of (I.gh _ _ hb),o _ G H (Ext.refl I.gh) (.tup hb rb)⟩
      ·refine .inl ⟨_,_,_,_,rfl,rfl,SqT.of (I.gh _ _ ha),SqT.of (I.gh _ _ hb),fun z=>?_,by rw [l1,l2]; exact le_line hz,fun z=>?_,fun _ p hp=>?_⟩
       ·subst z; cases ra; exact he rfl
       ·subst z
        cases rb
        rw [List.append_nil] at o
        exact o _ G H (Ext.refl I.gh) (.tup ha ra)
       ·exact Out.newTF I (ra.append rb) hp o
   ·cases e2
  ·cases e2
 ·rw [if_neg hn] at o; exact o.elim
end
end TP
namespace L2
open PySem PySem.Spec PyProof.Rows
section
variable {X:Cx} {pins:List (Addr×Obj)} {σ:St} {H:Hp} {s:Shared} {A:Around} {E:Value->Shared->Prop} {Q:Value->Shared->Prop} {b:Bool}
end
end L2
namespace TP
open PySem L2
section
variable {K:Frag} {d:Mode}
end
end TP
namespace HT
open PySem PyProof.Rows
section
variable {prog:Program} {w:World} {A:Around} {E:Value->Shared->Prop} {s:Shared}
theorem getItem_tuple_all {t sl:Addr} {items:Array Value} {vl vu:Value} {lo hi:Option Int} {Q:Value->Shared->Prop} (ht:IsTup s.heap t items) (hs:s.heap.IsSliceOf sl vl vu .none) (pl:IsPart vl lo) (pu:IsPart vu hi)
  (hw:sIx items.size 0 lo=0/\sIx items.size items.size hi=items.size)
  (h:Q (.ref t) s)
  (hsz:items.size<=sizeLine):wpAny (model prog w) A (getItem (.ref t) (.ref sl)) Q E s:=by
 have hj:sIx items.size items.size hi<=items.size:=sIx_le _ _ (Nat.le_refl _) hi
 obtain ⟨os,hos,hcs,hds⟩:=id hs
 have hTs:s.TypeIs (.ref sl) "slice" := ⟨os,hos,hcs⟩
 unfold getItem
 try with_reducible refine wpAny_holding ?_
 first | refine wpAny_bind (wpAny_pure ?_) | skip
 refine wpAny_bind (wpAny_sequenceKey ht.typeIs (by decide) ?_)
 refine wpAny_bind (wpAny_callSpecial?_slot (name:=Str.ofString "__getitem__") ht.typeIs PyProof.Rows.slot_tuple_getitem
  (wpAny_call_entry PyProof.Rows.slot_tuple_getitem ht.typeIs entry_tuple_getitem ?_ (args_tuple_getitem _ _)))
 show wpAny _ _ (Builtin.Tuple.tupleItemsOf (.ref t)>>=_) _ _ s
 refine wpAny_bind (tupleItemsOf_ ht ?_)
 refine wpAny_bind (wpAny_typeOf hTs ?_)
 rw [if_pos (by decide)]
 refine wpAny_bind (sliceApplied_gen hs pl pu ?_)
 have hyes:(((sIx items.size 0 lo:Nat):Int) == 0&&(1:Int) == 1&&(sIx items.size items.size hi-sIx items.size 0 lo) == items.size)=true:=by
  rw [hw.1,hw.2]; simp
 show wpAny _ _ (if (((sIx items.size 0 lo:Nat):Int) == 0&&(1:Int) == 1&&(sIx items.size items.size hi-sIx items.size 0 lo) == items.size)=true then _ else _) _ _ s
 rw [if_pos hyes]
 unfold Builtin.Tuple.tupleIsExact
 wp_walk using wpAny_typeOf ht.typeIs
 exact ⟨_,rfl,wpAny_pure h⟩
end
end HT
namespace TP
open PySem L2
section
variable {X:Cx}
def rSlA (K:Frag):V->Option Int->Option Int->Hp->VK->Prop:=fun x lo hi H Q=>∃ a xs,x=.ref a/\SqT K H a xs/\(HT.sIx xs.length 0 lo=0/\HT.sIx xs.length xs.length hi=xs.length)/\Q (.ref a) H
theorem sl_tupA:L2.SlR X (rSlA X.K):=by
 intro pins s σ H x v vl vu lo hi sl Q I rx hs pl pu h
 obtain ⟨a,xs,rfl,hx,hw,q⟩:=h
 cases rx
 obtain ⟨its,r,ht,hz⟩:=I.tuple hx
 have hlen:its.toArray.size=xs.length:=by rw [List.size_toArray]; exact r.length.symm
 refine ⟨"tuple",_,PyProof.Rows.slot_tuple_getitem.lookup,ht.typeIs,?_⟩
 exact HT.getItem_tuple_all ht hs pl pu (by rw [hlen]; exact hw) ⟨.ref a,H,I,rfl,q⟩ (by rw [hlen]; exact hz)
def rSlB (K:Frag):V->Option Int->Option Int->Hp->VK->Prop:=fun x lo hi H Q=>rSlT K x lo hi H Q\/rSlA K x lo hi H Q
theorem sl_tupB:L2.SlR X (rSlB X.K):=L2.SlR.or sl_tup sl_tupA
end
def Rst (x:R W) (l u:R (Option Int)):R W:=x>>=fun x=>l>>=fun l=>u>>=fun u=>(match x with
 | .tup ws=>if noLs ws=true then .ok (.tup (cutW ws l u)) else .stuck
 | _=>.stuck)
def vSlT (m:Rho->R W) (ml mh:Rho->R (Option Int)):Rho->R W:=fun ρ=>Rst (m ρ) (ml ρ) (mh ρ)
theorem cutW_all {ws:List W} {lo hi:Option Int} (h:HT.sIx ws.length 0 lo=0/\HT.sIx ws.length ws.length hi=ws.length):cutW ws lo hi=ws:=by
 unfold cutW
 rw [h.1,h.2,List.drop_zero,Nat.sub_zero,List.take_length]
section
variable {K:Frag} {EX:EXT} {H0 G H:Hp} {ρ:Rho} {σ:St} {Q:VK}
theorem c_slT {m:Rho->R W} {ml mh:Rho->R (Option Int)} (h:tM K EX .F (vSlT m ml mh) σ H Q):tSl (rSlB K) (tM K EX .B m) (tOp_ K EX ml) (tOp_ K EX mh) σ H Q:=by
 obtain ⟨H0,G,ρ,I,o⟩:=h
 unfold vSlT Rst at o
 refine ⟨H0,G,ρ,I,Out.bind o fun x G1 H1 w e1 m1 o1=>⟨H0,G1,ρ,I.ext e1,Out.bind o1 fun l' G2 H2 l e2 m2 o2=>⟨H0,G2,ρ,(I.ext e1).ext e2,Out.bind o2 fun u' G3 H3 u e3 m3 o3=>?_⟩⟩⟩
 subst m2; subst m3
 have I3:=((I.ext e1).ext e2).ext e3
 cases w <;> first | exact o3.elim | skip
 rename_i ws
 dsimp only at o3
 by_cases hn:noLs ws=true
 ·rw [if_pos hn] at o3
  have mx:=(m1.move e2).move e3
  rcases mx with mx | ⟨_,_,_,_,z,_⟩
  ·have cx:=Rep.clean I3 mx (by simpa [noL] using hn)
   cases cx with
   | tup ha ra=>
    rename_i a vs
    have l1:=ra.length
    by_cases hw:HT.sIx vs.length 0 l'=0/\HT.sIx vs.length vs.length u'=vs.length
    ·refine .inr ⟨a,vs,rfl,SqT.of (I3.gh _ _ ha),hw,?_⟩
     rw [cutW_all (by rw [<- l1]; exact hw)] at o3
     exact o3 _ G3 H3 (Ext.refl I3.gh) (.tup ha ra)
    ·exact .inl ⟨a,vs,rfl,SqT.of (I3.gh _ _ ha),hw,fun p hp=>Out.newTF I3 (ra.cut l' u') hp o3⟩
  ·cases z
 ·rw [if_neg hn] at o3; exact o3.elim
end
section
variable {X:Cx} {K:Frag} {EX:EXT} {e:Expr} {pos:Pos} {ma:Rho->R W}
theorem q_slT {lo hi:Option Expr} {p2:Pos} {ml mh:Rho->R (Option Int)} (he:PE X e (tM K EX .B ma)) (hl:PO X lo (tOp_ K EX ml)) (hu:PO X hi (tOp_ K EX mh)) (hK:X.K=K:=by rfl):PE X (.Subscript e (.Slice lo hi none p2) pos) (tM K EX .F (vSlT ma ml mh)):=by
 subst hK; exact (pe_slice sl_tupB he hl hu).mono fun _ _ _ q=>c_slT q
end
theorem vSlT_ap (m:Rho->R W) (ml mh:Rho->R (Option Int)) (ρ:Rho):vSlT m ml mh ρ=Rst (m ρ) (ml ρ) (mh ρ):=rfl
theorem Rst_ok {ws:List W} (h:noLs ws=true) (l u:Option Int):Rst (.ok (.tup ws)) (.ok l) (.ok u)=.ok (.tup (cutW ws l u)):=by
 show (if noLs ws=true then _ else _)=_
 rw [if_pos h]
end TP
namespace TP
open PySem L2
def keyW:W->Option (List Int)
 | .tup ws=>intsW ws
 | _=>none
theorem keyW_t (ns:List Int):keyW (.tup (ns.map W.int))=some ns:=ints_map ns
section
variable {K:Frag} {EX:EXT} {H0 G H G1 H1 F:Hp} {ρ:Rho} {σ:St} {d:Mode} {D:Ends}
def addK (ks:List (List Int)) (k:List Int):List (List Int):=if k∈ks then ks else ks ++ [k]
def isDic:Sl->Bool
 | .dic _=>true
 | _=>false
def noDic (ρ:Rho):Bool:=ρ.all fun s=>!isDic s
def putD (ks:List (List Int)) (i:Nat) (w:W) (ρ:Rho):R Fl:=match keyW w with
 | some k=>if noDic (ρ.set i .un)=true/\ks.length<1000 then .ok (.nx (ρ.set i (.dic (addK ks k)))) else .stuck
 | none=>.stuck
def dputS (o:Option Sl) (re rk:R W) (i:Nat) (ρ:Rho):R Fl:=match o with
 | some (.dic ks)=>re>>=fun _=>rk>>=fun w=>putD ks i w ρ
 | _=>.stuck
end
section
variable {X:Cx} {K:Frag} {EX:EXT} {d:Mode} {e k v:Expr} {pos:Pos} {mk me:Rho->R W}
end
end TP
namespace TP
open PySem L2
set_option maxHeartbeats 2000000
section
variable {X:Cx} {K:Frag}
end
section
variable {K:Frag}
end
theorem dputS_ok (ks:List (List Int)) (w:W) (k:List Int) (i:Nat) (ρ:Rho) (h:noDic (ρ.set i .un)=true) (hl:ks.length<1000):dputS (some (.dic ks)) (.ok w) (.ok (.tup (k.map W.int))) i ρ=.ok (.nx (ρ.set i (.dic (addK ks k)))):=by
 show putD ks i (.tup (k.map W.int)) ρ=_
 unfold putD
 rw [keyW_t]
 exact if_pos ⟨h,hl⟩
end TP
namespace TP
open PySem L2
section
variable {X:Cx} {K:Frag} {EX:EXT} {d:Mode} {p:Pos} {es:List Expr} {mr:Rho->R (List W)}
theorem q_aint {i j} (hr:PA X es (tA K EX d mr)):PA X (.Constant (.int i) j p::es) (tA K EX d (aC (mC (.int i)) mr)):=q_acons q_int hr (by rfl)
end
end TP
namespace TB
open PySem PySem.W
theorem bits_of {ns:List Int} (h:WData.layableAll [WData.list (ns.map WData.int)]=true):∀ x∈ns,Builtin.Int.intBits x<=1048576:=fun x hx=>by
 have h1:(WData.list (ns.map WData.int)).layable=true:=by simpa [WData.layableAll] using h
 have h2:(WData.list (ns.map WData.int)).weight<=2^20:=(layableW_iff.mp h1).2.2
 have key:∀ ms:List Int,x∈ms->Builtin.Int.intBits x<=WData.weightAll (ms.map WData.int):=by
  intro ms
  induction ms with
  | nil=>intro z; cases z
  | cons m ms ih=>
   intro z
   rw [List.map_cons]
   show _<=WData.weight (.int m)+1+WData.weightAll (ms.map WData.int)
   rcases List.mem_cons.mp z with e | e
   ·subst e
    have:WData.weight (.int x)=Builtin.Int.intBits x:=by rfl
    omega
   ·have:=ih e
    omega
 exact Nat.le_trans (key ns hx) (by simpa [WData.weight] using h2)
end TB
namespace Att
open PySem PySem.W PySem.Calls PyProof.Rows
theorem attach_callB {l:OpenLaw} {n:Nat} {q:Program} {loose:List Str} {XP:(Str->Option Value)->Heap->Prop} {YP:World->Heap->Prop} {d:DefRec}
  (hn:l.most=some n) (hdf:d.params.defaults = [])
  (call:∀ (w:World) (s₀ s₁:Shared) (mg mb:Str->Option Value) (fa:Addr) (o:Obj) (pm cd doc:Value) (a:Addr) (vs:List Value) (ns:List Int),
   Ground q loose [] XP w s₀ mg mb s₁.heap->YP w s₁.heap ->
   s₁.heap.get? fa=some o->o.data=.func (docDef d.name d.params d.body d.scope pm cd doc)->s₁.heap.CodeRec cd d.name->mg d.name=some (.ref fa) ->
   s₁.heap.get? a=some { cls:=.type "list",data:=.seq vs.toArray }->IntsAre vs ns->ns.length<=n->(∀ x∈ns,Builtin.Int.intBits x<=1048576)->s₁.gens=#[] ->
   codeAny (model l.prog w) callerA (.call (.ref fa) ⟨[.ref a],[]⟩) (fun r s'=>r=.ok (.ret (.bool true))/\OldK s₁.heap s'.heap/\s'.os=s₁.os/\AllBare s'.gens) s₁) :
  WalkO q loose XP YP l.row.toRowW d [] (fun f vs=>PySem.call f vs):=by
 intro w s₀ s₁ mg mb G Y fa o pm cd doc dV kV ho hd hcd hD hmg hg args vals as hpre hlay hrd hwl hlo
 obtain rfl:dV=.none:=Dflts.none hD hdf
 obtain rfl:kV=.none:=Dflts.noKw hD
 obtain ⟨a,vs,ns,rfl,rfl,hobj,hints,hlen⟩:=script_of hn hpre hwl
 refine enter_call (codeAny_mono (call w s₀ s₁ mg mb fa o pm cd doc a vs ns G Y ho (fd_plain hd) hcd hmg hobj hints hlen (TB.bits_of hlay) hg) fun r s' hq=>?_)
 obtain ⟨rfl,h2,h3,h4⟩:=hq
 exact ⟨.inl ⟨.bool true,.bool true,[],rfl,fun _=>rfl,.bool true,post_true l _,fun _=>⟨List.Pairwise.nil,fun _ hm=>(nomatch hm)⟩⟩,h2,h3,h4⟩
end Att
namespace L2
open PySem PySem.Spec PyProof.Rows
theorem walk_ofB {l:PySem.W.OpenLaw} {n k:Nat} {q:Program} {loose:List Str} {XP:(Str->Option Value)->Heap->Prop} {YP:World->Heap->Prop} {d:DefRec} {K:Params->Frag} {CX:World->CXT} {sp:World->Sp} {x:Str}
  (hn:l.most=some n) (hn2:n<=sizeLine) (hdf:d.params.defaults = []) (hr:Room k callerA)
  (hY:∀ (w:World) (h:Heap),YP w h->(K w.params).In h)
  (F:∀ (w:World) (mg:Str->Option Value) (fa:Addr) (h:Heap),(K w.params).In h->h.Ns mainGlobals mg->mg d.name=some (.ref fa) ->
   ∃ fd:FuncData,(∀ (s:Shared) (u:Value),BindsTo s fd ⟨[u],[]⟩ [(x,u)]) /\
    ∀ base:Heap,(K w.params).In base->base.Ns mainGlobals mg->FnOk l.prog w (K w.params) mg base (CX w) k fa fd [x] (sp w))
  (hsp:∀ (w:World) (H:Hp) (a:Addr) (ns:List Int),ns.length<=n->(∀ x∈ns,Builtin.Int.intBits x<=1048576)->Only H->SqL (K w.params) H a (ns.map V.int)->sp w [.ref a] H (fun v _=>v=.bl true) fun _ _ _=>False)
  (hCX:∀ (w:World) (H:Hp) (s:Shared) (e:Value) (s':Shared),CX w [] H s (fun _ _ _=>False) e s'->False) :
  PySem.W.WalkO q loose XP YP l.row.toRowW d [] (fun f vs=>PySem.call f vs):=by
 refine Att.attach_callB hn hdf fun w s₀ s₁ mg mb fa o pm cd doc a vs ns G Y ho hd hcd hmg hobj hints hlen hbi hg=>?_
 have KX:=hY w _ Y
 obtain ⟨fd,hb,hF⟩:=F w mg fa _ KX G.T.g hmg
 exact law_call KX G.T.g G.T.b G.T.builtins G.T.nolimit hg hobj hints (Nat.le_trans hlen hn2) hr hF hb (fun H hO hS=>hsp w H a ns hlen hbi hO hS) fun H e s'=>hCX w H s₁ e s'
theorem walk_ofKB {l:PySem.W.OpenLaw} {n k:Nat} {q:Program} {loose:List Str} {XP:(Str->Option Value)->Heap->Prop} {YP:World->Heap->Prop} {d:DefRec} {K:Params->Frag} {CX:CXT} {sp:Frag->Sp} {x:Str}
  (hn:l.most=some n) (hn2:n<=sizeLine) (hdf:d.params.defaults = []) (hr:Room k callerA)
  (hY:∀ (w:World) (h:Heap),YP w h->(K w.params).In h)
  (F:∀ (w:World) (mg:Str->Option Value) (fa:Addr) (h:Heap),(K w.params).In h->h.Ns mainGlobals mg->mg d.name=some (.ref fa) ->
   ∃ fd:FuncData,(∀ (s:Shared) (u:Value),BindsTo s fd ⟨[u],[]⟩ [(x,u)]) /\
    ∀ base:Heap,(K w.params).In base->base.Ns mainGlobals mg->FnOk l.prog w (K w.params) mg base CX k fa fd [x] (sp (K w.params)))
  (hsp:∀ (K:Frag) (H:Hp) (a:Addr) (ns:List Int),ns.length<=n->(∀ x∈ns,Builtin.Int.intBits x<=1048576)->Only H->SqL K H a (ns.map V.int)->sp K [.ref a] H (fun v _=>v=.bl true) fun _ _ _=>False)
  (hCX:∀ (H:Hp) (s:Shared) (e:Value) (s':Shared),CX [] H s (fun _ _ _=>False) e s'->False) :
  PySem.W.WalkO q loose XP YP l.row.toRowW d [] (fun f vs=>PySem.call f vs):=
 walk_ofB (K:=K) (CX:=fun _=>CX) (sp:=fun w=>sp (K w.params)) hn hn2 hdf hr hY F (fun w H a ns h1 hb h2 h3=>hsp (K w.params) H a ns h1 hb h2 h3) fun _ H s e s'=>hCX H s e s'
end L2
namespace TP
open PySem L2
def CMulB (i j:Int):Prop:=CMul i j\/Builtin.Int.intBits i+Builtin.Int.intBits j<=134217728
instance (i j:Int):Decidable (CMulB i j):=by unfold CMulB; infer_instance
theorem CMulB.ok {i j:Int} (h:CMulB i j):IntMulOk i j:=by
 rcases h with h | h
 ·exact h.ok
 ·exact IntMulOk.of_le (Nat.le_refl _) (Nat.le_refl _) h
section
variable {X:Cx}
theorem op_mulB:OpR X (binaryOp .Mult) (rI CMulB fun i j=>.int (i*j)):=opI fun _ _ _ _ _ _ _ hc q=>PyProof.Rows.mul_int q hc.ok
end
theorem mulB_L {i j:Int} (h:-18446744073709551616<i/\i<18446744073709551616):fI CMulB gMul (.int i) (.int j)=.ok (.int (i*j)):=by
 show (if CMulB i j then _ else _)=_
 exact if_pos (.inl (.inl h))
theorem mulB_R {i j:Int} (h:-18446744073709551616<j/\j<18446744073709551616):fI CMulB gMul (.int i) (.int j)=.ok (.int (i*j)):=by
 show (if CMulB i j then _ else _)=_
 exact if_pos (.inl (.inr h))
theorem mulB_b {i j:Int} (h:Builtin.Int.intBits i+Builtin.Int.intBits j<=134217728):fI CMulB gMul (.int i) (.int j)=.ok (.int (i*j)):=by
 show (if CMulB i j then _ else _)=_
 exact if_pos (.inr h)
theorem law_ofB {P:Program} {w:World} {K:Frag} {mg:Str->Option Value} {base:Heap} {k:Nat} {f:Addr} {fd:FuncData} {ps:List Str} {d:Mode} {F:List W->R W} (G:FnOk P w K mg base CX0 k f fd ps (spM K 1 d F))
  (h:∀ ns:List Int,ns.length<=63->(∀ x∈ns,Builtin.Int.intBits x<=1048576)->F [.scr (ns.map W.int)]=.ok (.bl true)):FnOk P w K mg base CX0 k f fd ps (fun vs H Q _=>∃ (a:Addr) (ns:List Int),vs = [.ref a]/\SqL K H a (ns.map V.int)/\ns.length<=63/\(∀ x∈ns,Builtin.Int.intBits x<=1048576)/\∀ H',Q (.bl true) H'):=
 G.imp fun vs H Q E zz80=>by
  obtain ⟨a,ns,e,hs,hl,hb,q⟩:=zz80
  subst e
  refine ⟨rfl,[.scr (ns.map W.int)],.cons (.scr hs ?_) .nil,?_⟩
  ·clear hs hl hb
   induction ns with
   | nil=>exact .nil
   | cons n ns ih=>exact .cons .int ih
  ·rw [h ns hl hb]
   intro v G' H' _ _ _ m
   have e:v=.bl true:=by
    cases d <;> first | (cases m; rfl) | (rcases m with m | ⟨_,_,_,_,z,_⟩ <;> first | (cases m; rfl) | cases z)
   subst e
   exact q H'
end TP
namespace TL
open PySem
section
variable {prog:Program} {w:World} {A:Around} {E:Value->Shared->Prop} {s:Shared}
def kOf (v:Value):Sem (List Value):=match v with
 | .ref a=>do
  match (<- load a).data with
  | .seq xs _=>pure xs.toList
  | _=>unsupported "internal:collect"
 | _=>unsupported "internal:collect"
end
end TL
namespace TP
open PySem L2
section
variable {X:Cx}
end
section
variable {K:Frag} {EX:EXT} {σ:St} {H:Hp} {Q:VK}
end
section
variable {X:Cx} {K:Frag} {EX:EXT} {a:Expr} {pos:Pos} {mr:Rho->R (List W)}
end
end TP
namespace TP
open PySem L2
section
variable {X:Cx}
end
section
variable {K:Frag} {EX:EXT} {d:Mode} {σ:St} {H:Hp} {Q:VK}
end
section
variable {X:Cx} {K:Frag} {EX:EXT} {d:Mode} {o e:Expr} {apos cpos:Pos} {mo me:Rho->R W}
end
end TP
namespace TP
open PySem L2
def OutW (K:Frag) (EX:EXT) (d:Mode) (H0:Hp) (r:R Fl) (D:Ends):Prop:=match r with
 | .ok (.nx ρ)=>∀ G' σ' H',PIv K H0 G' ρ σ' H'->D.nx σ' H'
 | .ok (.bk ρ)=>∀ G' σ' H',PIv K H0 G' ρ σ' H'->D.bk σ' H'
 | .ok (.ct ρ)=>∀ G' σ' H',PIv K H0 G' ρ σ' H'->D.ct σ' H'
 | .ok (.rt w)=>∀ v G' H',Same G' H'->Same H0 H'->(∀ a o,H0 a=some o->isL o=true->G' a=none)->Md K H0 H0 G' H' v w d->D.rt v H'
 | .ex e=>∀ H',Same H0 H'->EX e H'
 | .stuck=>False
def tStW (K:Frag) (EX:EXT) (d:Mode) (m:Rho->R Fl):TS:=fun D σ H=>∃ H0 G ρ,PIv K H0 G ρ σ H/\OutW K EX d H0 (m ρ) D
section
variable {K:Frag} {EX:EXT} {H0 G H G1 H1 G2 H2:Hp} {ρ:Rho} {σ:St} {d:Mode} {D:Ends}
def clS:Sl->Sl
 | .un=>.un
 | .val w=>if noL w=true then .val w else .un
 | .par w=>if noL w=true then .val w else .un
 | .own ws=>if noLs ws=true then .own ws else .un
 | .dic ks=>.dic ks
 | .dik ks=>.dik ks
 | .iop p ws=>if noLs ws=true then .iop p ws else .un
 | .hz _=>.un
 | .dos kw=>if noLs kw.2=true then .dos kw else .un
def subS (i j:Nat) (us ws':List W) (ρ:Rho):Rho:=(ρ.map clS).set i (.val (.tup (us.set j (.lst ws'))))
end
section
variable {X:Cx} {K:Frag} {EX:EXT} {d:Mode} {e:Expr} {pos:Pos} {ma:Rho->R W} {m n:Rho->R Fl} {ta:Rho->R Bool} {st:Stmt} {sts:List Stmt}
end
end TP
namespace TP
open PySem L2
set_option maxHeartbeats 2000000
section
variable {X:Cx} {K:Frag}
end
section
variable {K:Frag}
end
end TP
namespace TP
open PySem L2
def Hx (p:Addr) (H0 H1:Hp):Prop:=(∀ a,a≠p->H1 a=H0 a)/\∃ vs,H1 p=some (.lst vs)
def OutIo (K:Frag) (EX:EXT) (p:Addr) (H0:Hp) (r:R Fl) (D:Ends):Prop:=match r with
 | .ok (.nx ρ)=>∀ H0' G' σ' H',Hx p H0 H0'->PIv K H0' G' ρ σ' H'->D.nx σ' H'
 | .ok (.bk ρ)=>∀ H0' G' σ' H',Hx p H0 H0'->PIv K H0' G' ρ σ' H'->D.rt .non H'
 | .ex e=>∀ H',EX e H'
 | _=>False
def tStI (K:Frag) (EX:EXT) (p:Addr) (m:Rho->R Fl):TS:=fun D σ H=>∃ H0 G ρ,PIv K H0 G ρ σ H/\(∃ vs,H0 p=some (.lst vs))/\OutIo K EX p H0 (m ρ) D
def nbR:R Fl->R Fl
 | .ok (.nx ρ)=>.ok (.nx ρ)
 | .ex e=>.ex e
 | _=>.stuck
def nb (m:Rho->R Fl):Rho->R Fl:=fun ρ=>nbR (m ρ)
section
variable {K:Frag} {EX:EXT} {H0 H0' G H G1 H1 G2 H2:Hp} {ρ:Rho} {σ:St} {d:Mode} {D:Ends} {p:Addr}
def clI:Sl->Sl
 | .un=>.un
 | .val w=>.val w
 | .par w=>if noL w=true then .val w else .un
 | .own ws=>.own ws
 | .dic ks=>.dic ks
 | .dik ks=>.dik ks
 | .iop _ _=>.un
 | .hz _=>.un
 | .dos kw=>.dos kw
def ioR (p:Addr) (ρ:Rho):R (List W):=match (ρ[1]?:Option Sl) with
 | some (.iop q cs)=>if q=p then .ok cs else .stuck
 | _=>.stuck
def runIO (n N:Nat) (m:Addr->Rho->R Fl) (p:Addr) (w1:W) (cs wr:List W):R (List W):=if wr.length+2=n/\noLs cs=true then (match m p (.par w1::.iop p cs::(wr.map Sl.par++List.replicate (N-n) Sl.un)) with
 | .ok (.nx ρ)=>ioR p ρ
 | .ok (.bk ρ)=>ioR p ρ
 | _=>.stuck) else .stuck
open Classical in
def runIOA (n N:Nat) (m:Addr->Rho->R Fl) (w1:W) (cs wr:List W):R (List W):=if h:∃ cs',∀ p,runIO n N m p w1 cs wr=.ok cs' then .ok (Classical.choose h) else .stuck
end
section
variable {X:Cx} {K:Frag} {EX:EXT} {d:Mode} {e:Expr} {es:List Expr} {pos:Pos} {ma:Rho->R W} {m n:Rho->R Fl} {ta:Rho->R Bool} {st:Stmt} {sts:List Stmt} {p:Addr} {mr:Rho->R (List W)}
end
end TP
namespace TP
open PySem L2
section
variable {K:Frag} {EX:EXT} {H0 G H:Hp} {ρ:Rho} {σ:St}
end
section
variable {X:Cx} {K:Frag} {e:Expr} {es:List Expr} {pos:Pos} {mr:Rho->R (List W)}
end
end TP
namespace TP
open PySem L2
section
variable {X:Cx}
end
section
variable {K:Frag} {EX:EXT} {H0 G H:Hp} {ρ:Rho} {σ:St} {d:Mode} {D:Ends}
end
section
variable {X:Cx} {K:Frag} {EX:EXT} {d:Mode} {e:Expr} {pos:Pos} {ma:Rho->R W}
end
end TP
namespace TP
open PySem L2
section
open PySem.W PyProof.Rows
variable {prog:Program} {w:World} {A:Around} {E:Value->Shared->Prop} {s:Shared}
theorem items_int:∀ {xs:List Int} {its:List Value},Vals (xs.map V.int) its->ItemsAre (intKind prog w) xs its:=by
 intro xs
 induction xs with
 | nil=>intro its h; cases h; exact .nil
 | cons x xs ih=>
  intro its h
  cases h with
  | cons r t=>
   obtain ⟨tk,rfl⟩:=r
   exact .cons (by simp [intKind,Value.isInt]) (ih t)
end
end TP
namespace TP
open PySem L2
section
variable {X:Cx} {pins:List (Addr×Obj)} {σ:L2.St} {H:Hp} {s:Shared}
end
section
open PySem.W PyProof.Rows
variable {Y:Cx} {K:Frag} {pn:List (Addr×Obj)} {σ:L2.St}
end
end TP
namespace TP
open PySem L2
section
open PySem.W PyProof.Rows
variable {Y:Cx} {K:Frag} {pins:List (Addr×Obj)} {σ:L2.St}
end
section
open PySem.W PyProof.Rows
variable {X:Cx} {K:Frag}
end
section
variable {K:Frag}
end
section
variable {X:Cx} {K:Frag} {EX:EXT} {e:Expr} {pos:Pos} {mr:Rho->R (List W)}
end
end TP
namespace TP
open PySem L2
section
open PySem.W PyProof.Rows
variable {X:Cx} {e:Expr} {te:TE} {st:Expr} {tk:TO} {pos p2:Pos}
end
section
variable {K:Frag} {EX:EXT} {σ:St} {H:Hp} {Q:VK}
end
section
variable {X:Cx} {K:Frag} {EX:EXT} {e:Expr} {pos:Pos} {ma:Rho->R W}
end
end TP
namespace TP
open PySem L2
section
variable {K:Frag} {EX:EXT} {H0 G H:Hp} {ρ:Rho} {σ:St} {d:Mode} {D:Ends}
end
section
variable {X:Cx} {K:Frag} {EX:EXT} {d:Mode} {e:Expr} {pos:Pos} {ma:Rho->R W}
end
end TP
namespace TP
open PySem L2
section
variable {K:Frag} {EX:EXT} {H0 G H G1 H1 F:Hp} {ρ:Rho} {σ:St} {d:Mode} {D:Ends}
end
section
variable {X:Cx} {K:Frag} {EX:EXT} {d:Mode} {e k v:Expr} {pos:Pos} {mk me:Rho->R W}
end
end TP
namespace TP
open PySem PyProof.Rows
def kk (rk:Keyed->Int) (xs:Array Keyed) (i:Nat):Int:=match xs[i]? with
 | some p=>rk p
 | none=>0
theorem sb1 {A n:Nat} (h0:0<n) (h:n<=A):A-(n-1)=A-n+1:=by
 cases n with
 | zero=>exact absurd h0 (Nat.lt_irrefl _)
 | succ m=>exact (Nat.succ_pred_eq_of_pos (Nat.sub_pos_of_lt h)).symm
theorem sb2 {A n k:Nat} (h:n<=A) (hk:k<=n):A-k=A-n+(n-k):=(Nat.sub_add_sub_cancel h hk).symm
theorem sb3 {lo x q k:Nat} (hq:q<=x) (h:lo+x-q<=k):x-q<=k-lo:=by rw [Nat.add_sub_assoc hq] at h; exact Nat.le_sub_of_add_le' h
theorem sb4 {lo x q k:Nat} (hq:q<=x) (h:lo+x-q<=k):lo+(k-lo)=k:=Nat.add_sub_cancel' (Nat.le_trans (by rw [Nat.add_sub_assoc hq]; exact Nat.le_add_right _ _) h)
theorem sb5 {lo j:Nat} (h:0<j):lo+(j-1)=lo+j-1:=(Nat.add_sub_assoc h lo).symm
section
variable {prog:Program} {w:World} {A:Around} {E:Value->Shared->Prop} {s:Shared} {a₀:Array Keyed} {κ:SortKind} {rk:Keyed->Int}
end
def upL (rk:Keyed->Int) (l:List Keyed):Prop:=l.Pairwise fun x y=>rk x<=rk y
structure Mg (rk:Keyed->Int) (t:List Keyed) (out ra rb:List Keyed):Prop where
 perm:(out++(ra++rb)).Perm t
 up:upL rk out
 le:∀ x∈out,∀ y∈ra++rb,rk x<=rk y
def Gd (rk:Keyed->Int) (t res:List Keyed):Prop:=res.Perm t/\upL rk res
section
variable {rk:Keyed->Int} {t out p ra rb:List Keyed}
end
section
variable {prog:Program} {w:World} {A:Around} {E:Value->Shared->Prop} {s:Shared} {a₀:Array Keyed} {κ:SortKind} {rk:Keyed->Int}
end
section
variable {prog:Program} {w:World} {A:Around} {E:Value->Shared->Prop} {s:Shared} {a₀:Array Keyed} {κ:SortKind} {rk:Keyed->Int}
abbrev rn (rk:Keyed->Int) (x:Keyed):Int:=-rk x
abbrev rv (a:Array Keyed):List Keyed:=a.toList.reverse
end
section
variable {prog:Program} {w:World} {A:Around} {E:Value->Shared->Prop} {s:Shared} {a₀:Array Keyed} {κ:SortKind} {rk:Keyed->Int}
end
section
variable {prog:Program} {w:World} {A:Around} {E:Value->Shared->Prop} {s:Shared} {a₀:Array Keyed} {κ:SortKind} {rk:Keyed->Int} {arr:Array Keyed} {pd:Array (Nat×Nat×Nat)} {g lo:Nat}
structure Rl (lo:Nat) (arr arr':Array Keyed):Prop where
 perm:arr'.toList.Perm arr.toList
 same:∀ k,k<lo->arr'[k]?=arr[k]?
end
section
variable {prog:Program} {w:World} {A:Around} {E:Value->Shared->Prop} {s:Shared} {a₀:Array Keyed} {κ:SortKind} {rk:Keyed->Int} {arr:Array Keyed} {pd:Array (Nat×Nat×Nat)} {g lo:Nat}
end
end TP
namespace TP
open PySem L2
section
open PySem.W PyProof.Rows
variable {prog:Program} {w:World} {A:Around} {E:Value->Shared->Prop} {s:Shared}
open Classical in
def rkV (vs:List Value) (ss:List (List Int)) (p:Keyed):Int:=if h:∃ i,i<vs.length/\vs.getD i Value.none=p.1 then rankL ss h.choose else 0
end
section
variable {X:Cx} {K:Frag}
end
section
variable {K:Frag}
end
end TP
namespace TP
open PySem L2
section
variable {K:Frag} {EX:EXT} {H0 G H G1 H1 F:Hp} {ρ:Rho} {σ:St} {d:Mode} {D:Ends}
end
section
variable {X:Cx} {K:Frag} {d:Mode} {e:Expr} {es:List Expr} {pos:Pos} {mr:Rho->R (List W)}
end
end TP
namespace TP
open PySem L2
section
variable {K:Frag} {EX:EXT} {X:Cx} {tg e:Expr} {ma:Rho->R W}
end
end TP
namespace TP
open PySem L2
def NoLst (H:Hp):Prop:=∀ a vs,H a≠some (.lst vs)
def OutN (K:Frag) (d:Mode) (Hb:Hp) (r:R Fl) (D:Ends):Prop:=match r with
 | .ok (.nx ρ)=>∀ H0 G' σ' H',Same Hb H0->PIv K H0 G' ρ σ' H'->D.nx σ' H'
 | .ok (.rt w)=>∀ v G' H',Same G' H'->Same Hb H'->(∀ a o,Hb a=some o->isL o=true->G' a=none)->Md K Hb Hb G' H' v w d->D.rt v H'
 | _=>False
def tStN (K:Frag) (EX:EXT) (d:Mode) (m:Rho->R Fl):TS:=fun D σ H=>∃ Hb H0 G ρ,NoLst Hb/\Same Hb H0/\PIv K H0 G ρ σ H/\OutN K d Hb (m ρ) D
section
variable {K:Frag} {EX:EXT} {Hb H0 G H G1 H1 G2 H2:Hp} {ρ:Rho} {σ:St} {d:Mode} {D:Ends}
theorem PIv.put {i:Nat} {s:Sl} {o:Option V} (I:PIv K H0 G ρ σ H) (r:SlR K H0 G H s o) (no:∀ ws,s≠.own ws) (no':∀ kw,s≠.dos kw:=by intro _ e; cases e):PIv K H0 G (ρ.set i s) (σ.set i o) H where
 g0:=I.g0
 gl:=I.gl
 gh:=I.gh
 hh:=I.hh
 len:=by rw [List.length_set,List.length_set]; exact I.len
 sl k x u h1 h2:=by
  by_cases e:i=k
  ·subst e
   have hi:i<ρ.length:=by
    have:=(List.getElem?_eq_some_iff.mp h1).1
    rwa [List.length_set] at this
   rw [List.getElem?_set_self hi] at h1
   rw [List.getElem?_set_self (by rw [<- I.len]; exact hi)] at h2
   cases h1; cases h2; exact r
  ·rw [List.getElem?_set_ne e] at h1 h2
   exact I.sl k x u h1 h2
 ne p q ws us a hpq h1 h2 h3 h4:=by
  have key:∀ {k:Nat} {u:List W},(ρ.set i s)[k]?=some (.own u)->i≠k/\ρ[k]?=some (.own u):=fun {k u} hk=>by
   by_cases e:i=k
   ·subst e
    have hi:i<ρ.length:=by
     have:=(List.getElem?_eq_some_iff.mp hk).1
     rwa [List.length_set] at this
    rw [List.getElem?_set_self hi] at hk
    cases hk; exact absurd rfl (no u)
   ·exact ⟨e,by rwa [List.getElem?_set_ne e] at hk⟩
  obtain ⟨n1,k1⟩:=key h1
  obtain ⟨n2,k2⟩:=key h2
  rw [List.getElem?_set_ne n1] at h3
  rw [List.getElem?_set_ne n2] at h4
  exact I.ne p q ws us a hpq k1 k2 h3 h4
 nd p q ws us a hpq h1 h2 h3 h4:=by
  have key:∀ {k:Nat} {u:List Str×List W},(ρ.set i s)[k]?=some (.dos u)->i≠k/\ρ[k]?=some (.dos u):=fun {k u} hk=>by
   by_cases e:i=k
   ·subst e
    have hi:i<ρ.length:=by
     have:=(List.getElem?_eq_some_iff.mp hk).1
     rwa [List.length_set] at this
    rw [List.getElem?_set_self hi] at hk
    cases hk; exact absurd rfl (no' u)
   ·exact ⟨e,by rwa [List.getElem?_set_ne e] at hk⟩
  obtain ⟨n1,k1⟩:=key h1
  obtain ⟨n2,k2⟩:=key h2
  rw [List.getElem?_set_ne n1] at h3
  rw [List.getElem?_set_ne n2] at h4
  exact I.nd p q ws us a hpq k1 k2 h3 h4
end
section
variable {X:Cx} {K:Frag} {EX:EXT} {d:Mode} {e:Expr} {es:List Expr} {pos:Pos} {ma:Rho->R W} {mr:Rho->R (List W)} {m n:Rho->R Fl} {ta:Rho->R Bool} {st:Stmt} {sts:List Stmt}
end
end TP
namespace TP
open PySem L2
open PyProof.Rows (envOfC)
def XE1 (K:Frag) (E:XK):EXT:=fun e H=>∀ (C:Addr) (od:Option Addr),PySem.W.nsIn K mainGlobals e.cls=some (some (.ref C))->XD H od e.at_->E (.ref C) od H
def spR (K:Frag) (n:Nat) (d:Mode) (f:List W->R W):Sp:=fun vs H Q E=>vs.length=n/\∃ ws,Reps K H vs ws/\match f ws with
 | .ok w=>∀ v G' H',Same H H'->Same G' H'->(∀ a o,H a=some o->isL o=true->G' a=none)->Md K H H G' H' v w d->Q v H'
 | .ex e=>∀ H',Same H H'->XE1 K E e H'
 | .stuck=>False
def calm (f:List W->R W):List W->R W:=fun ws=>match f ws with
 | .ok w=>.ok w
 | _=>.stuck
section
variable {K:Frag} {EX:EXT} {H0 G H G1 H1 G2 H2:Hp} {ρ:Rho} {σ:St} {d:Mode} {D:Ends}
theorem call_ext {G' H':Hp} (I1:PIv K H0 G1 ρ σ H1) (sH:Same H1 H') (gH:Same G' H') (cl:∀ a o,H1 a=some o->isL o=true->G' a=none):Same G' (both G1 G')/\Ext G1 H1 (both G1 G') H':=by
 have sB:Same G1 (both G1 G'):=fun b o q=>by unfold both; rw [q]
 have sB':Same G' (both G1 G'):=fun b o q=>by
  unfold both
  cases q1:G1 b with
  | none=>exact q
  | some u=>
   have a1:=sH b u (I1.gh b u q1)
   rw [gH b o q] at a1
   exact a1.symm
 have sHB:Same (both G1 G') H':=fun b o q=>by
  unfold both at q
  cases q1:G1 b with
  | none=>rw [q1] at q; exact gH b o q
  | some u=>rw [q1] at q; cases q; exact sH b _ (I1.gh b _ q1)
 exact ⟨sB',sB,sH,sHB,fun b o q l g=>by unfold both; rw [g]; exact cl b o q l⟩
theorem PIv.setN {i:Nat} {o:Option V} (I:PIv K H0 G ρ σ H):PIv K H0 G (ρ.set i .un) (σ.set i o) H where
 g0:=I.g0
 gl:=I.gl
 gh:=I.gh
 hh:=I.hh
 len:=by rw [List.length_set,List.length_set]; exact I.len
 sl j x o h1 h2:=by
  by_cases hj:i=j
  ·subst hj
   rw [List.getElem?_set] at h1
   simp only [if_true] at h1
   split at h1 <;> simp only [Option.some.injEq,reduceCtorEq] at h1
   subst h1
   trivial
  ·rw [List.getElem?_set_ne hj] at h1 h2; exact I.sl j x o h1 h2
 ne a b ws us c hab h1 h2 h3 h4:=by
  have na:i≠a:=by
   rintro rfl
   rw [List.getElem?_set] at h1
   simp only [if_true] at h1
   split at h1 <;> simp at h1
  have nb:i≠b:=by
   rintro rfl
   rw [List.getElem?_set] at h2
   simp only [if_true] at h2
   split at h2 <;> simp at h2
  rw [List.getElem?_set_ne na] at h1 h3
  rw [List.getElem?_set_ne nb] at h2 h4
  exact I.ne a b ws us c hab h1 h2 h3 h4
 nd a b ws us c hab h1 h2 h3 h4:=by
  have na:i≠a:=by
   rintro rfl
   rw [List.getElem?_set] at h1
   simp only [if_true] at h1
   split at h1 <;> simp at h1
  have nb:i≠b:=by
   rintro rfl
   rw [List.getElem?_set] at h2
   simp only [if_true] at h2
   split at h2 <;> simp at h2
  rw [List.getElem?_set_ne na] at h1 h3
  rw [List.getElem?_set_ne nb] at h2 h4
  exact I.nd a b ws us c hab h1 h2 h3 h4
def flUn (j:Nat):Fl->R Fl
 | .nx ρ=>.ok (.nx (ρ.set j .un))
 | .bk ρ=>.ok (.bk (ρ.set j .un))
 | .ct ρ=>.ok (.ct (ρ.set j .un))
 | .rt w=>.ok (.rt w)
def mExc (c:Str) (j:Nat) (mb:Rho->R Fl) (e:XW) (ρ:Rho):R Fl:=if e.cls=c then mb (ρ.set j (.val (.exc e.cls e.at_)))>>=flUn j else .stuck
end
section
variable {X:Cx} {K:Frag} {EX:EXT} {d:Mode} {e:Expr} {es:List Expr} {pos:Pos} {ma:Rho->R W} {mr:Rho->R (List W)} {mb:Rho->R Fl}
end
section
variable {P:Program} {w:World} {K:Frag} {mg:Str->Option Value} {base:Heap} {N:List Str} {qual:Str} {scope:Scope} {f0:Addr} {cd:Value} {A:Around} {outer:List Env} {s0:Shared} {H0:Hp} {E:XK} {d:Mode} {e:Expr} {es:List Expr} {pos:Pos} {mr:Rho->R (List W)}
end
end TP
namespace TP
open PySem L2
def big8:Int:=2^2000
def CDivL (_ j:Int):Prop:=0<j/\j<big8
instance (i j:Int):Decidable (CDivL i j):=by unfold CDivL; infer_instance
def CDivZ (_ j:Int):Prop:=j≠0/\j.natAbs<2^8999
instance (i j:Int):Decidable (CDivZ i j):=by unfold CDivZ; infer_instance
def cModZ (_ j:Int):Prop:=j≠0
instance (i j:Int):Decidable (cModZ i j):=by unfold cModZ; infer_instance
def gMz (i j:Int):W:=.int (i.fmod j)
theorem op_modZ {X:Cx}:OpR X (binaryOp .Mod) (rI cModZ fun i j=>.int (i.fmod j)):=op_modN
theorem modZ_ii {i j:Int} (h0:j≠0):fI cModZ gMz (.int i) (.int j)=.ok (.int (i.fmod j)):=by
 show (if cModZ i j then _ else _)=_
 rw [if_pos (show cModZ i j from h0)]; rfl
section
variable {K:Frag} {EX:EXT} {H:Hp} {σ:St} {d:Mode} {D:Ends} {i j:Nat} {m:Rho->R (List W)}
end
end TP
namespace TP
open PySem L2
section
variable {X:Cx}
end
section
variable {K:Frag} {EX:EXT} {H0 G H:Hp} {ρ:Rho} {σ:St} {d:Mode} {D:Ends} {Q:VK}
end
section
variable {X:Cx} {K:Frag} {EX:EXT} {d:Mode} {a e:Expr} {pos:Pos} {ma:Rho->R W} {mr:Rho->R (List W)}
end
end TP
namespace TP
open PySem L2
section
variable {X:Cx}
end
section
variable {K:Frag} {EX:EXT} {H0 G H:Hp} {ρ:Rho} {σ:St} {d:Mode} {D:Ends}
end
section
variable {X:Cx} {K:Frag} {EX:EXT} {d:Mode} {e1 e:Expr} {pos:Pos} {mk ma:Rho->R W}
end
end TP
namespace HT
open PySem PySem.Spec PyProof.Rows PySem.W
section
variable {prog:Program} {w:World} {A:Around} {E:Value->Shared->Prop} {s:Shared}
end
end HT
namespace TP
open PySem L2
section
open PySem.W PyProof.Rows
variable {X:Cx} {e:Expr} {te:TE} {st:Expr} {tk:TO} {pos p2:Pos}
end
section
variable {K:Frag} {EX:EXT} {σ:St} {H:Hp} {Q:VK}
end
section
variable {X:Cx} {K:Frag} {EX:EXT} {e:Expr} {pos:Pos} {ma:Rho->R W}
end
end TP
namespace TP
open PySem L2
section
variable {K:Frag} {H0 G H G1 H1:Hp} {ρ:Rho} {σ:St} {d:Mode} {D:Ends}
end
section
variable {X:Cx} {K:Frag} {d:Mode} {e:Expr} {es:List Expr} {pos:Pos} {mr:Rho->R (List W)} {mt:Rho->R Bool}
end
end TP
namespace TP
open PySem L2
section
variable {K:Frag} {EX:EXT} {D:Ends} {d:Mode} {σ:St} {H:Hp}
end
section
variable {X:Cx} {K:Frag} {EX:EXT} {d:Mode} {e k v:Expr} {pos:Pos} {mk me:Rho->R W}
end
end TP
namespace TP
open PySem L2
section
variable {K:Frag} {EX:EXT} {Hb H0 G H G1 H1 G2 H2:Hp} {ρ:Rho} {σ:St} {d:Mode} {D:Ends}
end
section
variable {X:Cx} {K:Frag} {EX:EXT} {d:Mode} {e:Expr} {pos:Pos} {ma:Rho->R W}
end
end TP
namespace L2
open PySem PySem.Spec PyProof.Rows
section
variable {X:Cx} {cs:Scope} {N':List Str} {y:Str} {tg iter elt:Expr} {ifs:List Expr} {wi:TI} {g:TG} {tc:TT} {te:TE} {pos:Pos}
end
end L2
namespace TP
open PySem L2
section
variable {X:Cx} {K:Frag} {EX:EXT} {pos:Pos} {ma:Rho->R W} {ta:Rho->R Bool}
end
end TP
namespace TP
open PySem L2
end TP
namespace L2
open PySem PySem.Spec PyProof.Rows
section
variable {X:Cx} {cs:Scope} {N':List Str} {yc:Str} {tg iter elt:Expr} {ifs:List Expr} {wi:TI} {g:TG} {tc:TT} {te:TE} {pos:Pos}
end
end L2
namespace TP
open PySem L2
section
variable {X:Cx} {K:Frag} {EX:EXT} {d:Mode} {pos:Pos} {ma:Rho->R W} {ta:Rho->R Bool}
end
end TP
namespace TP
open PySem L2
section
variable {X:Cx}
end
section
variable {X:Cx} {K:Frag} {EX:EXT} {d:Mode} {a b:Expr} {pos:Pos} {ma mb:Rho->R W}
end
end TP
namespace L2
open PySem PySem.Spec PyProof.Rows
section
variable {P:Program} {w:World} {K:Frag} {mg:Str->Option Value} {base:Heap} {N:List Str} {qual:Str} {scope:Scope} {f:Addr} {cd:Value} {A:Around} {outer:List Env} {s:Shared} {H:Hp} {E:XK}
 {pins:List (Addr×Obj)} {σ:St} {H1:Hp} {s1 s2:Shared} {C:Addr}
end
section
variable {X:Cx} {cs:Scope} {N':List Str} {tg iter elt:Expr} {ifs:List Expr} {wi:TI} {g:TG} {tc:TT} {te:TE} {pos:Pos}
end
end L2
namespace TP
open PySem L2
open PyProof.Rows (envOfC)
section
variable {K:Frag} {EX:EXT} {H0 G H G1 H1 G2 H2:Hp} {ρ:Rho} {σ:St} {d:Mode} {D:Ends}
end
section
variable {P:Program} {w:World} {K:Frag} {mg:Str->Option Value} {base:Heap} {N:List Str} {qual:Str} {scope:Scope} {f0:Addr} {cd:Value} {A:Around} {outer:List Env} {s0:Shared} {H0:Hp} {E:XK} {d:Mode} {e:Expr} {es:List Expr} {pos:Pos} {mr:Rho->R (List W)}
end
end TP
namespace L2
open PySem PySem.Spec PyProof.Rows
section
variable {X:Cx} {pins:List (Addr×Obj)} {σ:St} {H:Hp} {s:Shared}
end
end L2
namespace TP
open PySem L2
section
variable {K:Frag} {EX:EXT} {H0 G H G1 H1:Hp} {ρ:Rho} {σ:St}
end
section
variable {X:Cx} {K:Frag} {EX:EXT} {d:Mode} {e k v:Expr} {pos:Pos} {ma mk mv:Rho->R W}
end
end TP
namespace L2
open PySem PySem.Spec PyProof.Rows
end L2
namespace TP
open PySem L2
section
variable {K:Frag} {d:Mode}
end
end TP
namespace L2
open PySem PySem.Spec PyProof.Rows
end L2
namespace L2
open PySem PySem.Spec PyProof.Rows Builtin Builtin.Str
section
variable {X:Cx}
theorem vals_from:∀ (ts:List Str) (k:Nat),Vals (ts.map V.str) (strsFrom k ts)
 | [],k=>.nil
 | x::ts,k=>.cons ⟨_,rfl⟩ (vals_from ts (k+1))
theorem new_list {pins:List (Addr×Obj)} {s:Shared} {σ:St} {H:Hp} {Q:VK} {ys:List V} {its:List Value} {k:Nat} (I:Inv X pins σ H s) (r:Vals ys its) (hz:ys.length<=sizeLine) (q:∀ l,H l=none->Q (.ref l) (upd H l (.lst ys))) :
  EP X pins σ Q (.ref s.heap.objs.size) { s with toks:=k,heap:=s.heap.push { cls:=.type "list",data:=.seq its.toArray } }:=
 ⟨.ref s.heap.objs.size,_,I.laid (t':=k) (o:=.lst ys) (fun b ob e=>Heap.get?_push_of_some _ e) (Nat.le_refl _) ⟨hz,its,0,r,Heap.get?_push_size _ rfl⟩,rfl,q _ (I.hok.fresh (Nat.le_refl _))⟩
def rSplit:V->List V->Hp->VK->Prop:=fun x xs H Q=>∃ a b,x=.str a/\xs = [.str b]/\(b.length == 0)=false/\a.length<=sizeLine/\(Txt.split a b).length<=sizeLine/\∀ l,H l=none->Q (.ref l) (upd H l (.lst ((Txt.split a b).map V.str)))
theorem mt_split:MtR X "str.split" rSplit:=by
 intro pins s σ H x xs v us Q I rx rs h
 obtain ⟨a,b,rfl,rfl,hb,ha,hn,q⟩:=h
 obtain ⟨t,rfl⟩:=rx
 obtain ⟨u,rfl,t',rfl⟩:=vals1 rs
 have one:Txt.split a b = [a]->EP X pins σ Q (.ref s.heap.objs.size) { s with heap:=s.heap.push { cls:=.type "list",data:=.seq (strValues [(a,t)]).toArray } }:=fun e=>by
  rw [e] at q
  exact new_list (k:=s.toks) (ys:=[.str a]) (its:=[.str a t]) I (.cons ⟨_,rfl⟩ .nil) (by show 1<=sizeLine; decide) q
 cases h1:(decide (a.length<b.length)||decide (strKind a<strKind b))
 ·cases hf:(occurrences a b 0 a.length (a.length+1)).isEmpty
  ·have e:Txt.split a b=partsBetween a (occurrences a b 0 a.length (a.length+1)) b.length:=(if_neg (ne_true_of_eq_false h1)).trans (if_neg (ne_true_of_eq_false hf))
   rw [e] at hn q
   refine call_meets F.slot_str_split (typeIs_str _ _ _) F.entry_str_split (F.args_str_split_2 _ _) (meets_str_split_sep a b t t' h1 hb hf ha hn) ?_
   exact new_list I (vals_from _ _) (by rw [List.length_map]; exact hn) q
  ·exact call_meets F.slot_str_split (typeIs_str _ _ _) F.entry_str_split (F.args_str_split_2 _ _) (meets_str_split_not_found a b t t' h1 hb hf) (one ((if_neg (ne_true_of_eq_false h1)).trans (if_pos hf)))
 ·exact call_meets F.slot_str_split (typeIs_str _ _ _) F.entry_str_split (F.args_str_split_2 _ _) (meets_str_split_cannot_occur a b t t' h1) (one (if_pos h1))
theorem strs_of:∀ {ts:List Str} {its:List Value},Vals (ts.map V.str) its->∃ l:List (Str×Tok),its=strValues l/\l.map (·.1)=ts
 | [],_,h=>by cases h; exact ⟨[],rfl,rfl⟩
 | x::ts,_,h=>by
  cases h with
  | cons h1 h2=>
   obtain ⟨t,rfl⟩:=h1
   obtain ⟨l,rfl,rfl⟩:=strs_of h2
   exact ⟨(x,t)::l,rfl,rfl⟩
def rJoin (K:Frag):V->List V->Hp->VK->Prop:=fun x xs H Q=>∃ a p ts,x=.str a/\xs = [.ref p]/\SqL K H p (ts.map V.str)/\JoinOk a ts=true/\Q (.str (Txt.join a ts)) H
theorem mt_join:MtR X "str.join" (rJoin X.K):=by
 intro pins s σ H x xs v us Q I rx rs h
 obtain ⟨a,p,ts,rfl,rfl,hp,hok,q⟩:=h
 obtain ⟨t,rfl⟩:=rx
 obtain ⟨u,rfl,r⟩:=vals1 rs
 cases r
 obtain ⟨its,r,pl,hz⟩:=I.list hp
 obtain ⟨l,rfl,hl⟩:=strs_of r
 exact SC.join pl.isList hl hok fun t' k=>⟨.str _,H,I.tok k,⟨_,rfl⟩,q⟩
def rSlS:V->Option Int->Option Int->Hp->VK->Prop:=fun x lo hi H Q=>∃ a,x=.str a/\a.length<=sizeLine/\Q (.str (Txt.slice a lo hi)) H
theorem sl_str:SlR X rSlS:=by
 intro pins s σ H x v vl vu lo hi sl Q I rx hs pl pu h
 obtain ⟨a,rfl,ha,q⟩:=h
 obtain ⟨t,rfl⟩:=rx
 refine ⟨"str",_,F.slot_str_getitem.lookup,typeIs_str _ _ _,?_⟩
 obtain ⟨l,el,rfl⟩:∃ l:Option (Int×Tok),vl=partValue l/\lo=l.map (·.1):=by cases pl with
  | none=>exact ⟨none,rfl,rfl⟩
  | int=>exact ⟨some (_,_),rfl,rfl⟩
 obtain ⟨u,eu,rfl⟩:∃ l:Option (Int×Tok),vu=partValue l/\hi=l.map (·.1):=by cases pu with
  | none=>exact ⟨none,rfl,rfl⟩
  | int=>exact ⟨some (_,_),rfl,rfl⟩
 subst el eu
 exact wpAny_getItem_str_slice (l:=l) (u:=u) (st:=none) hs rfl (post_val_or_str ⟨Nat.le_trans (Txt.slice_le a _ _) ha,fun t' k=>⟨.str _,H,I.tok k,⟨_,rfl⟩,q⟩⟩)
end
end L2
namespace L2
open PySem PySem.Spec PyProof.Rows
abbrev TPt:=St->Hp->(Str->Hp->Prop)->Prop
def PPt (X:Cx) (e:Expr) (tp:TPt):Prop:=
 ∀ (pins:List (Addr×Obj)) (s:Shared) (σ:St) (H:Hp) (Q:Str->Hp->Prop),Inv X pins σ H s->tp σ H Q->wpAny (model X.prog X.w) X.A (eval e X.env) (fun v s1=>∃ y t H1,v=.str y t/\Inv X pins σ H1 s1/\Q y H1) X.xe s
def tParts:List TPt->Str->TE
 | [],out=>fun σ H Q=>out.length<=sizeLine/\Q (.str out) H
 | p::ps,out=>fun σ H Q=>p σ H fun y H1=>(out++y).length<=sizeLine/\tParts ps (out++y) σ H1 Q
inductive PPts (X:Cx):List Expr->List TPt->Prop where
 | nil:PPts X [] []
 | cons {e:Expr} {es:List Expr} {p:TPt} {ps:List TPt}:PPt X e p->PPts X es ps->PPts X (e::es) (p::ps)
def tTxt (te:TE):TPt:=fun σ H Q=>te σ H fun v H1=>(∃ x,v=.str x/\x.length<=sizeLine/\Q x H1)\/∃ i,v=.int i/\i.natAbs.log2<1920/\Q (Str.ofString (toString i)) H1
section
variable {X:Cx}
theorem pp_str {y:Str} {j} {p:Pos}:PPt X (.Constant (.str y) j p) (fun _ H Q=>Q y H):=fun pins s σ H Q I h=>Calls.Constant_str ⟨y,_,H,rfl,I.tok _,h⟩
theorem pp_val {e:Expr} {te:TE} {p:Pos} (he:PE X e te):PPt X (.FormattedValue e (-1) none p) (tTxt te):=by
 intro pins s σ H Q I h
 refine FormattedValue_plain (thn (he pins s σ H _ I h) fun u s1 zz81=>?_)
 obtain ⟨v,H1,I1,r,q⟩:=zz81
 rcases q with ⟨x,rfl,hx,q⟩ | ⟨i,rfl,hi,q⟩
 ·obtain ⟨t,rfl⟩:=r
  exact formatField_str (fun t' tk=>⟨x,t',H1,rfl,I1.tok tk,q⟩) hx
 ·obtain ⟨t,rfl⟩:=r
  exact formatField_int_small hi ⟨_,_,H1,rfl,I1.tok _,q⟩
theorem pp_join:∀ {es:List Expr} {ps:List TPt},PPts X es ps->∀ (out:Str) (pins:List (Addr×Obj)) (s:Shared) (σ:St) (H:Hp) (Q:VK),Inv X pins σ H s->tParts ps out σ H Q->wpAny (model X.prog X.w) X.A (joinParts out (evalEach es X.env)) (EP X pins σ Q) X.xe s
 | _,_,.nil,out,pins,s,σ,H,Q,I,h=>joinParts_nil ⟨.str out,H,I.tok _,⟨_,rfl⟩,h.2⟩ h.1
 | _,_,.cons hp hr,out,pins,s,σ,H,Q,I,h=>by
  refine joinParts_cons (wpAny_mono (hp pins s σ H _ I h) (fun v s1 zz82=>?_) fun _ _ z=>z)
  obtain ⟨y,t,H1,e,I1,hl,q⟩:=zz82
  subst e
  exact ⟨hl,pp_join hr (out++y) pins s1 σ H1 Q I1 q⟩
theorem pe_joined {e1 e2:Expr} {es:List Expr} {ps:List TPt} {pos:Pos} (h:PPts X (e1::e2::es) ps):PE X (.JoinedStr (e1::e2::es) pos) (tParts ps Str.empty):=fun pins s σ H Q I q=>JoinedStr_many (pp_join h _ pins s σ H Q I q)
theorem call_intS:CallR X (.type "int") (fun xs H Q=>∃ x n,xs = [.str x]/\PySem.intText? x=some n/\x.length<=640/\Q (.int n) H):=by
 intro pins s σ H xs us Q I r h
 obtain ⟨x,n,rfl,hn,hl,q⟩:=h
 obtain ⟨u,rfl,t,rfl⟩:=vals1 r
 exact PySem.W.KIN.call_text hn hl ⟨.int n,H,I.tok _,⟨_,rfl⟩,q⟩
end
end L2
namespace L2
open PySem PySem.Spec PyProof.Rows
def Its (x:Str):It:=⟨fun i _=>i<x.cps.size,fun i H v H'=>H'=H/\∃ c,x.cps[i]?=some c/\v=.str ⟨#[c]⟩,fun i _=>x.cps.size<=i⟩
theorem turn_str {P:Program} {w:World} {K:Frag} {tg:Expr} (it:Addr) (x:Str) (t:Tok):Turn P w K tg (Its x) [it] it (fun i h=>i<=x.cps.size/\h.IsStrIter it "str_ascii_iterator" x t i) where
 mem:=by simp
 obj:=fun i h st b hb=>by
  have e:b=it:=by simpa using hb
  subst e
  obtain ⟨_,o,e,c,d⟩:=st
  exact ⟨o,e,fun v z=>by rw [d] at z; cases z⟩
 keep:=fun i h h' st k=>⟨st.1,by
  obtain ⟨_,o,e,r⟩:=st
  exact ⟨o,k it (by simp) o e,r⟩⟩
 item:=by
  intro X hP hw hK hc i pins s σ H E I hf st hg
  subst hP hw hK
  obtain ⟨f0,f1,f2,f3,f4,f5⟩:=hf it (by simp)
  have W:=Walks.strAscii (prog:=X.prog) (w:=X.w) (I.ok.hd hc) it x t
  refine W.item i s _ _ hg st.2 fun v h' tk hv st' kk=>?_
  obtain ⟨c,u,hc,rfl⟩:=hv
  have I1:Inv X pins σ H { s with heap:=h',toks:=tk }:=I.turned (fun b o hb e=>kk b o (by simpa using hb) e) f0 f1 f3 f4 f5
  obtain ⟨o,e,c1,d1⟩:=id st'
  exact ⟨_,rfl,go_of (s:={ s with heap:=h',toks:=tk }) e c1 d1 (by decide) ⟨.str ⟨#[c]⟩,H,I1,⟨u,rfl⟩,⟨rfl,c,hc,rfl⟩,⟨hg,st'⟩,fun b hb=>(hf b hb).1⟩⟩
 done:=by
  intro X hP hw hK hc i pins s σ H E I hf st hg
  subst hP hw hK
  obtain ⟨f0,f1,f2,f3,f4,f5⟩:=hf it (by simp)
  have W:=Walks.strAscii (prog:=X.prog) (w:=X.w) (I.ok.hd hc) it x t
  have ei:i=x.cps.size:=Nat.le_antisymm st.1 hg
  subst ei
  exact W.done s _ _ st.2 fun h' tk kk=>⟨rfl,I.turned (fun b o hb e=>kk b o (by simpa using hb) e) f0 f1 f3 f4 f5⟩
 self:=fun A i s Q E st h=>by
  obtain ⟨_,st⟩:=st
  exact wpAny_pyIter_striter_ascii st h
def iStr (te:TE):TI:=fun σ H R=>te σ H fun v H1=>∃ x,v=.str x/\x.cps.all (·<128)=true/\R (Its x) H1
section
variable {X:Cx} {tg:Expr}
theorem pi_str {l:Expr} {tl:TE} (hl:PE X l tl):PI X tg l (iStr tl):=by
 intro pins s σ H R I h
 refine thn (hl pins s σ H _ I h) fun v s1 zz83=>?_
 obtain ⟨x,H1,I1,r1,q1⟩:=zz83
 obtain ⟨z,rfl,ha,q⟩:=q1
 obtain ⟨t,rfl⟩:=r1
 refine wpAny_pyIter_ascii ha ?_
 refine ⟨s1.heap.objs.size,[s1.heap.objs.size],_,_,H1,rfl,I1.kept (t':=s1.toks) fun b o e=>Heap.get?_push_of_some _ e,turn_str _ z t,⟨Nat.zero_le _,_,Heap.get?_push_size _ rfl,rfl,rfl⟩,fun b hb=>?_,q⟩
 have e:b=s1.heap.objs.size:=by simpa using hb
 subst e
 exact I1.fpOk (Nat.le_refl _) (I1.hok.fresh (Nat.le_refl _))
end
end L2
namespace L2
open PySem PySem.Spec PyProof.Rows
section
variable {X:Cx} {pins:List (Addr×Obj)} {σ:St} {H:Hp} {s:Shared}
theorem Inv.retrack {a:Addr} {u u':HO} (I:Inv X pins σ H s) (e:H a=some u) (ht:∀ xs,u≠.tup xs) (hb:∀ ps,u≠.tbl ps) (ho:∀ x,u≠.own x) (hf:∀ o w,X.H₀ a≠some (.frz o w)) (hu:ObjOk X.prog X.w (upd H a u') s.heap a u'):Inv X pins σ (upd H a u') s:=by
 have us:∀ {b:Addr} {w:HO},b≠a->H b=some w->upd H a u' b=some w:=fun {b w} n q=>by rw [upd_ne n]; exact q
 have un:∀ {b:Addr},H b=none->upd H a u' b=none:=fun {b} q=>by rw [upd_ne (ne_of_none e q).symm]; exact q
 refine ⟨I.ok,I.os,I.bare,⟨I.base.keep,I.base.slot,fun b ob q n hx=>un (I.base.free b ob q n hx),I.base.there,fun b xs q=>us (fun z=>?_) (I.base.tups b xs q),fun b ob w q=>us (fun z=>hf ob w (z ▸ q)) (I.base.frzs b ob w q),fun b ps q=>?_⟩,I.loc,I.cell,un I.free,fun x c q=>un (I.freeC x c q),fun p hp=>?_,fun b ob q=>?_,I.len⟩
 ·subst z
  have:=I.base.tups b xs q
  rw [e] at this; exact ht xs (Option.some.inj this)
 ·obtain ⟨more,q'⟩:=I.base.tbls b ps q
  exact ⟨more,us (fun z=>by subst z; rw [e] at q'; exact hb _ (Option.some.inj q')) q'⟩
 ·obtain ⟨p1,p2,p3⟩:=I.pin p hp
  exact ⟨p1,un p2,p3⟩
 ·by_cases z:b=a
  ·subst z
   rw [upd_same] at q; cases q; exact hu
  ·rw [upd_ne z] at q
   exact (I.hok b ob q).stay (fun _ _ _ k=>k) (fun c k=>us (fun z'=>by subst z'; rw [e] at k; exact ho _ (Option.some.inj k)) k) fun c xs k=>us (fun z'=>by subst z'; rw [e] at k; exact ht _ (Option.some.inj k)) k
theorem noFrz {a:Addr} {kvs:List (Key×V)} (I:Inv X pins σ H s) (e:H a=some (.dK kvs)):∀ o w,X.H₀ a≠some (.frz o w):=fun o w q=>by
 have:=I.base.frzs a o w q
 rw [e] at this; cases this
theorem Inv.freeze {a:Addr} {kvs:List (Key×V)} (I:Inv X pins σ H s) (e:H a=some (.dK kvs)):∃ ob,Inv X pins σ (upd H a (.frz ob (.dK kvs))) s:=by
 obtain ⟨z,y,vs,r,ob,es,ep,h1,h2⟩:=I.hok a _ e
 exact ⟨ob,I.retrack e (fun _ z=>by cases z) (fun _ z=>by cases z) (fun _ z=>by cases z) (noFrz I e) ⟨h1,z,y,vs,r,ob,es,ep,h1,h2⟩⟩
theorem Inv.thaw {a:Addr} {ob:Obj} {kvs:List (Key×V)} (I:Inv X pins σ H s) (e:H a=some (.frz ob (.dK kvs))) (hf:∀ o w,X.H₀ a≠some (.frz o w)):Inv X pins σ (upd H a (.dK kvs)) s:=by
 obtain ⟨h0,z,y,vs,r,k⟩:=I.hok a _ e
 exact I.retrack e (fun _ z=>by cases z) (fun _ z=>by cases z) (fun _ z=>by cases z) hf ⟨z,y,vs,r,k⟩
end
def Itd (d:Addr) (o:Obj) (kvs:List (Key×V)):It:=⟨fun i H=>H d=some (.frz o (.dK kvs))/\i<kvs.length,fun i H v H'=>H'=H/\∃ p,kvs[i]?=some p/\v=kV p.1,fun i H=>H d=some (.frz o (.dK kvs))/\kvs.length<=i⟩
def epOf (o:Obj):Nat:=match o.data with
 | .dict _ ep=>ep
 | _=>0
theorem dict_at {P:Program} {w:World} {h:Heap} {d:Addr} {o:Obj} {vs:List (Key×Value)} (hd:h.DictOf (mixKind P w) d vs) (ho:h.get? d=some o):h.DictAt (mixKind P w) d vs (epOf o):=by
 obtain ⟨o',es,ep,h1,h2,h3,h4⟩:=hd
 rw [ho] at h1; cases h1
 have e:epOf o=ep:=by unfold epOf; rw [h3]
 rw [e]
 exact ⟨o,es,ho,h2,h3,h4⟩
theorem kV_rel {P:Program} {w:World} {k:Key} {u:Value} (h:(mixKind P w).is k u=true):RelV (kV k) u:=by
 rcases keyIs_shape h with ⟨i,t,rfl,rfl⟩ | ⟨x,t,rfl,rfl⟩
 ·exact ⟨t,rfl⟩
 ·exact ⟨t,rfl⟩
theorem frz_dict {X:Cx} {pins:List (Addr×Obj)} {σ:St} {H:Hp} {s:Shared} {d:Addr} {o:Obj} {kvs:List (Key×V)} (I:Inv X pins σ H s) (e:H d=some (.frz o (.dK kvs))):(d == sysModules)=false/\kvs.length<=sizeLine/\∃ vs,KV kvs vs/\s.heap.DictAt (mixKind X.prog X.w) d vs (epOf o):=by
 obtain ⟨h0,z,y,vs,r,k⟩:=I.hok d _ e
 exact ⟨y,z,vs,r,dict_at k h0⟩
theorem turn_dict {P:Program} {w:World} {K:Frag} {tg:Expr} (it d:Addr) (o:Obj) (kvs:List (Key×V)):Turn P w K tg (Itd d o kvs) [it] it (fun i h=>h.IsKeyIter it d i kvs.length (epOf o)) where
 mem:=by simp
 obj:=fun i h st b hb=>by
  have e:b=it:=by simpa using hb
  subst e
  obtain ⟨o,e,c,d⟩:=st
  exact ⟨o,e,fun v z=>by rw [d] at z; cases z⟩
 keep:=fun i h h' st k=>by
  obtain ⟨o,e,r⟩:=st
  exact ⟨o,k it (by simp) o e,r⟩
 item:=by
  intro X hP hw hK hc i pins s σ H E I hf st hg
  subst hP hw hK
  obtain ⟨f0,f1,f2,f3,f4,f5⟩:=hf it (by simp)
  obtain ⟨lo,hz,vs,r,da⟩:=frz_dict I hg.1
  have hl:kvs.length=vs.length:=r.length
  have hi:i<vs.length:=by rw [<- hl]; exact hg.2
  have hk:kvs[i].1=vs[i].1:=by
   have:=congrArg (fun l=>l[i]?) r.keys
   simpa [hg.2,hi] using this
  rw [hl] at st
  refine wpAny_pyNext_dict_item (k:=vs[i].1) (v:=vs[i].2) st da (by simp [hi]) fun key h' hkey st' sb=>?_
  have I1:Inv X pins σ H { s with heap:=h' }:=I.turned (t':=s.toks) (fun b o hb e=>(sb.2 b hb).trans e) f0 f1 f3 f4 f5
  obtain ⟨oi,e,c1,d1⟩:=id st'
  rw [<- hl] at st'
  exact ⟨_,rfl,go_of (s:={ s with heap:=h' }) e c1 d1 (by decide) ⟨kV kvs[i].1,H,I1,by rw [hk]; exact kV_rel hkey,⟨rfl,kvs[i],by simp [hg.2],rfl⟩,st',fun b hb=>(hf b hb).1⟩⟩
 done:=by
  intro X hP hw hK hc i pins s σ H E I hf st hg
  subst hP hw hK
  obtain ⟨f0,f1,f2,f3,f4,f5⟩:=hf it (by simp)
  obtain ⟨lo,hz,vs,r,da⟩:=frz_dict I hg.1
  have hl:kvs.length=vs.length:=r.length
  rw [hl] at st
  exact wpAny_pyNext_dict_end (I.ok.hd hc) st da (List.getElem?_eq_none (by rw [<- hl]; exact hg.2)) fun h' eb=>⟨rfl,I.turned (t':=s.toks) (fun b o hb e=>eb b o hb e) f0 f1 f3 f4 f5⟩
 self:=fun A i s Q E st h=>wpAny_pyIter_keyiter st h
def iDic (te:TE):TI:=fun σ H R=>te σ H fun v H1=>∃ d o kvs,v=.ref d/\H1 d=some (.frz o (.dK kvs))/\R (Itd d o kvs) H1
section
variable {X:Cx} {tg:Expr}
theorem pi_dic {l:Expr} {tl:TE} (hl:PE X l tl):PI X tg l (iDic tl):=by
 intro pins s σ H R I h
 refine thn (hl pins s σ H _ I h) fun v s1 zz84=>?_
 obtain ⟨x,H1,I1,r1,q1⟩:=zz84
 obtain ⟨d,o,kvs,rfl,hd,q⟩:=q1
 cases r1
 obtain ⟨lo,hz,vs,r,da⟩:=frz_dict I1 hd
 have hl:kvs.length=vs.length:=r.length
 refine wpAny_pyIter_dict lo da ?_
 refine ⟨s1.heap.objs.size,[s1.heap.objs.size],_,_,H1,rfl,I1.kept (t':=s1.toks) fun b o e=>Heap.get?_push_of_some _ e,turn_dict _ d o kvs,⟨_,Heap.get?_push_size _ rfl,rfl,by rw [hl]; rfl⟩,fun b hb=>?_,q⟩
 have e:b=s1.heap.objs.size:=by simpa using hb
 subst e
 exact I1.fpOk (Nat.le_refl _) (I1.hok.fresh (Nat.le_refl _))
def rGet:V->List V->Hp->VK->Prop:=fun x xs H Q=>∃ d k v kvs,x=.ref d/\xs = [kV k,v]/\Rd H d (.dK kvs)/\Q ((valV kvs k).getD v) H
theorem mt_get:MtR X "dict.get" rGet:=by
 intro pins s σ H x xs v us Q I rx rs h
 obtain ⟨d,k,v0,kvs,rfl,rfl,hd,q⟩:=h
 cases rx
 obtain ⟨u,w',rfl,r1,r2⟩:=vals2 rs
 obtain ⟨hz,lo,vs,r,dd⟩:=dk_rd I.hok hd
 refine call_meetsIn PySem.F.slot_dict_get dd.typeIs PySem.F.entry_dict_get (PySem.F.args_dict_get_3 _ _ _) (meets_dict_get_default (mixKind X.prog X.w) d (kV_is r1) lo w') ⟨_,dd.mapOf,?_⟩
 exact ⟨_,H,I.tok _,(r.val k).getD r2,q⟩
theorem vals_keys {P:Program} {w:World} {kvs:List (Key×V)} {vs:List (Key×Value)} {acc:Array Value} (r:KV kvs vs) (h:ItemsOf (fun i v=>∃ k x,vs[i]?=some (k,x)/\(mixKind P w).is k v=true) acc vs.length):Vals (kvs.map fun p=>kV p.1) acc.toList:=by
 have hl:kvs.length=vs.length:=r.length
 have key:∀ i (h1:i<kvs.length) (h2:i<acc.toList.length),RelV (kV kvs[i].1) acc.toList[i]:=fun i h1 h2=>by
  obtain ⟨k,x,e,hk⟩:=h.2 i acc.toList[i] (by rw [<- Array.getElem?_toList]; simp [h2])
  have e1:kvs[i].1=k:=by
   have:=congrArg (fun l=>l[i]?) r.keys
   simp only [List.getElem?_map,e,List.getElem?_eq_getElem h1,Option.map_some] at this
   exact Option.some.inj this
  rw [e1]; exact kV_rel hk
 have hlen:acc.toList.length=kvs.length:=by rw [Array.length_toList,h.1,hl]
 revert key hlen
 generalize acc.toList=us
 clear h hl r
 intro key hlen
 induction kvs generalizing us with
 | nil=>cases us with
  | nil=>exact .nil
  | cons _ _=>cases hlen
 | cons p kvs ih=>cases us with
  | nil=>cases hlen
  | cons u us=>exact .cons (key 0 (by simp) (by simp)) (ih us (fun i h1 h2=>key (i+1) (by simpa using h1) (by simpa using h2)) (by simpa using hlen))
theorem call_listD (hc:X.calm=true):CallR X (.type "list") (fun xs H Q=>∃ d kvs,xs = [.ref d]/\Rd H d (.dK kvs)/\∀ l,H l=none->Q (.ref l) (upd H l (.lst (kvs.map fun p=>kV p.1)))):=by
 intro pins s σ H xs us Q I r h
 obtain ⟨d,kvs,rfl,hd,q⟩:=h
 obtain ⟨u,rfl,rx⟩:=vals1 r
 cases rx
 obtain ⟨hz,lo,vs,rv,dd⟩:=dk_rd I.hok hd
 obtain ⟨ep,da⟩:=dd.dictAt
 have hl:kvs.length=vs.length:=rv.length
 refine PySem.W.kdl_call (PySem.W.kdl_dict (kvs:=vs) (ep:=ep) lo) (I.ok.hd hc) da (by rw [<- hl]; exact hz) fun h' tk acc c hk hS hacc=>?_
 refine ⟨.ref s.heap.objs.size,_,I.laid (t':=tk) hk (Nat.le_refl _) (show ObjOk X.prog X.w _ h' _ (.lst (kvs.map fun p=>kV p.1)) from ⟨by rw [List.length_map]; exact hz,acc.toList,c,?_,by simpa using hS⟩),rfl,q _ (I.hok.fresh (Nat.le_refl _))⟩
 exact vals_keys rv hacc
theorem dv_extend {prog:Program} {w:World} {A:Around} {E:Value->Shared->Prop} {s:Shared} {T:String} {r d:Addr} {n:Nat} {P:Nat->Value->Prop} {OK:Heap->Prop} {Q:List Value->Shared->Prop} (K:PySem.W.KdlSrc prog w T r d n P OK) (hh:A.handled=none) (hok:OK s.heap) (hn:n<=sizeLine)
  (hQ:∀ h' tk acc',(∀ b o,s.heap.get? b=some o->h'.get? b=some o)->ItemsOf P acc' n->Q acc'.toList { s with heap:=h',toks:=tk }):wpAny (model prog w) A (collect (.ref r)) Q E s:=by
 have hlt:=K.there _ hok
 unfold collect; refine wpAny_bind (wpAny_runValue (codeAny_builtin F.entry_proto_collect ?_)); rw [Around.under_plainId F.plain_proto_collect _]
 show wpAny _ A.in1 (newList []>>=fun q=>again (.builtin "list.__iadd__" ⟨[q,.ref r],[]⟩)) _ _ s; refine wpAny_bind (wpAny_newObj_type ?_)
 refine wpAny_pure ⟨plainId_quiet F.plain_list_iadd _,codeAny_builtin F.entry_list_iadd ?_⟩; rw [Around.under_plainId F.plain_list_iadd _]
 show wpAny _ A.in1 (Builtin.List.listExtendWith (.ref s.heap.objs.size) (.ref r) (.ref s.heap.objs.size)) _ _ { s with heap:=s.heap.push { cls:=.type "list",data:=.seq #[] } }
 refine PySem.W.kdl_extend (R:=wants (fun v s₂=>wpAny (model prog w) A (TL.kOf v) Q E s₂) E) (s:={ s with heap:=s.heap.push { cls:=.type "list",data:=.seq #[] } }) K hh (K.keep _ _ hok fun b _ o e=>Heap.get?_push_of_some _ e) s.heap.objs.size (Nat.ne_of_gt hlt.1) (Nat.ne_of_gt hlt.2) (.ref s.heap.objs.size) 0 (Heap.get?_push_size _ rfl) (fun h' tk acc' c' hk hS' hacc=>?_) hn
 show wpAny _ A (load s.heap.objs.size>>=_) _ _ _; refine wpAny_bind (wpAny_load hS' ?_)
 exact wpAny_pure (hQ h' tk acc' (fun b o e=>hk b o (fun z=>absurd (Heap.lt_size e) (by rw [z]; exact Nat.lt_irrefl _)) (Heap.get?_push_of_some _ e)) hacc)
theorem dv_new {prog:Program} {w:World} {A:Around} {E:Value->Shared->Prop} {s:Shared} {T:String} {r d:Addr} {n:Nat} {P:Nat->Value->Prop} {OK:Heap->Prop} {Q₁:Value->Shared->Prop} (K:PySem.W.KdlSrc prog w T r d n P OK) (hh:A.handled=none) (hok:OK s.heap) (hn:n<=sizeLine)
  (h:∀ (h':Heap) tk acc,(∀ b o,s.heap.get? b=some o->h'.get? b=some o)->ItemsOf P acc n->Q₁ (.ref h'.objs.size) { s with heap:=h'.push { cls:=.type "tuple",data:=.seq acc },toks:=tk }) :
  codeAny (model prog w) A (.call (.builtin "tuple.__new__") ⟨[.type "tuple",.ref r],[]⟩) (wants Q₁ E) s:=by
 refine codeAny_of_tree ?_; show wpAny _ A.in1 (do checkBuiltinCall "tuple.__new__" ⟨[.type "tuple",.ref r],[]⟩; again (.builtin "tuple.__new__" ⟨[.type "tuple",.ref r],[]⟩)) _ _ s
 refine wpAny_bind (wpAny_of_eq (F.newCall_tuple_1 _) (wpAny_pure ⟨plainId_quiet F.plain_tuple_new _,codeAny_builtin F.entry_tuple_new ?_⟩)); rw [Around.under_plainId F.plain_tuple_new _]
 have g1:=sub_tuple_self; have g2:=init_tuple_lookup; have g3:=madeHere_tuple; have hTI:=K.type s hok
 have hT:(Value.type T == Value.type "tuple")=false:=K.notTuple
 have hh1:A.in1.handled=none:=hh
 have hsz:∀ acc:Array Value,ItemsOf P acc n->acc.toList.toArray.size<=sizeLine:=fun acc hacc=>by simp only [Array.toArray_toList]; rw [hacc.1]; exact hn
 wp_walk using wpAny_typeOf hTI,dv_extend (A:=A.in1) K hh1 hok hn
 intro h' tk acc hm hacc
 show wpAny _ _ (Builtin.Tuple.tupleExact acc.toList.toArray>>=fun v=>ret v) _ _ _; unfold Builtin.Tuple.tupleExact
 refine wpAny_bind (wpAny_newObj_type ?_ (hsz acc hacc)); refine wpAny_pure ?_
 have e:acc.toList.toArray=acc:=by simp
 rw [e]; exact h h' tk acc hm hacc
theorem dv_tuple {prog:Program} {w:World} {A:Around} {E:Value->Shared->Prop} {s:Shared} {T:String} {r d:Addr} {n:Nat} {P:Nat->Value->Prop} {OK:Heap->Prop} {Q:Value->Shared->Prop} (K:PySem.W.KdlSrc prog w T r d n P OK) (hh:A.handled=none) (hok:OK s.heap) (hn:n<=sizeLine)
  (hQ:∀ (h':Heap) tk acc,(∀ b o,s.heap.get? b=some o->h'.get? b=some o)->ItemsOf P acc n->Q (.ref h'.objs.size) { s with heap:=h'.push { cls:=.type "tuple",data:=.seq acc },toks:=tk }) :
  wpAny (model prog w) A (call (.type "tuple") [.ref r]) Q E s:=by
 refine callType_codes (Q₁:=fun obj s₁=>s₁.TypeIs obj "tuple" /\ Q obj s₁) F.called_tuple (F.typeCall_tuple_1 _) F.entry_object_init (dv_new K hh hok hn fun h' tk acc hm hacc=>⟨⟨_,Heap.get?_push_size _ rfl,rfl⟩,hQ h' tk acc hm hacc⟩) fun obj s₁ h₁=>?_
 exact ⟨h₁.1,F.args_object_init_2 obj _,object_init_meets F.called_tuple.init.lookup F.called_tuple.made (by decide) prog w A.in1 _ s₁ ⟨h₁.1,rfl,h₁.2⟩⟩
theorem vals_vals {kvs:List (Key×V)} {vs:List (Key×Value)} {acc:Array Value} (r:KV kvs vs) (h:ItemsOf (fun i v=>∃ k,vs[i]?=some (k,v)) acc vs.length):Vals (kvs.map (·.2)) acc.toList:=by
 have e:acc.toList=vs.map (·.2):=PySem.W.kdl_vals_eq acc.toList (by rw [Array.length_toList,h.1]) fun j v q=>h.2 j v (by rw [<- Array.getElem?_toList]; exact q)
 rw [e]
 clear h e
 induction r with
 | nil=>exact .nil
 | cons h _ ih=>exact .cons h.2 ih
def tVals (te:TE):TE:=fun σ H Q=>te σ H fun v H1=>∃ d kvs,v=.ref d/\H1 d=some (.dK kvs)/\∀ p,H1 p=none->Q (.ref p) (upd H1 p (.tup (kvs.map (·.2))))
theorem pe_tvals {e:Expr} {te:TE} {p pos apos cpos:Pos} (hc:X.calm=true) (hgl:Gl X "tuple") (hml:X.mg "tuple" = none) (he:PE X e te) (hbase:attributeBase e "values" X.env (eval e X.env)=eval e X.env:=by rfl) (hline:(apos.endLine == cpos.line)=true:=by rfl)
  (hs2:starEach [.Call (.Attribute e "values" apos) [] [] cpos] X.env = [(false,eval (.Call (.Attribute e "values" apos) [] [] cpos) X.env)]:=by rfl):PE X (.Call (.Name "tuple" p) [.Call (.Attribute e "values" apos) [] [] cpos] [] pos) (tVals te):=by
 intro pins s σ H Q I h
 refine wpAny_Call_Name_kw (ld_blt I hgl hml bt_tuple ?_ (by decide) (by decide))
 refine PyProof.Rows.callWith_type1 ?_ hs2 (by rfl)
 rw [hs2]
 show wpAny _ _ (spliced [(false,eval (.Call (.Attribute e "values" apos) [] [] cpos) X.env)]) _ _ s
 refine Calls.spliced_cons ?_
 refine wpAny_Call_method0_late hbase hline (thn (he pins s σ H _ I h) fun v s1 zz85=>?_)
 obtain ⟨x,H1,I1,r1,q1⟩:=zz85
 obtain ⟨d,kvs,rfl,hd,q⟩:=q1
 cases r1
 obtain ⟨hz,lo,vs,rv,dd⟩:=dk_of I1.hok hd
 obtain ⟨ep,da⟩:=dd.dictAt
 have hl:kvs.length=vs.length:=rv.length
 obtain ⟨h1,h2⟩:=tyV_is I1 (x:=.ref d) (v:=.ref d) rfl (show tyV X.K "dict" (.ref d) H1 from .inr (.inr (.inl ⟨rfl,.inl ⟨kvs,hd⟩⟩)))
 refine ⟨"dict", "dict.values",PySem.F.plainAttrs_dict,PySem.F.slot_dict_values,PySem.F.type_dict_values,h1,h2,Calls.callWith_builtin rfl (PySem.evalArgs_none ?_)⟩
 refine call_meetsIn PySem.F.slot_dict_values dd.typeIs PySem.F.entry_dict_values (PySem.F.args_dict_values_1 _) (meets_dict_values (mixKind X.prog X.w) d lo) ⟨⟨vs,dd⟩,Calls.spliced_nil ?_⟩
 have I2:Inv X pins σ H1 { s1 with heap:=s1.heap.push { cls:=.type "dict_values",data:=.fields #[.ref d] } }:=I1.kept (t':=s1.toks) fun b o e=>Heap.get?_push_of_some _ e
 refine dv_tuple (s:={ s1 with heap:=s1.heap.push { cls:=.type "dict_values",data:=.fields #[.ref d] } }) (PySem.W.kdl_values (r:=s1.heap.objs.size) (kvs:=vs) (ep:=ep)) (I1.ok.hd hc) ⟨⟨_,Heap.get?_push_size _ rfl,rfl,rfl⟩,da.push _⟩ (by rw [<- hl]; exact hz) fun h' tk acc hk hacc=>?_
 have I3:Inv X pins σ H1 { s1 with heap:=h',toks:=tk }:=I2.kept hk
 refine ⟨.ref h'.objs.size,_,I3.laid (t':=tk) (fun b o e=>Heap.get?_push_of_some _ e) (Nat.le_refl _) (show ObjOk X.prog X.w _ _ _ (.tup (kvs.map (·.2))) from ⟨by rw [List.length_map]; exact hz,acc.toList,vals_vals rv hacc,?_⟩),rfl,q _ (I3.hok.fresh (Nat.le_refl _))⟩
 simpa using PyProof.Rows.IsTup.new _ _
def tFreeze (p:Addr) (t:TS):TS:=fun D σ H=>∃ kvs,H p=some (.dK kvs)/\∀ ob,t { nx:=fun σ' H'=>H' p=some (.frz ob (.dK kvs))/\D.nx σ' (upd H' p (.dK kvs)),rt:=fun _ _=>False } σ (upd H p (.frz ob (.dK kvs)))
theorem ps_freeze {st:Stmt} {t:TS} (p:Addr) (h:PS X st t):PS X st (tFreeze p t):=by
 intro pins s σ H D I q
 obtain ⟨kvs,hp,q⟩:=q
 have hf:=noFrz I hp
 obtain ⟨ob,I1⟩:=I.freeze hp
 refine thn (h pins s σ _ _ I1 (q ob)) fun f s' r=>?_
 cases f with
 | next=>
  obtain ⟨σ',H',I',e,q'⟩:=r
  exact ⟨σ',_,I'.thaw e hf,q'⟩
 | brk=>obtain ⟨_,_,_,z⟩:=r; exact z.elim
 | cont=>obtain ⟨_,_,_,z⟩:=r; exact z.elim
 | ret u=>obtain ⟨_,_,_,_,_,z⟩:=r; exact z.elim
end
end L2
namespace TP
open PySem L2
section
variable {K:Frag} {EX:EXT} {H0 G H G1 H1:Hp} {ρ:Rho} {σ:St} {d:Mode} {Q:VK}
theorem szl {n:Nat} (h:n<=100000):n<=sizeLine:=Nat.le_trans h (by decide)
def fSS (C:Str->Str->Bool) (g:Str->Str->W):W->W->R W
 | .str x,.str y=>if C x y=true then .ok (g x y) else .stuck
 | _,_=>.stuck
theorem o2_SS {C:Str->Str->Bool} {g:Str->Str->W} {r:R2} (hs:∀ x y,sca (g x y)=true) (h:∀ x y H (Q:VK),C x y=true->(∃ v,(∀ F,Rep K F v (g x y))/\(Q v H->r (.str x) (.str y) H Q))):Op2 K .B d r (fSS C g):=by
 intro EX H0 Hs G H ρ σ Ha Hb x y u v Q I s mx my o
 cases u <;> first | exact o.elim | skip
 all_goals (cases v <;> first | exact o.elim | skip)
 rename_i i j
 have o':Out EX G H (mdW K d H0 Hs) (if C i j=true then R.ok (g i j) else .stuck) Q:=o
 by_cases c:C i j=true
 ·rw [if_pos c] at o'
  obtain ⟨z,hz,hr⟩:=h i j H Q c
  rw [mx.strB,my.strB]
  exact hr (o' z G H (Ext.refl I.gh) (Md.sca (hs i j) hz d))
 ·rw [if_neg c] at o'; exact o'.elim
def cCatS (x y:Str):Bool:=decide (x.length+y.length<=100000)
def gCatS (x y:Str):W:=.str (x++y)
theorem o2_catS:Op2 K .B d (fun x y H Q=>∃ i j,x=.str i/\y=.str j/\i.length+j.length<=sizeLine/\Q (.str (i++j)) H) (fSS cCatS gCatS):=
 o2_SS (fun _ _=>rfl) fun x y H Q c=>⟨.str (x++y),fun _=>.str,fun q=>⟨x,y,rfl,rfl,szl (of_decide_eq_true c),q⟩⟩
def cYes (_ _:Str):Bool:=true
def gInS (x y:Str):W:=.bl (!(Builtin.Str.occurrences y x 0 y.length 1).isEmpty)
theorem o2_inS:Op2 K .B d (fun x y H Q=>∃ i j,x=.str i/\y=.str j/\Q (.bl (!(Builtin.Str.occurrences j i 0 j.length 1).isEmpty)) H) (fSS cYes gInS):=
 o2_SS (fun _ _=>rfl) fun x y H Q _=>⟨_,fun _=>.bl,fun q=>⟨x,y,rfl,rfl,q⟩⟩
def fIxS:W->W->R W
 | .str x,.int i=>if x.length<=100000 then (match atI x.cps.toList i with
  | some c=>.ok (.str ⟨#[c]⟩)
  | none=>.stuck) else .stuck
 | _,_=>.stuck
theorem o2_ixS:Op2 K .B d rIxS fIxS:=by
 intro EX H0 Hs G H ρ σ Ha Hb x y u v Q I s mx my o
 cases u <;> first | exact o.elim | skip
 all_goals (cases v <;> first | exact o.elim | skip)
 rename_i z i
 have o':Out EX G H (mdW K d H0 Hs) (if z.length<=100000 then (match atI z.cps.toList i with | some c=>R.ok (W.str ⟨#[c]⟩) | none=>.stuck) else .stuck) Q:=o
 by_cases c:z.length<=100000
 ·rw [if_pos c] at o'
  cases e:atI z.cps.toList i with
  | none=>rw [e] at o'; exact o'.elim
  | some k=>
   rw [e] at o'
   exact ⟨z,i,k,mx.strB,my.intB,szl c,e,o' _ G H (Ext.refl I.gh) (Md.sca rfl (fun _=>.str) d)⟩
 ·rw [if_neg c] at o'; exact o'.elim
def slS (x:W) (l u:Option Int):R W:=match x with
 | .str z=>if z.length<=100000 then .ok (.str (Txt.slice z l u)) else .stuck
 | _=>.stuck
def vSlS (m:Rho->R W) (ml mh:Rho->R (Option Int)):Rho->R W:=fun ρ=>m ρ>>=fun x=>ml ρ>>=fun l=>mh ρ>>=fun u=>slS x l u
theorem c_slS {m:Rho->R W} {ml mh:Rho->R (Option Int)} (h:tM K EX d (vSlS m ml mh) σ H Q):tSl rSlS (tM K EX .B m) (tOp_ K EX ml) (tOp_ K EX mh) σ H Q:=by
 obtain ⟨H0,G,ρ,I,o⟩:=h
 refine ⟨H0,G,ρ,I,Out.bind o fun x G1 H1 w e1 m1 o1=>⟨H0,G1,ρ,I.ext e1,Out.bind o1 fun l' G2 H2 l e2 m2 o2=>⟨H0,G2,ρ,(I.ext e1).ext e2,Out.bind o2 fun u' G3 H3 u e3 m3 o3=>?_⟩⟩⟩
 subst m2; subst m3
 have I3:=((I.ext e1).ext e2).ext e3
 cases w <;> first | exact o3.elim | skip
 rename_i z
 have o':Out EX G3 H3 (mdW K d H0 H) (if z.length<=100000 then R.ok (W.str (Txt.slice z l' u')) else .stuck) Q:=o3
 by_cases c:z.length<=100000
 ·rw [if_pos c] at o'
  exact ⟨z,m1.strB,szl c,o' _ G3 H3 (Ext.refl I3.gh) (Md.sca rfl (fun _=>.str) d)⟩
 ·rw [if_neg c] at o'; exact o'.elim
def fLenS:List W->R W
 | [.str x]=>if x.length<=100000 then .ok (.int x.length) else .stuck
 | _=>.stuck
theorem b_lenS:Cal K .B d (fun xs H Q=>∃ z,xs = [.str z]/\z.length<=sizeLine/\Q (.int z.length) H) fLenS:=by
 intro EX H0 Hs G H ρ σ Ha vs ws Q I s m o
 unfold fLenS at o
 split at o
 ·rename_i x
  cases m with
  | cons a t=>
   cases t
   split at o
   ·rename_i hl
    exact ⟨x,by rw [a.strB],szl hl,o _ G H (Ext.refl I.gh) (Md.sca rfl (fun _=>.int) d)⟩
   ·exact o.elim
 ·exact o.elim
def fIntS:List W->R W
 | [.str x]=>if x.length<=640 then (match PySem.intText? x with
  | some n=>.ok (.int n)
  | none=>.stuck) else .stuck
 | _=>.stuck
theorem b_intS:Cal K .B d (fun xs H Q=>∃ x n,xs = [.str x]/\PySem.intText? x=some n/\x.length<=640/\Q (.int n) H) fIntS:=by
 intro EX H0 Hs G H ρ σ Ha vs ws Q I s m o
 unfold fIntS at o
 split at o
 ·rename_i x
  cases m with
  | cons a t=>
   cases t
   split at o
   ·rename_i hl
    split at o
    ·rename_i n hn
     exact ⟨x,n,by rw [a.strB],hn,hl,o _ G H (Ext.refl I.gh) (Md.sca rfl (fun _=>.int) d)⟩
    ·exact o.elim
   ·exact o.elim
 ·exact o.elim
def spl1 (a:Str) (y:W):R W:=match y with
 | .str b=>if (b.length == 0)=false/\a.length<=100000/\(Txt.split a b).length<=1000 then .ok (.lst ((Txt.split a b).map W.str)) else .stuck
 | _=>.stuck
def Rspl (x y:R W):R W:=x>>=fun x=>(match x with
 | .str a=>y>>=fun y=>spl1 a y
 | _=>.stuck)
def mSpl (mo me:Rho->R W):Rho->R W:=fun ρ=>Rspl (mo ρ) (me ρ)
theorem reps_str {F:Hp}:∀ ts:List Str,Reps K F (ts.map V.str) (ts.map W.str)
 | []=>.nil
 | _::ts=>.cons .str (reps_str ts)
theorem out_arg {G H:Hp} {H0:Hp} {ρ:Rho} {me:Rho->R W} {QA:List V->Hp->Prop} (h:Out EX G H (mdW K .B H0 H) (me ρ) fun y H2=>QA [y] H2):Out EX G H (mdA K .B H0 H) (aC me aN ρ) QA:=by
 unfold aC aN
 revert h
 cases me ρ with
 | stuck=>exact id
 | ex e=>exact id
 | ok u=>
  intro h v G2 H2 e2 m2
  cases m2 with
  | cons a t=>cases t; exact h _ G2 H2 e2 a
theorem c_split {mo me:Rho->R W} (h:tM K EX .F (mSpl mo me) σ H Q):tBM K "str" rSplit (tM K EX .B mo) (tA K EX .B (aC me aN)) σ H Q:=by
 obtain ⟨H0,G,ρ,I,o⟩:=h
 unfold mSpl Rspl at o
 refine ⟨H0,G,ρ,I,Out.bind o fun x G1 H1 w e1 m1 o1=>?_⟩
 have I1:=I.ext e1
 cases w <;> first | exact o1.elim | skip
 rename_i a
 obtain rfl:=m1.strB
 refine ⟨rfl,H0,G1,ρ,I1,out_arg (Out.bind (md:=mdW K .B H0 H1) o1 fun y G2 H2 u e2 m2 o2=>?_)⟩
 have I2:=I1.ext e2
 unfold spl1 at o2
 split at o2
 ·rename_i b
  obtain rfl:=m2.strB
  split at o2
  ·rename_i hc
   exact ⟨a,b,rfl,rfl,hc.1,szl hc.2.1,szl (Nat.le_trans hc.2.2 (by decide)),fun p hp=>Out.newL I2 (e1.hh.trans e2.hh) (reps_str _) hp o2⟩
  ·exact o2.elim
 ·exact o2.elim
def strW:W->Option Str
 | .str x=>some x
 | _=>none
def strsW:List W->Option (List Str)
 | []=>some []
 | w::ws=>match strW w,strsW ws with
  | some x,some xs=>some (x::xs)
  | _,_=>none
theorem strsW_of:∀ {ws:List W} {ts:List Str},strsW ws=some ts->ws=ts.map W.str
 | [],_,h=>by cases h; rfl
 | w::ws,ts,h=>by
  unfold strsW at h
  split at h
  ·rename_i x xs hx hxs
   cases h
   rw [strsW_of hxs]
   cases w <;> first | (cases hx; rfl) | cases hx
  ·cases h
theorem strsW_map:∀ ts:List Str,strsW (ts.map W.str)=some ts
 | []=>rfl
 | x::ts=>by
  show (match strW (.str x),strsW (ts.map W.str) with | some x,some xs=>some (x::xs) | _,_=>none)=_
  rw [strsW_map ts]; rfl
def joi1 (a:Str) (y:W):R W:=match y with
 | .lst ws=>(match strsW ws with
  | some ts=>if JoinOk a ts=true then .ok (.str (Txt.join a ts)) else .stuck
  | none=>.stuck)
 | _=>.stuck
def Rjoi (x y:R W):R W:=x>>=fun x=>(match x with
 | .str a=>y>>=fun y=>joi1 a y
 | _=>.stuck)
def mJoi (mo me:Rho->R W):Rho->R W:=fun ρ=>Rjoi (mo ρ) (me ρ)
theorem reps_strs {F:Hp}:∀ {ts:List Str} {vs:List V},Reps K F vs (ts.map W.str)->vs=ts.map V.str
 | [],_,h=>by cases h; rfl
 | x::ts,_,h=>by
  cases h with
  | cons a b=>cases a; rw [reps_strs b]; rfl
theorem c_join {mo me:Rho->R W} (h:tM K EX d (mJoi mo me) σ H Q):tBM K "str" (rJoin K) (tM K EX .B mo) (tA K EX .B (aC me aN)) σ H Q:=by
 obtain ⟨H0,G,ρ,I,o⟩:=h
 unfold mJoi Rjoi at o
 refine ⟨H0,G,ρ,I,Out.bind o fun x G1 H1 w e1 m1 o1=>?_⟩
 have I1:=I.ext e1
 cases w <;> first | exact o1.elim | skip
 rename_i a
 obtain rfl:=m1.strB
 refine ⟨rfl,H0,G1,ρ,I1,out_arg (Out.bind (md:=mdW K .B H0 H1) o1 fun y G2 H2 u e2 m2 o2=>?_)⟩
 have I2:=I1.ext e2
 unfold joi1 at o2
 split at o2
 ·rename_i ws
  split at o2
  ·rename_i ts hts
   have:=strsW_of hts
   subst this
   obtain ⟨p,vs,rfl,hs,r⟩:=m2.lstB I2
   have e:=reps_strs r
   subst e
   split at o2
   ·rename_i hc
    exact ⟨a,p,ts,rfl,rfl,SqL.of hs,hc,o2 _ G2 H2 (Ext.refl I2.gh) (Md.sca rfl (fun _=>.str) d)⟩
   ·exact o2.elim
  ·exact o2.elim
 ·exact o2.elim
def txtW:W->Option Str
 | .str x=>if x.length<=100000 then some x else none
 | .int i=>if i.natAbs.log2<1920 then some (Str.ofString (toString i)) else none
 | _=>none
def fpR:List (R W)->Str->R W
 | [],out=>if out.length<=100000 then .ok (.str out) else .stuck
 | r::rs,out=>r>>=fun w=>(match txtW w with
  | some y=>if (out++y).length<=100000 then fpR rs (out++y) else .stuck
  | none=>.stuck)
def mFp (ms:List (Rho->R W)):Rho->R W:=fun ρ=>fpR (ms.map fun m=>m ρ) Str.empty
def ptM (K:Frag) (EX:EXT) (m:Rho->R W):TPt:=tTxt (tM K EX .B m)
theorem c_fp {H0:Hp} {Hs:Hp}:∀ (ms:List (Rho->R W)) (out:Str) {G H:Hp},PIv K H0 G ρ σ H->Same Hs H->Out EX G H (mdW K d H0 Hs) (fpR (ms.map fun m=>m ρ) out) Q->tParts (ms.map (ptM K EX)) out σ H Q
 | [],out,G,H,I,s,o=>by
  have o':Out EX G H (mdW K d H0 Hs) (if out.length<=100000 then R.ok (W.str out) else .stuck) Q:=o
  by_cases c:out.length<=100000
  ·rw [if_pos c] at o'
   exact ⟨szl c,o' _ G H (Ext.refl I.gh) (Md.sca rfl (fun _=>.str) d)⟩
  ·rw [if_neg c] at o'; exact o'.elim
 | m::ms,out,G,H,I,s,o=>by
  refine ⟨H0,G,ρ,I,Out.bind (md:=mdW K .B H0 H) o fun v G1 H1 w e1 m1 o1=>?_⟩
  have I1:=I.ext e1
  cases q:txtW w with
  | none=>rw [q] at o1; exact o1.elim
  | some y=>
   rw [q] at o1
   have o2:Out EX G1 H1 (mdW K d H0 Hs) (if (out++y).length<=100000 then fpR (ms.map fun m=>m ρ) (out++y) else .stuck) Q:=o1
   by_cases c:(out++y).length<=100000
   ·rw [if_pos c] at o2
    have rest:(out++y).length<=sizeLine/\tParts (ms.map (ptM K EX)) (out++y) σ H1 Q:=⟨szl c,c_fp ms (out++y) I1 (s.trans e1.hh) o2⟩
    unfold txtW at q
    split at q
    ·rename_i x
     split at q
     ·rename_i hx
      cases q
      exact .inl ⟨_,m1.strB,szl hx,rest⟩
     ·cases q
    ·rename_i i
     split at q
     ·rename_i hi
      cases q
      exact .inr ⟨_,m1.intB,hi,rest⟩
     ·cases q
    ·cases q
   ·rw [if_neg c] at o2; exact o2.elim
def seqS:W->R (List W)
 | .str x=>if x.cps.all (·<128)=true/\x.cps.size<=1000 then .ok (x.cps.toList.map fun c=>W.str ⟨#[c]⟩) else .stuck
 | _=>.stuck
def bSs (ma:Rho->R W):Rho->R (List W):=fun ρ=>ma ρ>>=seqS
theorem itok_str {e:Mode} {Z:Hp} {x:Str} (he:e=.V\/e=.U):ItOk K e H0 Z G (Its x) (x.cps.toList.map fun c=>W.str ⟨#[c]⟩):=by
 refine ⟨fun i H hi _=>by show i<x.cps.size; simpa using hi,fun H _=>by simp [Its],fun i H v H' w hw _ zz86 G2 ρ σ I _=>?_⟩
 obtain ⟨e1,c,hc,e2⟩:=zz86
 subst e1; subst e2
 rw [List.getElem?_map,Array.getElem?_toList,hc] at hw
 cases hw
 refine ⟨G2,Ext.refl I.gh,?_⟩
 rcases he with rfl | rfl
 ·exact .str
 ·exact .str
theorem c_iStr {lp:Bool} {e:Mode} {ml:Rho->R W} {Rr:It->Hp->Prop} (he:e=.V\/e=.U) (h:tIt K EX lp e (bSs ml) σ H Rr):iStr (tM K EX .B ml) σ H Rr:=by
 obtain ⟨H0,G,ρ,I,o⟩:=h
 refine ⟨H0,G,ρ,I,?_⟩
 replace o:OutI K EX lp e H0 G H (ml ρ>>=seqS) Rr:=o
 revert o
 cases ml ρ with
 | stuck=>exact id
 | ex x=>exact id
 | ok w=>
  intro o v G1 H1 e1 m1
  replace o:OutI K EX lp e H0 G H (seqS w) Rr:=o
  unfold seqS at o
  split at o
  ·rename_i x
   split at o
   ·rename_i hc
    exact ⟨x,m1.strB,hc.1,o _ G1 H1 e1 (itok_str he)⟩
   ·exact o.elim
  ·exact o.elim
end
section
variable {X:Cx} {K:Frag} {EX:EXT} {d:Mode} {a e o:Expr} {pos apos cpos:Pos} {ma mo me:Rho->R W} {tg:Expr} {lp:Bool}
theorem q_globS {x:Str} {y:Str} {t:Tok} (hg:Gl X x) (hm:X.mg x=some (.str y t)) (hd:(x == ("__debug__" : Str))=false:=by decide):PE X (.Name x pos) (tM K EX d (mC (.str y))):=
 (pe_glob (v:=.str y) hg hm ⟨t,rfl⟩ hd).mono fun _ _ _ q=>c_const rfl (fun _=>.str) q
theorem q_ixS {c:Expr} {mb:Rho->R W} (ha:PE X a (tM K EX .B ma)) (hb:PE X c (tM K EX .B mb)) (hs:PlainIx c:=by exact fun _ _=>rfl):PE X (.Subscript a c pos) (tM K EX d (b2 fIxS ma mb)):=(pe_ix ix_str ha hb hs).mono fun _ _ _ q=>c_op o2_ixS q
theorem q_slS {lo hi:Option Expr} {p2:Pos} {ml mh:Rho->R (Option Int)} (he:PE X e (tM K EX .B ma)) (hl:PO X lo (tOp_ K EX ml)) (hu:PO X hi (tOp_ K EX mh)):PE X (.Subscript e (.Slice lo hi none p2) pos) (tM K EX d (vSlS ma ml mh)):=(pe_slice sl_str he hl hu).mono fun _ _ _ q=>c_slS q
theorem q_iStr (h:PE X e (tM K EX .B ma)):PI X tg e (tIt K EX lp .U (bSs ma)):=(pi_str h).mono fun _ _ _ q=>c_iStr (.inr rfl) q
theorem q_split (ho:PE X o (tM K EX .B mo)) (he:PE X e (tM K EX .B me)) (hK:X.K=K:=by rfl)
  (hbase:attributeBase o "split" X.env (eval o X.env)=eval o X.env:=by rfl)
  (hfew:((backTo cpos (starEach [e] X.env)).all (fun x=>!x.1)&&(backToKw cpos (keywordEach [] X.env)).all (fun x=>x.1.isSome)
   && decide (([e]:List Expr).length+([]:List Keyword).length+(if ([]:List Keyword).isEmpty then 0 else 1)<30))=true:=by rfl)
  (hline:(apos.endLine == cpos.line)=true:=by rfl) (hs:starEach [e] X.env=(false,eval e X.env)::starEach [] X.env:=by rfl) (hplain:(backTo cpos (starEach [] X.env)).any (·.1)=false:=by rfl) :
  PE X (.Call (.Attribute o "split" apos) [e] [] cpos) (tM K EX .F (mSpl mo me)):=by
 subst hK; exact (pe_bm PySem.F.plainAttrs_str PySem.F.slot_str_split PySem.F.type_str_split mt_split ho (q_acons he q_anil hs) hbase hfew hline hs hplain).mono fun _ _ _ q=>c_split q
theorem q_join (ho:PE X o (tM K EX .B mo)) (he:PE X e (tM K EX .B me)) (hK:X.K=K:=by rfl)
  (hbase:attributeBase o "join" X.env (eval o X.env)=eval o X.env:=by rfl)
  (hfew:((backTo cpos (starEach [e] X.env)).all (fun x=>!x.1)&&(backToKw cpos (keywordEach [] X.env)).all (fun x=>x.1.isSome)
   && decide (([e]:List Expr).length+([]:List Keyword).length+(if ([]:List Keyword).isEmpty then 0 else 1)<30))=true:=by rfl)
  (hline:(apos.endLine == cpos.line)=true:=by rfl) (hs:starEach [e] X.env=(false,eval e X.env)::starEach [] X.env:=by rfl) (hplain:(backTo cpos (starEach [] X.env)).any (·.1)=false:=by rfl) :
  PE X (.Call (.Attribute o "join" apos) [e] [] cpos) (tM K EX d (mJoi mo me)):=by
 subst hK; exact (pe_bm PySem.F.plainAttrs_str PySem.F.slot_str_join PySem.F.type_str_join mt_join ho (q_acons he q_anil hs) hbase hfew hline hs hplain).mono fun _ _ _ q=>c_join q
inductive QPts (X:Cx) (K:Frag) (EX:EXT):List Expr->List (Rho->R W)->Prop where
 | nil:QPts X K EX [] []
 | str {y:Str} {j} {p:Pos} {es:List Expr} {ms:List (Rho->R W)}:y.length<=1000->QPts X K EX es ms->QPts X K EX (.Constant (.str y) j p::es) (mC (.str y)::ms)
 | val {e:Expr} {p:Pos} {es:List Expr} {m:Rho->R W} {ms:List (Rho->R W)}:PE X e (tM K EX .B m)->QPts X K EX es ms->QPts X K EX (.FormattedValue e (-1) none p::es) (m::ms)
theorem pp_strM {y:Str} {j} {p:Pos} (hy:y.length<=1000):PPt X (.Constant (.str y) j p) (ptM K EX (mC (.str y))):=fun pins s σ H Q I h=>by
 refine pp_str pins s σ H Q I ?_
 obtain ⟨H0,G,ρ,I0,o⟩:=h
 rcases o (.str y) G H (Ext.refl I0.gh) (.inl .str) with ⟨x,e,_,q⟩ | ⟨i,e,_⟩
 ·cases e; exact q
 ·cases e
theorem QPts.pp {es:List Expr} {ms:List (Rho->R W)} (h:QPts X K EX es ms):PPts X es (ms.map (ptM K EX)):=by
 induction h with
 | nil=>exact .nil
 | str hy _ ih=>exact .cons (pp_strM hy) ih
 | val hv _ ih=>exact .cons (pp_val hv) ih
theorem q_fp {e1 e2:Expr} {es:List Expr} {ms:List (Rho->R W)} (h:QPts X K EX (e1::e2::es) ms):PE X (.JoinedStr (e1::e2::es) pos) (tM K EX d (mFp ms)):=
 (pe_joined h.pp).mono fun _ _ _ zz87=>by obtain ⟨H0,G,ρ,I,o⟩:=zz87; exact c_fp ms Str.empty I (Same.refl _) o
end
end TP
namespace TP
open PySem L2
abbrev DW:=List Str×List W
section
variable {K:Frag} {EX:EXT} {H0 G H G1 H1 G2 H2:Hp} {ρ:Rho} {σ:St} {d:Mode} {Q:VK} {D:Ends}
def dAt:List Str->List W->Str->Option W
 | k::ks,w::ws,x=>if k=x then some w else dAt ks ws x
 | _,_,_=>none
theorem dAt_val {F:Hp}:∀ {kvs:List (Key×V)} {ks:List Str} {ws:List W} (x:Str),kvs.map (·.1)=ks.map Sum.inr->Reps K F (kvs.map (·.2)) ws->(match dAt ks ws x with
  | some w=>∃ v,valV kvs (Sum.inr x)=some v/\Rep K F v w
  | none=>valV kvs (Sum.inr x)=none)
 | [],[],_,x,_,h=>by cases h; rfl
 | [],_::_,_,x,e,_=>by cases e
 | _::_,[],_,x,e,_=>by cases e
 | p::kvs,k::ks,_,x,e,h=>by
  cases h with
  | @cons _ w _ ws r t=>
   have e1:p.1=Sum.inr k:=(List.cons.inj e).1
   have e2:=(List.cons.inj e).2
   show (match (if k=x then some w else dAt ks ws x) with | some w=>_ | none=>_)
   by_cases hk:k=x
   ·rw [if_pos hk]
    exact ⟨p.2,valV_pos (by rw [e1,hk]),r⟩
   ·rw [if_neg hk,valV_neg (by rw [e1]; intro z; exact hk (Sum.inr.inj z))]
    exact dAt_val x e2 t
theorem mem_val {kvs:List (Key×V)} {ks:List Str} {x:Str} (e:kvs.map (·.1)=ks.map Sum.inr):(valV kvs (Sum.inr x)).isSome=decide (x∈ks):=by
 rw [<- valV_any,Bool.eq_iff_iff,List.any_eq_true,decide_eq_true_iff]
 constructor
 ·rintro ⟨p,hp,q⟩
  have q:=of_decide_eq_true q
  have:p.1∈ks.map (Sum.inr:Str->Key):=by rw [<- e]; exact List.mem_map.mpr ⟨p,hp,rfl⟩
  obtain ⟨j,hj,ej⟩:=List.mem_map.mp this
  cases ej.trans q; exact hj
 ·intro h
  have:(Sum.inr x:Key)∈kvs.map (·.1):=by rw [e]; exact List.mem_map.mpr ⟨x,h,rfl⟩
  obtain ⟨p,hp,q⟩:=List.mem_map.mp this
  exact ⟨p,hp,decide_eq_true q⟩
theorem put_new {kvs:List (Key×V)} {kw:DW} {x:Str} {v:V} {w:W} (h:DkR K G kvs kw) (hx:x∉kw.1) (r:Rep K G v w):DkR K G (putK kvs (Sum.inr x) v) (kw.1 ++ [x],kw.2 ++ [w]):=by
 have hn:valV kvs (Sum.inr x)=none:=by
  have:=mem_val (x:=x) h.1
  rw [decide_eq_false hx] at this
  cases q:valV kvs (Sum.inr x) with
  | none=>rfl
  | some _=>rw [q] at this; cases this
 rw [putK_new v hn]
 refine ⟨?_,?_⟩
 ·rw [List.map_append,h.1,List.map_append]; rfl
 ·rw [List.map_append]; exact h.2.append (.cons r .nil)
theorem DkR.len {kvs:List (Key×V)} {kw:DW} (h:DkR K G kvs kw):kvs.length=kw.1.length:=by have:=congrArg List.length h.1; simpa using this
theorem PIv.dos_at {i:Nat} {kw:DW} (I:PIv K H0 G ρ σ H) (e:ρ[i]?=some (.dos kw)):∃ a kvs,σ[i]?=some (some (.ref a))/\H a=some (.dK kvs)/\G a=none/\H0 a=none/\DkR K G kvs kw:=by
 have hi:i<σ.length:=by rw [<- I.len]; exact (List.getElem?_eq_some_iff.mp e).1
 have es:σ[i]?=some σ[i]:=by simp
 obtain ⟨a,kvs,ev,r⟩:=I.sl i _ _ e es
 exact ⟨a,kvs,by rw [es,ev],r⟩
def isDk:Sl->Bool
 | .dik _=>true
 | _=>false
def noDk (ρ:Rho):Bool:=ρ.all fun s=>!isDk s
theorem noDk_no {ρ:Rho} {j:Nat} {ks:List Int} (h:noDk ρ=true):ρ[j]?≠some (.dik ks):=fun e=>by
 have:=List.all_eq_true.mp h _ (List.mem_of_getElem? e)
 simp [isDk] at this
theorem PIv.dos_chg {i:Nat} {a:Addr} {kw:DW} {u:HO} {s':Sl} (I:PIv K H0 G ρ σ H) (e:ρ[i]?=some (.dos kw)) (es:σ[i]?=some (some (.ref a))) (one:noDk ρ=true) (hs:SlR K H0 G (upd H a u) s' (some (.ref a))) (hs':(∀ ws,s'≠.own ws)):PIv K H0 G (ρ.set i s') σ (upd H a u):=by
 obtain ⟨a',kvs,ev,ha,hg,h0,_⟩:=I.sl i _ _ e es
 cases ev
 have hi:=(List.getElem?_eq_some_iff.mp e).1
 refine ⟨I.g0,I.gl,fun b o q=>by rw [upd_ne (ne_of_none q hg)]; exact I.gh b o q,fun b o q=>by rw [upd_ne (ne_of_none q h0)]; exact I.hh b o q,by rw [List.length_set]; exact I.len,fun j x o h1 h2=>?_,fun p q ws1 us c hab h1 h2 h3 h4=>?_,fun p q ws1 us c hab h1 h2 h3 h4=>?_⟩
 ·by_cases hj:i=j
  ·subst hj
   rw [List.getElem?_set_self hi] at h1
   cases h1
   rw [es] at h2; cases h2
   exact hs
  ·rw [List.getElem?_set_ne hj] at h1
   have:=I.sl j x o h1 h2
   cases x with
   | own us=>
    obtain ⟨b,us',eb,hb,hgb,h0b,rb⟩:=this
    have hne:b≠a:=by
     rintro rfl
     rw [ha] at hb; cases hb
    exact ⟨b,us',eb,by rw [upd_ne hne]; exact hb,hgb,h0b,rb⟩
   | dic ks=>
    obtain ⟨b,us',eb,hb,hgb,h0b,rb⟩:=this
    have hne:b≠a:=by
     rintro rfl
     rw [ha] at hb; cases hb
    exact ⟨b,us',eb,by rw [upd_ne hne]; exact hb,hgb,h0b,rb⟩
   | dik ks=>exact absurd h1 (noDk_no one)
   | dos ks=>
    obtain ⟨b,us',eb,hb,hgb,h0b,rb⟩:=this
    subst eb
    have hne:b≠a:=by
     rintro rfl
     exact I.nd i j kw ks b hj e h1 es h2
    exact ⟨b,us',rfl,by rw [upd_ne hne]; exact hb,hgb,h0b,rb⟩
   | un=>exact this
   | val _=>exact this
   | par _=>exact this
   | iop _ _=>exact this
   | hz _=>exact this
 ·have key:∀ {k:Nat} {us:List W},(ρ.set i s')[k]?=some (.own us)->ρ[k]?=some (.own us):=fun {k us} hk=>by
   by_cases hik:i=k
   ·subst hik
    rw [List.getElem?_set_self hi] at hk
    cases hk; exact absurd rfl (hs' us)
   ·rw [List.getElem?_set_ne hik] at hk; exact hk
  exact I.ne p q ws1 us c hab (key h1) (key h2) h3 h4
 ·have key:∀ {k:Nat} {us:DW},(ρ.set i s')[k]?=some (.dos us)->∃ us',ρ[k]?=some (.dos us'):=fun {k us} hk=>by
   by_cases hik:i=k
   ·subst hik; exact ⟨kw,e⟩
   ·rw [List.getElem?_set_ne hik] at hk; exact ⟨us,hk⟩
  obtain ⟨w1,k1⟩:=key h1
  obtain ⟨w2,k2⟩:=key h2
  exact I.nd p q w1 w2 c hab k1 k2 h3 h4
theorem PIv.dos_upd {i:Nat} {a:Addr} {kvs':List (Key×V)} {kw kw':DW} (I:PIv K H0 G ρ σ H) (e:ρ[i]?=some (.dos kw)) (es:σ[i]?=some (some (.ref a))) (one:noDk ρ=true) (r:DkR K G kvs' kw'):PIv K H0 G (ρ.set i (.dos kw')) σ (upd H a (.dK kvs')):=by
 obtain ⟨a',kvs,ev,ha,hg,h0,_⟩:=I.sl i _ _ e es
 cases ev
 exact I.dos_chg e es one ⟨a,kvs',rfl,upd_same,hg,h0,r⟩ fun _ z=>by cases z
theorem PIv.dos_in {i:Nat} {a:Addr} {kvs:List (Key×V)} {kw:DW} (I:PIv K H0 G ρ σ H) (hi:i<ρ.length) (es:σ[i]?=some (some (.ref a))) (hn:∀ u,H a=some u->∃ ob w,u=.frz ob w) (hg:G a=none) (h0:H0 a=none) (r:DkR K G kvs kw):PIv K H0 G (ρ.set i (.dos kw)) σ (upd H a (.dK kvs)):=by
 have far:∀ {b:Addr} {u:HO},H b=some u->(∀ ob w,u≠.frz ob w)->b≠a:=fun {b u} hb hu z=>by
  subst z
  obtain ⟨ob,w,q⟩:=hn u hb
  exact hu ob w q
 refine ⟨I.g0,I.gl,fun b o q=>by rw [upd_ne (ne_of_none q hg)]; exact I.gh b o q,fun b o q=>by rw [upd_ne (ne_of_none q h0)]; exact I.hh b o q,by rw [List.length_set]; exact I.len,fun j x o h1 h2=>?_,fun p q ws1 us c hab h1 h2 h3 h4=>?_,fun p q ws1 us c hab h1 h2 h3 h4=>?_⟩
 ·by_cases hj:i=j
  ·subst hj
   rw [List.getElem?_set_self hi] at h1
   cases h1
   rw [es] at h2; cases h2
   exact ⟨a,kvs,rfl,upd_same,hg,h0,r⟩
  ·rw [List.getElem?_set_ne hj] at h1
   have:=I.sl j x o h1 h2
   cases x with
   | own us=>
    obtain ⟨b,us',eb,hb,hgb,h0b,rb⟩:=this
    exact ⟨b,us',eb,by rw [upd_ne (far hb fun _ _ z=>by cases z)]; exact hb,hgb,h0b,rb⟩
   | dic ks=>
    obtain ⟨b,us',eb,hb,hgb,h0b,rb⟩:=this
    exact ⟨b,us',eb,by rw [upd_ne (far hb fun _ _ z=>by cases z)]; exact hb,hgb,h0b,rb⟩
   | dik ks=>
    obtain ⟨b,us',eb,hb,hgb,h0b,rb⟩:=this
    exact ⟨b,us',eb,by rw [upd_ne (far hb fun _ _ z=>by cases z)]; exact hb,hgb,h0b,rb⟩
   | dos ks=>
    obtain ⟨b,us',eb,hb,hgb,h0b,rb⟩:=this
    exact ⟨b,us',eb,by rw [upd_ne (far hb fun _ _ z=>by cases z)]; exact hb,hgb,h0b,rb⟩
   | un=>exact this
   | val _=>exact this
   | par _=>exact this
   | iop _ _=>exact this
   | hz _=>exact this
 ·have key:∀ {k:Nat} {us:List W},(ρ.set i (.dos kw))[k]?=some (.own us)->ρ[k]?=some (.own us):=fun {k us} hk=>by
   by_cases hik:i=k
   ·subst hik
    rw [List.getElem?_set_self hi] at hk
    cases hk
   ·rw [List.getElem?_set_ne hik] at hk; exact hk
  exact I.ne p q ws1 us c hab (key h1) (key h2) h3 h4
 ·have apart:∀ {k:Nat} {us:DW} {b:Addr},i≠k->(ρ.set i (.dos kw))[k]?=some (.dos us)->σ[k]?=some (some (.ref b))->b≠a:=fun {k us b} hik hk hb=>by
   rw [List.getElem?_set_ne hik] at hk
   obtain ⟨b',us',eb,hb',_⟩:=I.sl k _ _ hk hb
   cases eb
   exact far hb' fun _ _ z=>by cases z
  by_cases hp:i=p
  ·subst hp
   rw [es] at h3; cases h3
   exact apart hab h2 h4 rfl
  ·by_cases hq:i=q
   ·subst hq
    rw [es] at h4; cases h4
    exact apart hp h1 h3 rfl
   ·rw [List.getElem?_set_ne hp] at h1
    rw [List.getElem?_set_ne hq] at h2
    exact I.nd p q ws1 us c hab h1 h2 h3 h4
def mDNewS (i:Nat):Rho->R Fl:=fun ρ=>if i<ρ.length then .ok (.nx (ρ.set i (.dos ([],[])))) else .stuck
theorem c_dnewS {i:Nat} (h:tSt K EX d (mDNewS i) D σ H):tAsg tDNewK (gName i) D σ H:=by
 obtain ⟨H0,G,ρ,I,o⟩:=h
 unfold mDNewS at o
 intro p hp
 by_cases hi:i<ρ.length
 ·rw [if_pos hi] at o
  have su:Same H (upd H p (.dK [])):=fun b u q=>by rw [upd_ne (ne_of_none q hp)]; exact q
  have I1:=I.setN (i:=i) (o:=some (.ref p))
  have I2:=PIv.dos_in (i:=i) (a:=p) (kvs:=[]) (kw:=([],[])) I1 (by rw [List.length_set]; exact hi) (by rw [List.getElem?_set_self (by rw [<- I.len]; exact hi)]) (fun u q=>by rw [hp] at q; cases q) (I.gh.free hp) (I.hh.free hp) ⟨rfl,.nil⟩
  rw [List.set_set] at I2
  exact o G _ _ (Same.refl _) I2
 ·rw [if_neg hi] at o; exact o.elim
def dSl:Option Sl->Option DW
 | some (.dos kw)=>some kw
 | some (.par (.dst _ _ ks ws))=>some (ks,ws)
 | some (.val (.dst _ _ ks ws))=>some (ks,ws)
 | _=>none
theorem dst_rd {F:Hp} {z:Bool} {a:Addr} {ks:List Str} {ws:List W} {v:V} (r:Rep K F v (.dst z a ks ws)):v=.ref a/\∃ kvs,Rd F a (.dK kvs)/\DkR K F kvs (ks,ws):=by
 obtain ⟨kvs,ev,h,e,r⟩:=r.inv
 refine ⟨ev,kvs,?_,e,r⟩
 cases z with
 | true=>exact .inr h
 | false=>exact .inl h
theorem Rd.same' {F F':Hp} {a:Addr} {u:HO} (s:Same F F') (h:Rd F a u):Rd F' a u:=by
 rcases h with h | ⟨o,h⟩
 ·exact .inl (s _ _ h)
 ·exact .inr ⟨o,s _ _ h⟩
theorem PIv.dict {i:Nat} {kw:DW} (I:PIv K H0 G ρ σ H) (e:dSl ρ[i]?=some kw):∃ a kvs,σ[i]?=some (some (.ref a))/\Rd H a (.dK kvs)/\DkR K (join H0 G) kvs kw:=by
 cases q:ρ[i]? with
 | none=>rw [q] at e; cases e
 | some s=>
  rw [q] at e
  have hi:i<σ.length:=by rw [<- I.len]; exact (List.getElem?_eq_some_iff.mp q).1
  have es:σ[i]?=some σ[i]:=by simp
  have r:=I.sl i s _ q es
  cases s with
  | dos kw'=>
   cases e
   obtain ⟨a,kvs,ev,ha,_,_,r⟩:=r
   exact ⟨a,kvs,by rw [es,ev],.inl ha,r.same I.G_join⟩
  | par w=>
   cases w <;> first | cases e | skip
   obtain ⟨v,ev,r⟩:=r
   obtain ⟨rfl,kvs,hd,r⟩:=dst_rd r
   exact ⟨_,kvs,by rw [es,ev],Rd.same' I.join_H hd,r⟩
  | val w=>
   cases w <;> first | cases e | skip
   obtain ⟨v,ev,r⟩:=r
   obtain ⟨rfl,kvs,hd,r⟩:=dst_rd r
   exact ⟨_,kvs,by rw [es,ev],Rd.same' I.gh hd,r.same I.G_join⟩
  | _=>cases e
def inS (neg:Bool) (o:Option Sl) (w:W):R Bool:=match dSl o with
 | some kw=>(match w with
  | .str k=>.ok (if neg then !decide (k∈kw.1) else decide (k∈kw.1))
  | _=>.stuck)
 | none=>.stuck
def mInS (neg:Bool) (i:Nat) (mk:Rho->R W):Rho->R Bool:=fun ρ=>mk ρ>>=fun w=>inS neg ρ[i]? w
theorem c_dinS {i:Nat} {mk:Rho->R W} {Q:Bool->Hp->Prop} (h:tT K EX (mInS false i mk) σ H Q):tB (tDIn (tM K EX .B mk) (tVar i)) σ H Q:=by
 obtain ⟨H0,G,ρ,I,o⟩:=h
 refine ⟨H0,G,ρ,I,Out.bind (md:=mdW K .B H0 H) o fun y G1 H1 w e1 m1 o1=>?_⟩
 have I1:=I.ext e1
 unfold inS at o1
 split at o1
 ·rename_i kw e
  split at o1
  ·rename_i k
   obtain ⟨a,kvs,es,ha,r⟩:=I1.dict e
   obtain rfl:=Md.strB m1
   refine ⟨.ref a,es,a,_,rfl,.inl ⟨kvs,.inr k,ha,rfl,rfl⟩,_,rfl,?_⟩
   rw [mem_val r.1]
   exact o1 _ G1 H1 (Ext.refl I1.gh) rfl
  ·exact o1.elim
 ·exact o1.elim
theorem c_dnotinS {i:Nat} {mk:Rho->R W} {Q:Bool->Hp->Prop} (h:tT K EX (mInS true i mk) σ H Q):tB (tDNotIn (tM K EX .B mk) (tVar i)) σ H Q:=by
 obtain ⟨H0,G,ρ,I,o⟩:=h
 refine ⟨H0,G,ρ,I,Out.bind (md:=mdW K .B H0 H) o fun y G1 H1 w e1 m1 o1=>?_⟩
 have I1:=I.ext e1
 unfold inS at o1
 split at o1
 ·rename_i kw e
  split at o1
  ·rename_i k
   obtain ⟨a,kvs,es,ha,r⟩:=I1.dict e
   obtain rfl:=Md.strB m1
   refine ⟨.ref a,es,a,_,rfl,.inl ⟨kvs,.inr k,ha,rfl,rfl⟩,_,rfl,?_⟩
   rw [mem_val r.1]
   exact o1 _ G1 H1 (Ext.refl I1.gh) rfl
  ·exact o1.elim
 ·exact o1.elim
def eLenS (i:Nat):Rho->R W:=fun ρ=>match dSl ρ[i]? with
 | some kw=>if kw.1.length<=1000 then .ok (.int kw.1.length) else .stuck
 | none=>.stuck
def tLenD (i:Nat):TE:=fun σ H Q=>∃ a kvs,σ[i]?=some (some (.ref a))/\Rd H a (.dK kvs)/\Q (.int kvs.length) H
theorem c_lenS {i:Nat} (h:tM K EX d (eLenS i) σ H Q):tLenD i σ H Q:=by
 obtain ⟨H0,G,ρ,I,o⟩:=h
 unfold eLenS at o
 split at o
 ·rename_i kw e
  split at o
  ·obtain ⟨a,kvs,es,ha,r⟩:=I.dict e
   refine ⟨a,kvs,es,ha,?_⟩
   rw [r.len]
   exact o _ G H (Ext.refl I.gh) (Md.sca rfl (fun _=>.int) d)
  ·exact o.elim
 ·exact o.elim
def getS (kw:DW) (w v:W):R W:=match w with
 | .str k=>.ok ((dAt kw.1 kw.2 k).getD v)
 | _=>.stuck
def mGetS (i:Nat) (mk mv:Rho->R W):Rho->R W:=fun ρ=>match ρ[i]? with
 | some (.dos kw)=>mk ρ>>=fun w=>mv ρ>>=fun v=>getS kw w v
 | _=>.stuck
theorem c_getS {i:Nat} {mk mv:Rho->R W} (h:tM K EX .V (mGetS i mk mv) σ H Q):tBM K "dict" rGet (tVar i) (tCons (tM K EX .B mk) (tCons (tM K EX .V mv) tNil)) σ H Q:=by
 obtain ⟨H0,G,ρ,I,o⟩:=h
 unfold mGetS at o
 split at o
 ·rename_i kw e
  obtain ⟨a,kvs,es,ha,hg,h0,r⟩:=I.dos_at e
  refine ⟨.ref a,es,.inr (.inr (.inl ⟨rfl,.inl ⟨kvs,ha⟩⟩)),H0,G,ρ,I,Out.bind (md:=mdW K .B H0 H) o fun y G1 H1 w e1 m1 o1=>⟨H0,G1,ρ,I.ext e1,Out.bind (md:=mdW K .V H0 H1) o1 fun z G2 H2 v e2 m2 o2=>?_⟩⟩
  have I2:=(I.ext e1).ext e2
  unfold getS at o2
  split at o2
  ·rename_i k
   obtain rfl:=Md.strB m1
   refine ⟨a,.inr k,z,kvs,rfl,rfl,.inl (e2.hh _ _ (e1.hh _ _ ha)),?_⟩
   have key:=dAt_val (F:=G2) (x:=k) r.1 ((r.2.same e1.gg).same e2.gg)
   refine o2 _ G2 H2 (Ext.refl I2.gh) ?_
   show Rep K G2 _ _
   revert key
   cases dAt kw.1 kw.2 k with
   | none=>intro key; rw [key]; exact m2
   | some w=>rintro ⟨u,q,ru⟩; rw [q]; exact ru
  ·exact o2.elim
 ·exact o.elim
def mKeysS (i:Nat):Rho->R W:=fun ρ=>match ρ[i]? with
 | some (.dos kw)=>.ok (.lst (kw.1.map W.str))
 | _=>.stuck
def tListD (i:Nat):TE:=fun σ H Q=>∃ a kvs,σ[i]?=some (some (.ref a))/\Rd H a (.dK kvs)/\∀ l,H l=none->Q (.ref l) (upd H l (.lst (kvs.map fun p=>kV p.1)))
theorem c_keysS {i:Nat} (h:tM K EX .F (mKeysS i) σ H Q):tListD i σ H Q:=by
 obtain ⟨H0,G,ρ,I,o⟩:=h
 unfold mKeysS at o
 split at o
 ·rename_i kw e
  obtain ⟨a,kvs,es,ha,hg,h0,r⟩:=I.dos_at e
  refine ⟨a,kvs,es,.inl ha,fun p hp=>?_⟩
  have ek:(kvs.map fun p=>kV p.1)=kw.1.map V.str:=by
   have:=congrArg (List.map kV) r.1
   rw [List.map_map,List.map_map] at this
   exact this
  rw [ek]
  exact Out.newL I (Same.refl _) (reps_str _) hp o
 ·exact o.elim
def mValsS (i:Nat):Rho->R W:=fun ρ=>match ρ[i]? with
 | some (.dos kw)=>.ok (.tup kw.2)
 | _=>.stuck
theorem c_valsS {i:Nat} (h:tM K EX .F (mValsS i) σ H Q):tVals (tVar i) σ H Q:=by
 obtain ⟨H0,G,ρ,I,o⟩:=h
 unfold mValsS at o
 split at o
 ·rename_i kw e
  obtain ⟨a,kvs,es,ha,hg,h0,r⟩:=I.dos_at e
  exact ⟨.ref a,es,a,kvs,rfl,ha,fun p hp=>Out.newTF I r.2 hp o⟩
 ·exact o.elim
def mDit (i:Nat):Rho->R (List W):=fun ρ=>match ρ[i]? with
 | some (.par (.dst true _ ks _))=>.ok (ks.map W.str)
 | _=>.stuck
theorem itok_dic {e:Mode} {a:Addr} {ob:Obj} {kvs:List (Key×V)} {ks:List Str} {Z:Hp} (he:e=.V\/e=.U) (hz:Z a=some (.frz ob (.dK kvs))) (hk:kvs.map (·.1)=ks.map Sum.inr):ItOk K e H0 Z G (Itd a ob kvs) (ks.map W.str):=by
 have hl:kvs.length=ks.length:=by have:=congrArg List.length hk; simpa using this
 refine ⟨fun i H hi s=>⟨s _ _ hz,by rw [hl]; simpa using hi⟩,fun H s=>⟨s _ _ hz,by rw [hl,List.length_map]; exact Nat.le_refl _⟩,fun i H v H' w hw _ zz88 G2 ρ σ I _=>?_⟩
 obtain ⟨e1,p,hp,e2⟩:=zz88
 subst e1; subst e2
 rw [List.getElem?_map] at hw
 have hk':(kvs.map (·.1))[i]?=(ks.map (Sum.inr:Str->Key))[i]?:=by rw [hk]
 rw [List.getElem?_map,List.getElem?_map,hp] at hk'
 cases q:ks[i]? with
 | none=>rw [q] at hw; cases hw
 | some k=>
  rw [q] at hw hk'
  cases hw
  have ek:p.1=Sum.inr k:=Option.some.inj hk'
  rw [ek]
  refine ⟨G2,Ext.refl I.gh,?_⟩
  rcases he with rfl | rfl
  ·exact .str
  ·exact .str
theorem c_iDic {lp:Bool} {e:Mode} {i:Nat} {Rr:It->Hp->Prop} (he:e=.V\/e=.U) (h:tIt K EX lp e (mDit i) σ H Rr):iDic (tVar i) σ H Rr:=by
 obtain ⟨H0,G,ρ,I,o⟩:=h
 unfold mDit at o
 split at o
 ·rename_i a ks ws e
  have hi:i<σ.length:=by rw [<- I.len]; exact (List.getElem?_eq_some_iff.mp e).1
  have es:σ[i]?=some σ[i]:=by simp
  obtain ⟨v,ev,r⟩:=I.sl i _ _ e es
  obtain ⟨kvs,rfl,⟨ob,h⟩,hk,_⟩:=r.inv
  refine ⟨.ref a,by rw [es,ev],a,ob,kvs,rfl,I.join_H _ _ h,o _ G H (Ext.refl I.gh) (itok_dic he ?_ hk)⟩
  cases lp with
  | true=>rw [if_pos rfl]; exact h
  | false=>rw [if_neg Bool.false_ne_true]; exact I.join_H _ _ h
 ·exact o.elim
def putS (kw:DW) (i:Nat) (w v:W) (ρ:Rho):R Fl:=match w with
 | .str k=>if noDk ρ=true/\k∉kw.1/\kw.1.length<1000 then .ok (.nx (ρ.set i (.dos (kw.1 ++ [k],kw.2 ++ [v])))) else .stuck
 | _=>.stuck
def dputS' (o:Option Sl) (re rk:R W) (i:Nat) (ρ:Rho):R Fl:=match o with
 | some (.dos kw)=>re>>=fun v=>rk>>=fun w=>putS kw i w v ρ
 | _=>.stuck
def mPutS (i:Nat) (mk me:Rho->R W):Rho->R Fl:=fun ρ=>dputS' ρ[i]? (me ρ) (mk ρ) i ρ
theorem c_putS {i:Nat} {mk me:Rho->R W} (h:tSt K EX d (mPutS i mk me) D σ H):sDPut (tVar i) (tM K EX .B mk) (tM K EX .V me) D σ H:=by
 obtain ⟨H0,G,ρ,I,o⟩:=h
 unfold mPutS dputS' at o
 split at o
 ·rename_i kw e
  refine ⟨H0,G,ρ,I,OutS.bind I o fun v G1 H1 w1 e1 m1 o1=>?_⟩
  have I1:=I.ext e1
  obtain ⟨a,kvs,es,ha,hg,h0,r⟩:=I1.dos_at e
  refine ⟨.ref a,es,H0,G1,ρ,I1,OutS.bind I1 o1 fun y G2 H2 w e2 m2 o2=>?_⟩
  have I2:=I1.ext e2
  unfold putS at o2
  split at o2
  ·rename_i k
   split at o2
   ·rename_i hc
    obtain rfl:=Md.strB m2
    have hl:=r.len
    refine ⟨a,_,rfl,DPut.k (k:=.inr k) (e2.hh a _ ha) (Nat.lt_of_lt_of_le (show kvs.length<1000 by omega) (by decide)),?_⟩
    exact o2 G2 σ _ (Same.refl _) (I2.dos_upd e es hc.1 (put_new (r.same e2.gg) hc.2.1 (Rep.same e2.gg m1)))
   ·exact o2.elim
  ·exact o2.elim
 ·exact o.elim
end
end TP
namespace TP
open PySem L2
def OutP (K:Frag) (EX:EXT) (H0 G:Hp) (r:R Fl) (D:Ends):Prop:=match r with
 | .ok (.nx ρ)=>∀ G' σ' H',Same G G'->PIv K H0 G' ρ σ' H'->D.nx σ' H'
 | .ok (.rt (.dst false p [k] [w]))=>∃ kvs,H0 p=some (.dK kvs)/\kvs.length<1000/\∀ v G' σ' H',Same G' H'->Same H0 H'->(∀ a o,H0 a=some o->isL o=true->G' a=none)->Rep K G' v w->D.nx σ' (upd H' p (.dK (putK kvs (Sum.inr k) v)))
 | .ex e=>∀ H',Same H0 H'->EX e H'
 | _=>False
def tStP (K:Frag) (EX:EXT) (m:Rho->R Fl):TS:=fun D σ H=>∃ H0 G ρ,PIv K H0 G ρ σ H/\OutP K EX H0 G (m ρ) D
section
variable {K:Frag} {EX:EXT} {H0 G H G1 H1 G2 H2:Hp} {ρ:Rho} {σ:St} {d:Mode} {D:Ends}
theorem OutP.move {r:R Fl} (s:Same G G1) (o:OutP K EX H0 G r D):OutP K EX H0 G1 r D:=by
 unfold OutP at o ⊢
 split at o
 ·exact fun G' σ' H' s' I'=>o G' σ' H' (s.trans s') I'
 ·exact o
 ·exact o
 ·exact o.elim
theorem OutP.bind {α β:Type} {md:α->β->Hp->Hp->Prop} {m:R α} {k:α->R Fl} {Q1:β->Hp->Prop} (I:PIv K H0 G ρ σ H) (o:OutP K EX H0 G (m>>=k) D)
  (h:∀ x G1 H1 w,Ext G H G1 H1->md w x G1 H1->OutP K EX H0 G1 (k w) D->Q1 x H1):Out EX G H md m Q1:=by
 cases m with
 | ok w=>exact fun v G' H' e q=>h v G' H' w e q (OutP.move e.gg o)
 | ex e=>exact fun H' s=>o H' (I.hh.trans s)
 | stuck=>exact o
theorem tStP.toS {m:Rho->R Fl} (h:tStP K EX (nb m) D σ H):tSt K EX d m D σ H:=by
 obtain ⟨H0,G,ρ,I,o⟩:=h
 refine ⟨H0,G,ρ,I,?_⟩
 unfold nb at o
 revert o
 cases m ρ with
 | stuck=>exact id
 | ex e=>exact id
 | ok f=>
  cases f with
  | nx ρ'=>exact id
  | bk ρ'=>exact fun o=>o.elim
  | ct ρ'=>exact fun o=>o.elim
  | rt w=>exact fun o=>o.elim
theorem c_seqP {m n:Rho->R Fl} (h:tStP K EX (mSeq (nb m) n) D σ H):tSeq (tStP K EX (nb m)) (tStP K EX n) D σ H:=by
 obtain ⟨H0,G,ρ,I,o⟩:=h
 refine ⟨H0,G,ρ,I,?_⟩
 unfold mSeq nb at o
 show OutP K EX H0 G (nbR (m ρ)) _
 revert o
 cases m ρ with
 | stuck=>exact id
 | ex e=>exact id
 | ok f=>
  cases f with
  | nx ρ'=>exact fun o G' σ' H' s' I'=>⟨H0,G',ρ',I',OutP.move s' o⟩
  | bk ρ'=>exact fun o=>o.elim
  | ct ρ'=>exact fun o=>o.elim
  | rt w=>exact fun o=>o.elim
def putP (a:Addr) (v w:W):R Fl:=match w with
 | .str k=>.ok (.rt (.dst false a [k] [v]))
 | _=>.stuck
def sPutP (j:Nat) (mk me:Rho->R W):Rho->R Fl:=fun ρ=>match ρ[j]? with
 | some (.par (.dst false a _ _))=>me ρ>>=fun v=>mk ρ>>=fun w=>putP a v w
 | _=>.stuck
theorem c_putP {j:Nat} {mk me:Rho->R W} (h:tStP K EX (sPutP j mk me) D σ H):sDPut (tVar j) (tM K EX .B mk) (tM K EX .V me) D σ H:=by
 obtain ⟨H0,G,ρ,I,o⟩:=h
 unfold sPutP at o
 split at o
 ·rename_i a ks ws e
  have hi:j<σ.length:=by rw [<- I.len]; exact (List.getElem?_eq_some_iff.mp e).1
  have es:σ[j]?=some σ[j]:=by simp
  obtain ⟨v0,ev,r⟩:=I.sl j _ _ e es
  obtain ⟨kvs0,rfl,hj,hk,_⟩:=r.inv
  refine ⟨H0,G,ρ,I,OutP.bind I o fun v G1 H1 w1 e1 m1 o1=>?_⟩
  have I1:=I.ext e1
  refine ⟨.ref a,by rw [es,ev],H0,G1,ρ,I1,OutP.bind I1 o1 fun y G2 H2 w e2 m2 o2=>?_⟩
  have I2:=I1.ext e2
  unfold putP at o2
  split at o2
  ·rename_i k
   obtain rfl:=Md.strB m2
   obtain ⟨kvs,h0,hl,q⟩:=o2
   refine ⟨a,_,rfl,DPut.k (k:=.inr k) (I2.hh a _ h0) (Nat.lt_of_lt_of_le hl (by decide)),?_⟩
   exact q v G2 σ H2 I2.gh I2.hh I2.gl (Rep.same e2.gg m1)
  ·exact o2.elim
 ·exact o.elim
def spP (K:Frag) (n:Nat) (f:List W->R W):Sp:=fun vs H Q E=>vs.length=n/\∃ ws,Reps K H vs ws/\match f ws with
 | .ok (.dst false p [k] [w])=>∃ kvs,H p=some (.dK kvs)/\kvs.length<1000/\∀ v G' H',Same G' H'->Same H H'->(∀ a o,H a=some o->isL o=true->G' a=none)->Rep K G' v w->Q .non (upd H' p (.dK (putK kvs (Sum.inr k) v)))
 | .ex e=>∀ H',Same H H'->XE E e H'
 | _=>False
theorem c_bodyP {n:Nat} {Nl:List Str} {m:Rho->R Fl} {vs:List V} {Q:VK} {E:XK} (h:spP K n (runB n Nl.length m) vs H Q E):tStP K (fun _ _=>False) m { nx:=fun _ H'=>Q .non H',rt:=Q } (L2.start Nl vs) H:=by
 obtain ⟨hl,ws,r,o⟩:=h
 have hw:ws.length=n:=by rw [<- r.length]; exact hl
 unfold runB at o
 rw [if_pos hw] at o
 refine ⟨H,noLH H,_,PIv.begin (k:=Nl.length-n) r (by rw [hl]),?_⟩
 revert o
 cases m (ws.map Sl.par++List.replicate (Nl.length-n) Sl.un) with
 | stuck=>exact id
 | ex e=>exact fun o=>(o H (Same.refl H)).elim
 | ok f=>
  cases f with
  | nx ρ'=>exact fun o=>o.elim
  | bk _=>exact fun o=>o.elim
  | ct _=>exact fun o=>o.elim
  | rt w=>
   intro o
   have o':(match (R.ok w:R W) with
    | .ok (.dst false p [k] [w])=>∃ kvs,H p=some (.dK kvs)/\kvs.length<1000/\∀ v G' H',Same G' H'->Same H H'->(∀ a o,H a=some o->isL o=true->G' a=none)->Rep K G' v w->Q .non (upd H' p (.dK (putK kvs (Sum.inr k) v)))
    | .ex e=>∀ H',Same H H'->XE E e H'
    | _=>False):=o
   split at o'
   ·rename_i p k w0 e
    cases e
    obtain ⟨kvs,h1,h2,q⟩:=o'
    exact ⟨kvs,h1,h2,fun v G' σ' H' a b c d=>q v G' H' a b c d⟩
   ·rename_i e; cases e
   ·exact o'.elim
open Classical in
def pput (f:Addr->R W):Option (Str×W):=if h:∃ kw:Str×W,∀ p,f p=.ok (.dst false p [kw.1] [kw.2]) then some (Classical.choose h) else none
theorem pput_spec {f:Addr->R W} {kw:Str×W} (h:pput f=some kw) (p:Addr):f p=.ok (.dst false p [kw.1] [kw.2]):=by
 unfold pput at h
 split at h
 ·rename_i q
  cases h
  exact Classical.choose_spec q p
 ·cases h
theorem pput_ok {f:Addr->R W} {k:Str} {w:W} (h:∀ p,f p=.ok (.dst false p [k] [w])):pput f=some (k,w):=by
 have hx:∃ kw:Str×W,∀ p,f p=.ok (.dst false p [kw.1] [kw.2]):=⟨(k,w),h⟩
 unfold pput
 rw [dif_pos hx]
 have:=Classical.choose_spec hx (0:Nat)
 rw [h] at this
 cases this
 rfl
def putO (i:Nat) (kw:DW) (ρ:Rho) (o:Option (Str×W)):R Fl:=match o with
 | some (k,w)=>if noDk ρ=true/\k∉kw.1/\kw.1.length<1000 then .ok (.nx (ρ.set i (.dos (kw.1 ++ [k],kw.2 ++ [w])))) else .stuck
 | none=>.stuck
def mCP2 (i:Nat) (f:List W->R W) (m1:Rho->R W):Rho->R Fl:=fun ρ=>m1 ρ>>=fun w1=>match ρ[i]? with
 | some (.dos kw)=>putO i kw ρ (pput fun p=>f [w1,.dst false p kw.1 kw.2])
 | _=>.stuck
theorem c_callP2 {i:Nat} {f:List W->R W} {E:XK} {m1:Rho->R W} (h:tSt K EX d (mCP2 i f m1) D σ H):tDrop (tCall (spP K 2 f) [] E (tCons (tM K EX .B m1) (tCons (tVar i) tNil))) D σ H:=by
 obtain ⟨H0,G,ρ,I,o⟩:=h
 unfold mCP2 at o
 refine ⟨H0,G,ρ,I,OutS.bind I o fun x G1 H1 w1 e1 m1 o1=>?_⟩
 have I1:=I.ext e1
 split at o1
 ·rename_i kw e
  obtain ⟨a,kvs,es,ha,hg,h0,r⟩:=I1.dos_at e
  refine ⟨.ref a,es,?_⟩
  unfold putO at o1
  split at o1
  ·rename_i k w hp
   split at o1
   ·rename_i hc
    refine ⟨rfl,[w1,.dst false a kw.1 kw.2],.cons (m1.whole I1) (.cons (.dst ha r.1 (r.2.same I1.gh)) .nil),?_⟩
    rw [pput_spec hp a]
    have hl:=r.len
    refine ⟨kvs,ha,by omega,fun v G' H' gH sH cl rv=>?_⟩
    obtain ⟨sB',ex⟩:=call_ext I1 sH gH cl
    exact o1 _ σ _ ex.gg ((I1.ext ex).dos_upd e es hc.1 (put_new (r.same ex.gg) hc.2.1 (rv.same sB')))
   ·exact o1.elim
  ·exact o1.elim
 ·exact o1.elim
open Classical in
def pput2 (f:Addr->Addr->R W):Option (Str×W):=if h:∃ kw:Str×W,∀ q p,f q p=.ok (.dst false p [kw.1] [kw.2]) then some (Classical.choose h) else none
theorem pput2_spec {f:Addr->Addr->R W} {kw:Str×W} (h:pput2 f=some kw) (q p:Addr):f q p=.ok (.dst false p [kw.1] [kw.2]):=by
 unfold pput2 at h
 split at h
 ·rename_i q
  cases h
  exact Classical.choose_spec q _ p
 ·cases h
theorem pput2_ok {f:Addr->Addr->R W} {k:Str} {w:W} (h:∀ q p,f q p=.ok (.dst false p [k] [w])):pput2 f=some (k,w):=by
 have hx:∃ kw:Str×W,∀ q p,f q p=.ok (.dst false p [kw.1] [kw.2]):=⟨(k,w),h⟩
 unfold pput2
 rw [dif_pos hx]
 have:=Classical.choose_spec hx (0:Nat) (0:Nat)
 rw [h] at this
 cases this
 rfl
def twoD (a b:Option Sl):Option (DW×DW):=match a,b with
 | some (.dos x),some (.dos y)=>some (x,y)
 | _,_=>none
theorem twoD_of {a b:Option Sl} {p:DW×DW} (h:twoD a b=some p):a=some (.dos p.1)/\b=some (.dos p.2):=by
 unfold twoD at h
 split at h
 ·cases h; exact ⟨rfl,rfl⟩
 ·cases h
def mCP3 (i j:Nat) (f:List W->R W) (m1:Rho->R W):Rho->R Fl:=fun ρ=>match twoD ρ[i]? ρ[j]? with
 | some (kw1,kw2)=>if i≠j/\noDk ρ=true then m1 (ρ.set i .un)>>=fun w1=>putO j kw2 ρ (pput2 fun q p=>f [w1,.dst true q kw1.1 kw1.2,.dst false p kw2.1 kw2.2]) else .stuck
 | none=>.stuck
theorem noDk_set {ρ:Rho} {i:Nat} (h:noDk ρ=true):noDk (ρ.set i .un)=true:=by
 unfold noDk at h ⊢
 rw [List.all_eq_true] at h ⊢
 intro x hx
 rcases List.mem_or_eq_of_mem_set hx with q | q
 ·exact h x q
 ·rw [q]; rfl
def tFreezeE (t:TS):TS:=fun D σ H=>∃ p,tFreeze p t D σ H
theorem ps_freezeE {X:Cx} {st:Stmt} {t:TS} (h:PS X st t):PS X st (tFreezeE t):=fun pins s σ H D I zz89=>by obtain ⟨p,q⟩:=zz89; exact ps_freeze p h pins s σ H D I q
theorem set_back {ρ:Rho} {i j:Nat} {x y:Sl} (e:ρ[i]?=some x) (hij:i≠j):((ρ.set i .un).set j y).set i x=ρ.set j y:=by
 apply List.ext_getElem?
 intro k
 have hi:=(List.getElem?_eq_some_iff.mp e).1
 by_cases hk:i=k
 ·subst hk
  rw [List.getElem?_set_self (by rw [List.length_set,List.length_set]; exact hi),List.getElem?_set_ne (Ne.symm hij),e]
 ·rw [List.getElem?_set_ne hk]
  by_cases hj:j=k
  ·subst hj
   simp only [List.getElem?_set,if_true,List.length_set]
  ·rw [List.getElem?_set_ne hj,List.getElem?_set_ne hk,List.getElem?_set_ne hj]
theorem c_callP3 {i j:Nat} {f:List W->R W} {E:XK} {m1:Rho->R W} (h:tSt K EX d (mCP3 i j f m1) D σ H):tFreezeE (tDrop (tCall (spP K 3 f) [] E (tCons (tM K EX .B m1) (tCons (tVar i) (tCons (tVar j) tNil))))) D σ H:=by
 obtain ⟨H0,G,ρ,I,o⟩:=h
 unfold mCP3 at o
 split at o
 ·rename_i kw1 kw2 tw
  obtain ⟨e1,e2⟩:=twoD_of tw
  dsimp only at e1 e2
  split at o
  ·rename_i hc0
   obtain ⟨hij,one⟩:=hc0
   obtain ⟨a1,kvs1,es1,ha1,hg1,h01,r1⟩:=I.dos_at e1
   refine ⟨a1,kvs1,ha1,fun ob=>?_⟩
   have hi:=(List.getElem?_eq_some_iff.mp e1).1
   have I':=I.dos_chg (u:=.frz ob (.dK kvs1)) (s':=.un) e1 es1 one trivial fun _ z=>by cases z
   refine ⟨H0,G,_,I',OutS.bind I' o fun x G1 H1 w1 ex1 m1 o1=>?_⟩
   have I1:=I'.ext ex1
   have e2':(ρ.set i .un)[j]?=some (.dos kw2):=by rw [List.getElem?_set_ne hij]; exact e2
   obtain ⟨a2,kvs2,es2,ha2,hg2,h02,r2⟩:=I1.dos_at e2'
   have hn12:a1≠a2:=fun z=>by subst z; exact I.nd i j kw1 kw2 a1 hij e1 e2 es1 es2
   have hz1:H1 a1=some (.frz ob (.dK kvs1)):=ex1.hh _ _ upd_same
   have hG1:G1 a1=none:=ex1.keep _ _ upd_same rfl hg1
   refine ⟨.ref a1,es1,.ref a2,es2,?_⟩
   unfold putO at o1
   split at o1
   ·rename_i k w hp
    split at o1
    ·rename_i hc
     refine ⟨rfl,[w1,.dst true a1 kw1.1 kw1.2,.dst false a2 kw2.1 kw2.2],.cons (m1.whole I1) (.cons (.dsz hz1 r1.1 ((r1.2.same ex1.gg).same I1.gh)) (.cons (.dst ha2 r2.1 (r2.2.same I1.gh)) .nil)),?_⟩
     rw [pput2_spec hp a1 a2]
     have hl:=r2.len
     refine ⟨kvs2,ha2,by omega,fun v G' H' gH sH cl rv=>?_⟩
     obtain ⟨sB',ex⟩:=call_ext I1 sH gH cl
     have I2:=(I1.ext ex).dos_upd e2' es2 (noDk_set one) (put_new (r2.same ex.gg) hc.2.1 (rv.same sB'))
     have hz2:upd H' a2 (.dK (putK kvs2 (Sum.inr k) v)) a1=some (.frz ob (.dK kvs1)):=by rw [upd_ne hn12]; exact sH _ _ hz1
     have hGb:both G1 G' a1=none:=by
      unfold both; rw [hG1]; exact cl _ _ hz1 rfl
     have I3:=I2.dos_in (i:=i) (a:=a1) (kvs:=kvs1) (kw:=kw1) (by rw [List.length_set,List.length_set]; exact hi) es1 (fun u q=>by rw [hz2] at q; cases q; exact ⟨_,_,rfl⟩) hGb h01 ((r1.same ex1.gg).same ex.gg)
     rw [set_back e1 hij] at I3
     exact ⟨hz2,o1 _ σ _ ex.gg I3⟩
    ·exact o1.elim
   ·exact o1.elim
  ·exact o.elim
 ·exact o.elim
end
section
variable {X:Cx} {K:Frag} {EX:EXT} {d:Mode} {e k v:Expr} {pos:Pos} {mk me mv:Rho->R W} {m n:Rho->R Fl} {st:Stmt} {sts:List Stmt} {tg:Expr} {lp:Bool}
theorem q_dnewS {i:Nat} {x:Str} {pos' pos2:Pos} (hN:X.N.Nodup) (hi:X.N[i]?=some x) (hx:Loc X.env.scope x)
  (hs:swapsWith (.Dict [] [] pos) (some (.Name x pos')) pos2.line X.env=pure false:=by rfl) (hf:X.fn x=true\/X.env.scope.names.lookup x=some .local:=by first | exact Or.inl rfl | exact Or.inr rfl) :
  PS X (.Assign [.Name x pos'] (.Dict [] [] pos) pos2) (tSt K EX d (mDNewS i)):=(ps_set hN hi hx pe_dnewK hs hf).mono fun _ _ _ q=>c_dnewS q
theorem q_dinS {i:Nat} {x:Str} {p:Pos} (hu:X.A.units+64<cLine) (hN:X.N[i]?=some x) (hv:Vis X.env.scope x) (hk:PE X k (tM K EX .B mk)) (hd:(x == ("__debug__" : Str))=false:=by decide) (hcd:(x == ("__classdict__" : Str))=false:=by decide)
  (hm:behindInMarks .In (.Name x p)=false:=by rfl):PT X (.Compare k [.In] [.Name x p] pos) (tT K EX (mInS false i mk)):=(pt_cmp (pc_din (by omega) hk (pe_var hN hv hd hcd)) hm).mono fun _ _ _ q=>c_dinS q
theorem q_dnotinS {i:Nat} {x:Str} {p:Pos} (hu:X.A.units+64<cLine) (hN:X.N[i]?=some x) (hv:Vis X.env.scope x) (hk:PE X k (tM K EX .B mk)) (hd:(x == ("__debug__" : Str))=false:=by decide) (hcd:(x == ("__classdict__" : Str))=false:=by decide)
  (hm:behindInMarks .NotIn (.Name x p)=false:=by rfl):PT X (.Compare k [.NotIn] [.Name x p] pos) (tT K EX (mInS true i mk)):=(pt_cmp (pc_dnotin (by omega) hk (pe_var hN hv hd hcd)) hm).mono fun _ _ _ q=>c_dnotinS q
theorem call_lenR:CallR X (.builtin "len") (fun xs H Q=>∃ a kvs,xs = [.ref a]/\Rd H a (.dK kvs)/\Q (.int kvs.length) H):=by
 intro pins s σ H xs us Q I r h
 obtain ⟨a,kvs,rfl,ha,q⟩:=h
 obtain ⟨u,rfl,rx⟩:=vals1 r
 cases rx
 exact d_len I ha fun t s' I'=>⟨.int kvs.length,H,I',⟨t,rfl⟩,q⟩
theorem q_lenS {i:Nat} {x:Str} {p p2:Pos} (hg:Gl X "len") (hm:X.mg "len" = none) (hN:X.N[i]?=some x) (hv:Vis X.env.scope x) (hd:(x == ("__debug__" : Str))=false:=by decide) (hcd:(x == ("__classdict__" : Str))=false:=by decide)
  (he:starEach [.Name x p] X.env=(false,eval (.Name x p) X.env)::starEach [] X.env:=by rfl) (hpl:(backTo pos (starEach [] X.env)).any (·.1)=false:=by rfl):PE X (.Call (.Name "len" p2) [.Name x p] [] pos) (tM K EX d (eLenS i)):=
 (pe_callB call_lenR hg hm PySem.boot_len (pa_cons (pe_var hN hv hd hcd) pa_nil he) (by decide) (by decide) he hpl).mono fun σ H Q q=>by
  obtain ⟨a,kvs,es,ha,h⟩:=c_lenS q
  exact ⟨.ref a,es,a,kvs,rfl,ha,h⟩
theorem q_getS {i:Nat} {x:Str} {p apos cpos:Pos} (hN:X.N[i]?=some x) (hv:Vis X.env.scope x) (hk:PE X k (tM K EX .B mk)) (he:PE X v (tM K EX .V mv)) (hK:X.K=K:=by rfl) (hd:(x == ("__debug__" : Str))=false:=by decide) (hcd:(x == ("__classdict__" : Str))=false:=by decide)
  (hbase:attributeBase (.Name x p) "get" X.env (eval (.Name x p) X.env)=eval (.Name x p) X.env:=by rfl)
  (hfew:((backTo cpos (starEach [k,v] X.env)).all (fun x=>!x.1)&&(backToKw cpos (keywordEach [] X.env)).all (fun x=>x.1.isSome)
   && decide (([k,v]:List Expr).length+([]:List Keyword).length+(if ([]:List Keyword).isEmpty then 0 else 1)<30))=true:=by rfl)
  (hline:(apos.endLine == cpos.line)=true:=by rfl) (hs:starEach [k,v] X.env=(false,eval k X.env)::starEach [v] X.env:=by rfl) (hs2:starEach [v] X.env=(false,eval v X.env)::starEach [] X.env:=by rfl) (hplain:(backTo cpos (starEach [v] X.env)).any (·.1)=false:=by rfl) :
  PE X (.Call (.Attribute (.Name x p) "get" apos) [k,v] [] cpos) (tM K EX .V (mGetS i mk mv)):=by
 subst hK; exact (pe_bm PySem.F.plainAttrs_dict PySem.F.slot_dict_get PySem.F.type_dict_get mt_get (pe_var hN hv hd hcd) (pa_cons hk (pa_cons he pa_nil hs2) hs) hbase hfew hline hs hplain).mono fun _ _ _ q=>c_getS q
theorem q_keysS {i:Nat} {x:Str} {p p2:Pos} (hc:X.calm=true) (hg:Gl X "list") (hm:X.mg "list" = none) (hN:X.N[i]?=some x) (hv:Vis X.env.scope x) (hd:(x == ("__debug__" : Str))=false:=by decide) (hcd:(x == ("__classdict__" : Str))=false:=by decide)
  (he:starEach [.Name x p] X.env=(false,eval (.Name x p) X.env)::starEach [] X.env:=by rfl) (hpl:(backTo pos (starEach [] X.env)).any (·.1)=false:=by rfl):PE X (.Call (.Name "list" p2) [.Name x p] [] pos) (tM K EX .F (mKeysS i)):=
 (pe_callTy (call_listD hc) hg hm bt_list (pa_cons (pe_var hN hv hd hcd) pa_nil he) (by decide) (by decide) he hpl).mono fun σ H Q q=>by
  obtain ⟨a,kvs,es,ha,h⟩:=c_keysS q
  exact ⟨.ref a,es,a,kvs,rfl,ha,h⟩
theorem q_valsS {i:Nat} {x:Str} {p p2 apos cpos:Pos} (hc:X.calm=true) (hgl:Gl X "tuple") (hml:X.mg "tuple" = none) (hN:X.N[i]?=some x) (hv:Vis X.env.scope x) (hd:(x == ("__debug__" : Str))=false:=by decide) (hcd:(x == ("__classdict__" : Str))=false:=by decide)
  (hbase:attributeBase (.Name x p) "values" X.env (eval (.Name x p) X.env)=eval (.Name x p) X.env:=by rfl) (hline:(apos.endLine == cpos.line)=true:=by rfl)
  (hs2:starEach [.Call (.Attribute (.Name x p) "values" apos) [] [] cpos] X.env = [(false,eval (.Call (.Attribute (.Name x p) "values" apos) [] [] cpos) X.env)]:=by rfl):PE X (.Call (.Name "tuple" p2) [.Call (.Attribute (.Name x p) "values" apos) [] [] cpos] [] pos) (tM K EX .F (mValsS i)):=
 (pe_tvals hc hgl hml (pe_var hN hv hd hcd) hbase hline hs2).mono fun _ _ _ q=>c_valsS q
theorem q_iDic {i:Nat} {x:Str} {p:Pos} (hN:X.N[i]?=some x) (hv:Vis X.env.scope x) (hd:(x == ("__debug__" : Str))=false:=by decide) (hcd:(x == ("__classdict__" : Str))=false:=by decide):PI X tg (.Name x p) (tIt K EX lp .U (mDit i)):=(pi_dic (pe_var hN hv hd hcd)).mono fun _ _ _ q=>c_iDic (.inr rfl) q
theorem q_dputS {i:Nat} {x:Str} {p p2:Pos} (hu:X.A.units+64<cLine) (hN:X.N[i]?=some x) (hv:Vis X.env.scope x) (hk:PE X k (tM K EX .B mk)) (he:PE X e (tM K EX .V me)) (hd:(x == ("__debug__" : Str))=false:=by decide) (hcd:(x == ("__classdict__" : Str))=false:=by decide)
  (hs:swapsWith e (some (.Subscript (.Name x p) k p2)) pos.line X.env=pure false:=by rfl):PS X (.Assign [.Subscript (.Name x p) k p2] e pos) (tSt K EX d (mPutS i mk me)):=(ps_dput (by omega) (pe_var hN hv hd hcd) hk he hs).mono fun _ _ _ q=>c_putS q
theorem q_putP {i:Nat} {x:Str} {p p2:Pos} (hu:X.A.units+64<cLine) (hN:X.N[i]?=some x) (hv:Vis X.env.scope x) (hk:PE X k (tM K EX .B mk)) (he:PE X e (tM K EX .V me)) (hd:(x == ("__debug__" : Str))=false:=by decide) (hcd:(x == ("__classdict__" : Str))=false:=by decide)
  (hs:swapsWith e (some (.Subscript (.Name x p) k p2)) pos.line X.env=pure false:=by rfl):PS X (.Assign [.Subscript (.Name x p) k p2] e pos) (tStP K EX (sPutP i mk me)):=(ps_dput (by omega) (pe_var hN hv hd hcd) hk he hs).mono fun _ _ _ q=>c_putP q
theorem q_consP (h1:PS X st (tSt K EX d m)) (h2:PSs X sts (tStP K EX n)):PSs X (st::sts) (tStP K EX (mSeq (nb m) n)):=(pss_cons (h1.mono fun _ _ _ q=>tStP.toS q) h2).mono fun _ _ _ q=>c_seqP q
theorem q_lastP (h1:PS X st (tStP K EX m)):PSs X [st] (tStP K EX m):=pss_one h1
theorem q_callP2 {i kk:Nat} {y:Str} {p1 p2 cpos:Pos} {f:Addr} {fd:FuncData} {ps:List Str} {x:Str} {N:Nat} {m:Rho->R Fl} {ma:Rho->R W} (hN:X.N[i]?=some y) (hv:Vis X.env.scope y)
  (F:FnOk X.prog X.w X.K X.mg X.base CX0 kk f fd ps (spP K 2 (runB 2 N m))) (hr:Room kk X.A) (hg:Gl X x) (hm:X.mg x=some (.ref f)) (hk:PySem.W.keepIn X.K (.ref f)=true) (hb:Binds X.K fd ps [])
  (h1:PE X e (tM K (fun _ _=>False) .B ma)) (hd:(y == ("__debug__" : Str))=false:=by decide) (hcd:(y == ("__classdict__" : Str))=false:=by decide)
  (hdb:(x == ("__debug__" : Str))=false:=by decide) (he:starEach [e,.Name y p2] X.env=(false,eval e X.env)::starEach [.Name y p2] X.env:=by rfl) (he2:starEach [.Name y p2] X.env=(false,eval (.Name y p2) X.env)::starEach [] X.env:=by rfl) (hpl:(backTo cpos (starEach [.Name y p2] X.env)).any (·.1)=false:=by rfl)
  (hsw:swapsWith (.Call (.Name x p1) [e,.Name y p2] [] cpos) none pos.line X.env=pure false:=by rfl) :
  PS X (.Expr (.Call (.Name x p1) [e,.Name y p2] [] cpos) pos) (tSt K (fun _ _=>False) d (mCP2 i (runB 2 N m) ma)):=
 (ps_expr (pe_call F hr hg hm hk hb .nil pass0 (pa_cons h1 (pa_cons (pe_var hN hv hd hcd) pa_nil he2) he) hdb he hpl) hsw).mono fun _ _ _ q=>c_callP2 q
theorem q_callP3 {i j kk:Nat} {y z:Str} {p1 p2 p3 cpos:Pos} {f:Addr} {fd:FuncData} {ps:List Str} {x:Str} {N:Nat} {m:Rho->R Fl} {ma:Rho->R W} (hN:X.N[i]?=some y) (hv:Vis X.env.scope y) (hN2:X.N[j]?=some z) (hv2:Vis X.env.scope z)
  (F:FnOk X.prog X.w X.K X.mg X.base CX0 kk f fd ps (spP K 3 (runB 3 N m))) (hr:Room kk X.A) (hg:Gl X x) (hm:X.mg x=some (.ref f)) (hk:PySem.W.keepIn X.K (.ref f)=true) (hb:Binds X.K fd ps [])
  (h1:PE X e (tM K (fun _ _=>False) .B ma)) (hd:(y == ("__debug__" : Str))=false:=by decide) (hcd:(y == ("__classdict__" : Str))=false:=by decide) (hd2:(z == ("__debug__" : Str))=false:=by decide) (hcd2:(z == ("__classdict__" : Str))=false:=by decide)
  (hdb:(x == ("__debug__" : Str))=false:=by decide) (he:starEach [e,.Name y p2,.Name z p3] X.env=(false,eval e X.env)::starEach [.Name y p2,.Name z p3] X.env:=by rfl) (he2:starEach [.Name y p2,.Name z p3] X.env=(false,eval (.Name y p2) X.env)::starEach [.Name z p3] X.env:=by rfl) (he3:starEach [.Name z p3] X.env=(false,eval (.Name z p3) X.env)::starEach [] X.env:=by rfl) (hpl:(backTo cpos (starEach [.Name y p2,.Name z p3] X.env)).any (·.1)=false:=by rfl)
  (hsw:swapsWith (.Call (.Name x p1) [e,.Name y p2,.Name z p3] [] cpos) none pos.line X.env=pure false:=by rfl) :
  PS X (.Expr (.Call (.Name x p1) [e,.Name y p2,.Name z p3] [] cpos) pos) (tSt K (fun _ _=>False) d (mCP3 i j (runB 3 N m) ma)):=
 (ps_freezeE (ps_expr (pe_call F hr hg hm hk hb .nil pass0 (pa_cons h1 (pa_cons (pe_var hN hv hd hcd) (pa_cons (pe_var hN2 hv2 hd2 hcd2) pa_nil he3) he2) he) hdb he hpl) hsw)).mono fun _ _ _ q=>c_callP3 q
end
end TP
namespace TP
open PySem L2
def evens {α:Type}:List α->List α
 | []=>[]
 | [x]=>[x]
 | x::_::r=>x::evens r
theorem evens_pick {α:Type}:∀ l:List α,(List.range ((l.length+1)/2)).filterMap (fun k=>l[2*k]?)=evens l
 | []=>by
  have e:(([]:List α).length+1)/2=0:=by simp
  rw [e]; rfl
 | [x]=>by
  have e:(([x]:List α).length+1)/2=1:=by simp
  rw [e]; rfl
 | x::y::r=>by
  have e:((x::y::r).length+1)/2=(r.length+1)/2+1:=by simp only [List.length_cons]; omega
  rw [e,List.range_succ_eq_map,List.filterMap_cons]
  show x::_=x::evens r
  rw [List.filterMap_map,<- evens_pick r]
  rfl
theorem evens_len {α:Type}:∀ l:List α,(evens l).length<=l.length
 | []=>Nat.le_refl _
 | [x]=>Nat.le_refl _
 | x::y::r=>by have:=evens_len r; simp only [evens,List.length_cons]; omega
theorem evens_vals:∀ {xs:List V} {us:List Value},Vals xs us->Vals (evens xs) (evens us)
 | _,_,.nil=>.nil
 | _,_,.cons h .nil=>.cons h .nil
 | _,_,.cons h (.cons _ t)=>.cons h (evens_vals t)
theorem evens_reps {K:Frag} {F:Hp}:∀ {xs:List V} {ws:List W},Reps K F xs ws->Reps K F (evens xs) (evens ws)
 | [],_,h=>by cases h; exact .nil
 | [_],_,h=>by
  cases h with
  | cons a t=>cases t; exact .cons a .nil
 | _::_::r,_,h=>by
  cases h with
  | cons a t=>cases t with
   | cons b t=>exact .cons a (evens_reps t)
def lo2:Option Int->Option Nat
 | none=>some 0
 | some 1=>some 1
 | _=>none
theorem pick2 (its:List Value) {lo:Option Int} {a:Nat} (h:lo2 lo=some a):slicePick its.toArray lo none (some 2)=(evens (its.drop a)).toArray:=by
 have hb:(sliceBounds lo none (some 2) its.toArray.size)=(((min a its.length:Nat):Int),((its.length:Nat):Int),2):=by
  unfold lo2 at h
  split at h
  ·cases h; simp [sliceBounds]
  ·cases h
   show (max 0 (min (if (1:Int)<0 then 1+(its.toArray.size:Int) else 1) (its.toArray.size:Int)),(its.toArray.size:Int),(2:Int))=_
   rw [List.size_toArray]
   refine Prod.ext ?_ rfl
   show max 0 (min (if (1:Int)<0 then 1+(its.length:Int) else 1) (its.length:Int))=_
   rw [if_neg (by decide)]
   omega
  ·cases h
 unfold slicePick
 rw [hb]
 show ((sliceRange ((min a its.length:Nat):Int) ((its.length:Nat):Int) 2).filterMap (its.toArray[·]?)).toArray=_
 refine congrArg List.toArray ?_
 have hr:sliceRange ((min a its.length:Nat):Int) ((its.length:Nat):Int) 2=(List.range (((its.drop a).length+1)/2)).map fun k=>a+2*k:=by
  unfold sliceRange
  rw [List.length_drop]
  by_cases hl:a<its.length
  ·have h1:((min a its.length:Nat):Int)<(its.length:Int):=by omega
   simp only [show (2:Int)>0 by decide,if_true,h1]
   have e:(((its.length:Int)-((min a its.length:Nat):Int)+2-1)/2).toNat=(its.length-a+1)/2:=by omega
   rw [e]
   refine List.map_congr_left fun k _=>?_
   omega
  ·have h1:¬ ((min a its.length:Nat):Int)<(its.length:Int):=by omega
   simp only [show (2:Int)>0 by decide,if_true,h1,if_false]
   have e:(its.length-a+1)/2=0:=by omega
   rw [e]; rfl
 rw [hr,List.filterMap_map,<- evens_pick]
 refine congrArg (fun f=>List.filterMap f _) (funext fun k=>?_)
 show its.toArray[a+2*k]?=(its.drop a)[2*k]?
 rw [List.getElem?_drop]; simp
def tSl2 (K:Frag) (te:TE) (tl tk:TO):TE:=fun σ H Q=>te σ H fun x H1=>tl σ H1 fun l H2=>tk σ H2 fun k H3=>k=some 2/\∃ a xs b,x=.ref a/\lo2 l=some b/\SqL K H3 a xs/\∀ p,H3 p=none->Q (.ref p) (upd H3 p (.lst (evens (xs.drop b))))
section
open PySem.W PyProof.Rows
variable {X:Cx} {e:Expr} {te:TE} {st:Expr} {tl tk:TO} {pos p2:Pos} {lo:Option Expr}
theorem pe_slice2 (he:PE X e te) (hl:PO X lo tl) (hk:PO X (some st) tk):PE X (.Subscript e (.Slice lo none (some st) p2) pos) (tSl2 X.K te tl tk):=by
 intro pins s σ H Q I h
 refine Subscript_ (thn (he pins s σ H _ I h) fun v s1 zz90=>?_)
 obtain ⟨x,H1,I1,r1,q1⟩:=zz90
 refine wpAny_Slice (thn (hl pins s1 σ H1 _ I1 q1) fun vl s2 zz91=>?_)
 obtain ⟨l,H2,I2,pl,q2⟩:=zz91
 rw [evalPart_none]
 refine wpAny_pure ?_
 refine thn (hk pins s2 σ H2 _ I2 q2) fun vk s3 zz92=>?_
 obtain ⟨k,H3,I3,pk,hk1,a,xs,b,hx0,hlo,hx,q⟩:=zz92
 subst hx0 hk1
 cases r1
 have I4:Inv X pins σ H3 { s3 with heap:=s3.heap.push { cls:=.type "slice",data:=.fields #[vl,.none,vk] } }:=I3.kept (t':=s3.toks) fun b ob q=>Heap.get?_push_of_some _ q
 obtain ⟨its,r,ht,hz⟩:=I4.list hx
 have hlen:=r.length
 show wpAny (model X.prog X.w) X.A (subscriptTail e (.Slice lo none (some st) p2) (.ref a) (.ref s3.heap.objs.size)) (EP X pins σ Q) X.xe { s3 with heap:=s3.heap.push { cls:=.type "slice",data:=.fields #[vl,.none,vk] } }
 refine tail_any (ops:=[.ref a,.ref s3.heap.objs.size]) ht.isList.typeIs slot_list_getitem.lookup ?_ (by with_unfolding_all rfl)
 refine wpAny_getItem_list_slice ht.isList (Heap.IsSliceOf.new ..) pl .none pk (by decide) ?_ (by rw [List.size_toArray] <;> omega)
 rw [pick2 its hlo]
 refine ⟨.ref _,_,I4.laid (t':=s3.toks) (o:=.lst (evens (xs.drop b))) (fun b ob q=>Heap.get?_push_of_some _ q) (Nat.le_refl _) ?_,rfl,q _ (I4.hok.fresh (Nat.le_refl _))⟩
 exact ⟨Nat.le_trans (evens_len _) (by rw [List.length_drop]; omega),_,0,evens_vals (r.drop b),Heap.get?_push_size _ rfl⟩
end
def st2 (c:Bool) (x:W) (l k:Option Int):R W:=if k=some 2 then (match lo2 l with
 | some b=>toR (lstOf x)>>=fun ws=>chks c (evens (ws.drop b))
 | none=>.stuck) else .stuck
def vSt2 (c:Bool) (m:Rho->R W) (ml mk:Rho->R (Option Int)):Rho->R W:=fun ρ=>m ρ>>=fun x=>ml ρ>>=fun l=>mk ρ>>=fun k=>st2 c x l k
section
variable {K:Frag} {EX:EXT} {σ:St} {H:Hp} {Q:VK}
theorem c_st2 {c:Bool} {m:Rho->R W} {ml mk:Rho->R (Option Int)} (h:tM K EX .F (vSt2 c m ml mk) σ H Q):tSl2 K (tM K EX (cb c) m) (tOp_ K EX ml) (tOp_ K EX mk) σ H Q:=by
 obtain ⟨H0,G,ρ,I,o⟩:=h
 refine ⟨H0,G,ρ,I,Out.bind o fun x G1 H1 w e1 m1 o1=>⟨H0,G1,ρ,I.ext e1,Out.bind o1 fun l' G2 H2 l e2 m2 o2=>⟨H0,G2,ρ,(I.ext e1).ext e2,Out.bind o2 fun k' G3 H3 k e3 m3 o3=>?_⟩⟩⟩
 subst m2; subst m3
 have I3:=((I.ext e1).ext e2).ext e3
 unfold st2 at o3
 by_cases hk:k'=some 2
 ·rw [if_pos hk] at o3
  cases ql:lo2 l' with
  | none=>rw [ql] at o3; exact o3.elim
  | some b=>
   rw [ql] at o3
   cases q:lstOf w with
   | none=>rw [q] at o3; exact o3.elim
   | some ws=>
    rw [q] at o3
    obtain ⟨a,vs,ex,hs,r⟩:=Md.lstOf I3 ((m1.move e2).move e3) q
    refine ⟨hk,a,vs,b,ex,rfl,hs,Out.chks I3 ((e1.hh.trans e2.hh).trans e3.hh) (c:=c) ?_ o3⟩
    cases c with
    | true=>rw [if_pos rfl] at r ⊢; exact evens_reps (r.drop b)
    | false=>rw [if_neg Bool.false_ne_true] at r ⊢; exact evens_reps (r.drop b)
 ·rw [if_neg hk] at o3; exact o3.elim
end
section
variable {X:Cx} {K:Frag} {EX:EXT} {e:Expr} {pos:Pos} {ma:Rho->R W}
theorem q_st2 (c:Bool) {lo:Option Expr} {st:Expr} {p2:Pos} {ml mk:Rho->R (Option Int)} (he:PE X e (tM K EX (cb c) ma)) (hl:PO X lo (tOp_ K EX ml)) (hk:PO X (some st) (tOp_ K EX mk)) (hK:X.K=K:=by rfl):PE X (.Subscript e (.Slice lo none (some st) p2) pos) (tM K EX .F (vSt2 c ma ml mk)):=by
 subst hK; exact (pe_slice2 he hl hk).mono fun _ _ _ q=>c_st2 q
end
end TP
namespace TP
open PySem L2
def mK2 (i:Nat) (mt:Rho->R Bool) (ρ:Rho):W->R Fl
 | .tup [u,.lst ys,.lst zs]=>mt (ρ.set i (.val (.tup [u,.lst ys,.lst zs])))>>=fun b=>if b=true then .ok (.rt (.bl false)) else if ys.length<1000 then .ok (.nx (ρ.set i .un)) else .stuck
 | _=>.stuck
def mK1 (i:Nat) (f:List W->R W) (ma:Rho->R (List W)) (mt:Rho->R Bool):Rho->R Fl:=fun ρ=>ma ρ>>=fun ws=>f ws>>=mK2 i mt ρ
def mK (i:Nat) (f:List W->R W) (ma:Rho->R (List W)) (mt:Rho->R Bool):Rho->R Fl:=fun ρ=>if i<ρ.length then mK1 i f ma mt ρ else .stuck
def tK1 (K:Frag) (i:Nat) (c:Str):TS:=tDrop (tApp (tOp (rIxT K) (tVar i) (tC (.int 1))) (tC (.str c)))
def tK2 (K:Frag) (i:Nat):TS:=tDrop (tBM0 K "list" rClear (tOp (rIxT K) (tVar i) (tC (.int 2))))
section
variable {K:Frag} {H0 G H G1 H1:Hp} {ρ:Rho} {σ:St} {d:Mode} {D:Ends}
theorem c_mK {i n:Nat} {c:Str} {f:List W->R W} {E:XK} {ma:Rho->R (List W)} {mt:Rho->R Bool} (hf:∀ ws,f ws≠.stuck->ws.length=n) (hi:i<ρ.length) (I:PIv K H0 G ρ σ H) (o:OutS K (fun _ _=>False) d H0 G (mK1 i f ma mt ρ) D) :
  tSeq (tAsg (tCall (spM K n .V f) [] E (tA K (fun _ _=>False) .B ma)) (gName i)) (tSeq (tIfS (tT K (fun _ _=>False) mt) (tRet (tC (.bl false))) tNext) (tSeq (tK1 K i c) (tK2 K i))) D σ H:=by
 refine ⟨H0,G,ρ,I,OutS.bind I o fun xs G1 H1 ws e1 m1 o1=>?_⟩
 have I1:=I.ext e1
 have r:=MdA.whole I1 m1
 rw [List.append_nil]
 refine ⟨?_,ws,r,?_⟩
 ·rw [r.length]
  refine hf ws fun z=>?_
  rw [z] at o1; exact o1
 revert o1
 cases f ws with
 | stuck=>exact id
 | ex e=>exact fun o1=>(o1 H1 I1.hh).elim
 | ok w=>
  intro o1 v G' H' sH gH cl md
  replace o1:OutS K (fun _ _=>False) d H0 G1 (mK2 i mt ρ w) D:=o1
  unfold mK2 at o1
  split at o1
  ·rename_i u ys zs
   obtain ⟨sB',ex⟩:=call_ext I1 sH gH cl
   have I2:=(I1.ext ex).setV (i:=i) (Rep.same sB' md)
   have es:(σ.set i (some v))[i]?=some (some v):=List.getElem?_set_self (by rw [<- I.len]; exact hi)
   show tSeq (tIfS (tT K (fun _ _=>False) mt) (tRet (tC (.bl false))) tNext) (tSeq (tK1 K i c) (tK2 K i)) D (σ.set i (some v)) H'
   refine ⟨H0,both G1 G',_,I2,?_⟩
   revert o1
   cases mt (ρ.set i (.val (.tup [u,.lst ys,.lst zs]))) with
   | stuck=>exact id
   | ex e=>exact fun o1=>(o1 H' (I1.hh.trans sH)).elim
   | ok b=>
    intro o1 x G3 H3 e3 m3
    cases m3
    have I3:=I2.ext e3
    cases b with
    | true=>exact o1 _ G3 H3 (ex.gg.trans e3.gg) I3.gh I3.hh I3.gl (Md.sca rfl (fun _=>.bl) d)
    | false=>
     replace o1:OutS K (fun _ _=>False) d H0 G1 (if ys.length<1000 then .ok (.nx (ρ.set i .un)) else .stuck) D:=o1
     by_cases hz:ys.length<1000
     ·rw [if_pos hz] at o1
      show tK1 K i c { D with nx:=tK2 K i D } (σ.set i (some v)) H3
      have s13:Same H1 H3:=sH.trans e3.hh
      have fin:∀ H6,Same H1 H6->D.nx (σ.set i (some v)) H6:=fun H6 s6=>o1 G1 _ H6 (Same.refl _) ((I1.ext ⟨Same.refl _,s6,I1.gh.trans s6,fun _ _ _ _ q=>q⟩).put (s:=.un) trivial fun _ q=>by cases q)
      have fresh:∀ {l:Addr} {xs:List V},G' l=some (.lst xs)->H1 l=none:=fun {l xs} gl=>by
       cases q:H1 l with
       | none=>rfl
       | some u=>
        have:=sH l u q
        rw [gH l _ gl] at this
        cases this
        have:=cl l _ q rfl
        rw [gl] at this; cases this
      obtain ⟨t0,vs0,rfl,gt,rt⟩:=(show Rep K G' v _ from md).inv
      cases rt with
      | @cons v0 _ vt _ _ rt=>
      cases rt with
      | @cons v1 _ vt2 _ r1 rt=>
      cases rt with
      | @cons v2 _ vt3 _ r2 rt=>
      cases rt
      cases r1 with
      | @lst l1 y1 _ g1 ry=>
      cases r2 with
      | @lst l2 y2 _ g2 rz=>
      have gt3:H3 t0=some (.tup [v0,.ref l1,.ref l2]):=e3.hh _ _ (gH _ _ gt)
      have g13:H3 l1=some (.lst y1):=e3.hh _ _ (gH _ _ g1)
      have g23:H3 l2=some (.lst y2):=e3.hh _ _ (gH _ _ g2)
      have a1:L2.atI [v0,V.ref l1,V.ref l2] 1=some (.ref l1):=rfl
      have a2:L2.atI [v0,V.ref l1,V.ref l2] 2=some (.ref l2):=rfl
      refine ⟨.ref t0,es,t0,_,1,.ref l1,rfl,rfl,.inl (.inl gt3),a1,l1,rfl,⟨y1,g13⟩,?_⟩
      dsimp only [tC]
      rw [g13]
      dsimp only
      refine ⟨Nat.lt_of_lt_of_le (by rw [ry.length]; exact hz) (by decide),?_⟩
      have ht5:upd H3 l1 (.lst (y1 ++ [.str c])) t0=some (.tup [v0,.ref l1,.ref l2]):=by rw [upd_ne (by rintro rfl; rw [g13] at gt3; cases gt3)]; exact gt3
      obtain ⟨y3,g25⟩:∃ y3,upd H3 l1 (.lst (y1 ++ [.str c])) l2=some (.lst y3):=by
       by_cases q:l2=l1
       ·subst q; exact ⟨_,upd_same⟩
       ·exact ⟨y2,by rw [upd_ne q]; exact g23⟩
      refine ⟨.ref t0,es,t0,_,2,.ref l2,rfl,rfl,.inl (.inl ht5),a2,.inl ⟨rfl,y3,SqL.of g25⟩,l2,y3,rfl,rfl,g25,?_⟩
      refine fin _ fun b o q=>?_
      rw [upd_ne (by rintro rfl; rw [fresh g2] at q; cases q),upd_ne (by rintro rfl; rw [fresh g1] at q; cases q)]
      exact s13 b o q
     ·rw [if_neg hz] at o1; exact o1.elim
  ·exact o1.elim
end
section
variable {X:Cx} {K:Frag} {d:Mode} {e:Expr} {es:List Expr} {pos:Pos} {mr:Rho->R (List W)} {mt:Rho->R Bool}
theorem q_mK {i k n N:Nat} {y x:Str} {f:Addr} {fd:FuncData} {ps:List Str} {m:Rho->R Fl} {pos' p cpos p2 p3 p5:Pos} {c:Expr} {j1:Nat} {ch:Str} {jc:_}
  {q1 q2 q3 q6 apos1 cpos1 pp1:Pos} {k1:Nat} {r1 r2 r3 apos2 cpos2 pp2:Pos} {k4:Nat}
  (hN:X.N.Nodup) (hi:X.N[i]?=some y) (hy:Loc X.env.scope y) (hv:Vis X.env.scope y)
  (F:FnOk X.prog X.w X.K X.mg X.base CX0 k f fd ps (spM K n .V (runB n N m))) (hr:Room k X.A) (hg:Gl X x) (hm:X.mg x=some (.ref f)) (hk:PySem.W.keepIn X.K (.ref f)=true) (hb:Binds X.K fd ps [])
  (ha:PA X (e::es) (tA K (fun _ _=>False) .B mr)) (hc:PT X c (tT K (fun _ _=>False) mt)) (hK:X.K=K:=by rfl)
  (hdb:(x == ("__debug__" : Str))=false:=by decide) (he:starEach (e::es) X.env=(false,eval e X.env)::starEach es X.env:=by rfl) (hpl:(backTo cpos (starEach es X.env)).any (·.1)=false:=by rfl)
  (hs:swapsWith (.Call (.Name x p) (e::es) [] cpos) (some (.Name y pos')) pos.line X.env=pure false:=by rfl) (hf:X.fn y=true\/X.env.scope.names.lookup y=some .local:=by first | exact .inl rfl | exact .inr rfl | assumption)
  (hyd:(y == ("__debug__" : Str))=false:=by decide) (hyc:(y == ("__classdict__" : Str))=false:=by decide)
  (hix1:PlainIx (.Constant (.int 1) k1 q2):=by exact fun _ _=>rfl) (hix2:PlainIx (.Constant (.int 2) k4 r2):=by exact fun _ _=>rfl)
  (hbase:attributeBase (.Subscript (.Name y q1) (.Constant (.int 1) k1 q2) q3) "append" X.env (eval (.Subscript (.Name y q1) (.Constant (.int 1) k1 q2) q3) X.env)=eval (.Subscript (.Name y q1) (.Constant (.int 1) k1 q2) q3) X.env:=by rfl)
  (hfew:((backTo cpos1 (starEach [.Constant (.str ch) jc q6] X.env)).all (fun x=>!x.1)&&(backToKw cpos1 (keywordEach [] X.env)).all (fun x=>x.1.isSome)
   && decide (([.Constant (.str ch) jc q6]:List Expr).length+([]:List Keyword).length+(if ([]:List Keyword).isEmpty then 0 else 1)<30))=true:=by rfl)
  (hline:(apos1.endLine == cpos1.line)=true:=by rfl) (hs1:starEach [.Constant (.str ch) jc q6] X.env=(false,eval (.Constant (.str ch) jc q6) X.env)::starEach [] X.env:=by rfl)
  (hsw:swapsWith (.Call (.Attribute (.Subscript (.Name y q1) (.Constant (.int 1) k1 q2) q3) "append" apos1) [.Constant (.str ch) jc q6] [] cpos1) none pp1.line X.env=pure false:=by rfl)
  (hbase2:attributeBase (.Subscript (.Name y r1) (.Constant (.int 2) k4 r2) r3) "clear" X.env (eval (.Subscript (.Name y r1) (.Constant (.int 2) k4 r2) r3) X.env)=eval (.Subscript (.Name y r1) (.Constant (.int 2) k4 r2) r3) X.env:=by rfl)
  (hline2:(apos2.endLine == cpos2.line)=true:=by rfl)
  (hsw2:swapsWith (.Call (.Attribute (.Subscript (.Name y r1) (.Constant (.int 2) k4 r2) r3) "clear" apos2) [] [] cpos2) none pp2.line X.env=pure false:=by rfl) :
  PSs X [.Assign [.Name y pos'] (.Call (.Name x p) (e::es) [] cpos) pos,.If c [.Return (some (.Constant (.bool false) j1 p2)) p3] [] p5,
   .Expr (.Call (.Attribute (.Subscript (.Name y q1) (.Constant (.int 1) k1 q2) q3) "append" apos1) [.Constant (.str ch) jc q6] [] cpos1) pp1,
   .Expr (.Call (.Attribute (.Subscript (.Name y r1) (.Constant (.int 2) k4 r2) r3) "clear" apos2) [] [] cpos2) pp2] (tSt K (fun _ _=>False) d (mK i (runB n N m) mr mt)):=by
 subst hK
 have h:=pss_cons (ps_set hN hi hy (pe_call F hr hg hm hk hb .nil pass0 ha hdb he hpl) hs hf) (pss_cons (ps_if (pos:=p5) hc (pss_one (ps_ret (pos:=p3) (pe_bl (b:=false) (j:=j1) (pos:=p2)))) pss_nil) (pss_cons (ps_expr (pe_append (pe_ix ix_tup (pe_var hi hv hyd hyc) pe_int hix1) pe_str hbase hfew hline hs1) hsw)
  (pss_one (ps_expr (pe_bm0 PySem.F.plainAttrs_list PySem.F.slot_list_clear PySem.F.type_list_clear mt_clear (pe_ix ix_tup (pe_var hi hv hyd hyc) pe_int hix2) hbase2 hline2) hsw2))))
 refine PSs.mono h fun D σ H q=>?_
 obtain ⟨H0,G,ρ,I,o⟩:=q
 unfold mK at o
 by_cases hl:i<ρ.length
 ·rw [if_pos hl] at o
  exact c_mK (fun ws h=>runB_len ws h) hl I o
 ·rw [if_neg hl] at o; exact o.elim
end
end TP
namespace L2
open PySem PySem.Spec PyProof.Rows
def Itr2 (lo:Int) (n:Nat):It:=⟨fun i _=>i<n,fun i H x H'=>H'=H/\x=.int (lo+i*2),fun i _=>n<=i⟩
theorem turn_range2 {P:Program} {w:World} {K:Frag} {tg:Expr} (it:Addr) (lo:Int) (n:Nat):Turn P w K tg (Itr2 lo n) [it] it (fun i h=>IsRangeIter h it (lo+(i:Nat)*2) ((n:Int)-(i:Nat)) 2) where
 mem:=by simp
 obj:=fun i h st b hb=>by
  have e:b=it:=by simpa using hb
  subst e
  exact ⟨_,st,fun v z=>by
   have z':Data.fields _=Data.cell v:=z
   cases z'⟩
 keep:=fun i h h' st k=>k it (by simp) _ st
 item:=by
  intro X hP hw hK hc i pins s σ H E I hf st hg
  subst hP hw hK
  obtain ⟨f0,f1,f2,f3,f4,f5⟩:=hf it (by simp)
  have W:=Walks.range (prog:=X.prog) (w:=X.w) (I.ok.hd hc) it lo 2 n
  refine W.item i s _ _ hg st fun v h' tk hv st' kk=>?_
  obtain ⟨t,rfl⟩:=hv
  have I1:Inv X pins σ H { s with heap:=h',toks:=tk }:=I.turned (fun b o hb e=>kk b o (by simpa using hb) e) f0 f1 f3 f4 f5
  exact ⟨_,rfl,go_of (s:={ s with heap:=h',toks:=tk }) (n := "range_iterator") st' rfl rfl (by decide) ⟨.int (lo+i*2),H,I1,⟨t,rfl⟩,⟨rfl,rfl⟩,st',fun b hb=>(hf b hb).1⟩⟩
 done:=by
  intro X hP hw hK hc i pins s σ H E I hf st hg
  subst hP hw hK
  obtain ⟨f0,f1,f2,f3,f4,f5⟩:=hf it (by simp)
  exact wpAny_pyNext_range_end (I.ok.hd hc) st (by have:n<=i:=hg; omega) fun h' eb=>⟨rfl,I.turned (t':=s.toks) (fun b o hb e=>eb b o hb e) f0 f1 f3 f4 f5⟩
 self:=fun _ _ _ _ _ st h=>wpAny_pyIter_rangeiter st h
def iRng3 (ta:TA):TI:=fun σ H R=>ta σ H fun vs H1=>∃ i j:Int,vs = [.int i,.int j,.int 2]/\(-1000000<=i/\i<=1000000 /\ -1000000<=j/\j<=1000000)/\R (Itr2 i ((j-i+1)/2).toNat) H1
section
variable {X:Cx} {tg:Expr}
theorem size2 {i j:Int}:Builtin.Range.rangeSize i j 2=(((j-i+1)/2).toNat:Int):=by
 unfold Builtin.Range.rangeSize
 rw [if_pos (by decide)]
 split <;> omega
theorem small2 {i j:Int} (h:-1000000<=i/\i<=1000000 /\ -1000000<=j/\j<=1000000):Builtin.Range.small i j 2=true:=by
 unfold Builtin.Range.small
 rw [size2]
 simp only [Builtin.Range.rangeFitsLong,Bool.and_eq_true,Bool.or_eq_true,decide_eq_true_eq,beq_iff_eq,show (2:Int)>0 by decide,if_true]
 omega
theorem pi_range3 {a b c:Expr} {ta:TA} {p pos:Pos} (hg:Gl X "range") (hm:X.mg "range" = none) (ha:PA X [a,b,c] ta) (hs:starEach [a,b,c] X.env = [(false,eval a X.env),(false,eval b X.env),(false,eval c X.env)]:=by rfl) (hs2:starEach [b,c] X.env = [(false,eval b X.env),(false,eval c X.env)]:=by rfl) :
  PI X tg (.Call (.Name "range" p) [a,b,c] [] pos) (iRng3 ta):=by
 intro pins s σ H R I h
 refine Call_ (ld_blt I hg hm boot_range (PyProof.Rows.callWith_type1 (thn (ha pos pins s σ H _ I h) fun us s1 zz93=>?_) (by rw [hs,hs2]) (by rw [hs2]; rfl)))
 obtain ⟨vs,H1,I1,r1,q1⟩:=zz93
 obtain ⟨i,j,e,hb,q⟩:=q1
 subst e
 cases r1 with
 | cons r rr=>
  cases rr with
  | cons r' rr=>
   cases rr with
   | cons r'' rr=>
    cases rr
    obtain ⟨t,rfl⟩:=r
    obtain ⟨t',rfl⟩:=r'
    obtain ⟨t'',rfl⟩:=r''
    refine PySem.call_range_3 (by decide) ?_ (.inl (PyProof.noPylong_small (by decide)))
    refine wpAny_pyIter_range (IsRange.new ..) (small2 hb) ?_
    have I2:Inv X pins σ H1 { s1 with heap:=s1.heap.push { cls:=.type "range",data:=.fields #[.int i t,.int j t',.int 2 t''] },toks:=s1.toks }:=I1.kept fun b o e=>Heap.get?_push_of_some _ e
    refine ⟨(s1.heap.push { cls:=.type "range",data:=.fields #[.int i t,.int j t',.int 2 t''] }).objs.size,[(s1.heap.push { cls:=.type "range",data:=.fields #[.int i t,.int j t',.int 2 t''] }).objs.size],_,_,H1,rfl,
     I2.kept (t':=s1.toks) fun b o e=>Heap.get?_push_of_some _ e,turn_range2 _ i ((j-i+1)/2).toNat,?_,fun b hb=>?_,q⟩
    ·have e1:i+((0:Nat):Int)*2=i:=by simp
     have e2:((((j-i+1)/2).toNat:Nat):Int)-((0:Nat):Int)=Builtin.Range.rangeSize i j 2:=by rw [size2]; omega
     show IsRangeIter _ _ (i+((0:Nat):Int)*2) (((((j-i+1)/2).toNat:Nat):Int)-((0:Nat):Int)) 2
     rw [e1,e2]
     exact Heap.get?_push_size _ rfl
    ·have e:b=(s1.heap.push { cls:=.type "range",data:=.fields #[.int i t,.int j t',.int 2 t''] }).objs.size:=by simpa using hb
     subst e
     exact I2.fpOk (Nat.le_refl _) (I2.hok.fresh (Nat.le_refl _))
end
end L2
namespace TP
open PySem L2
def rng3:List W->R (List W)
 | [.int i,.int j,.int k]=>if k=2 /\ -1000000<=i/\i<=1000000 /\ -1000000<=j/\j<=1000000 then .ok ((List.range ((j-i+1)/2).toNat).map fun k=>W.int (i+(k:Nat)*2)) else .stuck
 | _=>.stuck
section
variable {K:Frag} {EX:EXT} {H0 G H G1 H1:Hp} {ρ:Rho} {σ:St}
theorem itok_rng2 {e:Mode} {Z:Hp} {lo:Int} {n:Nat} (he:e=.V\/e=.U):ItOk K e H0 Z G (Itr2 lo n) ((List.range n).map fun k=>W.int (lo+(k:Nat)*2)):=by
 refine ⟨fun i H hi _=>by show i<n; simpa using hi,fun H _=>by simp [Itr2],fun i H x H' w hw _ zz94 G2 ρ σ I _=>?_⟩
 obtain ⟨e1,e2⟩:=zz94
 subst e1; subst e2
 rw [List.getElem?_map] at hw
 cases q:(List.range n)[i]? with
 | none=>rw [q] at hw; cases hw
 | some k=>
  rw [q] at hw
  have hk:k=i:=by
   have:=List.getElem?_eq_some_iff.mp q
   obtain ⟨h1,h2⟩:=this
   rw [List.getElem_range] at h2; exact h2.symm
  subst hk
  cases hw
  refine ⟨G2,Ext.refl I.gh,?_⟩
  rcases he with rfl | rfl
  ·exact .int
  ·exact .int
theorem c_rng3 {lp:Bool} {e:Mode} {ma:Rho->R (List W)} {Rr:It->Hp->Prop} (he:e=.V\/e=.U) (h:tIt K EX lp e (bI rng3 ma) σ H Rr):iRng3 (tA K EX .B ma) σ H Rr:=by
 refine tIt_bind h (fun H0 G ρ G1 H1 xs ws us I e1 m1 q o=>?_) (fun ws e z=>?_)
 ·unfold rng3 at q
  split at q
  ·rename_i i j k
   split at q
   ·rename_i hc
    cases q
    cases m1 with
    | cons a t=>cases t with
     | cons b t=>cases t with
      | cons c t=>
       cases t
       rw [a.intB,b.intB,c.intB,hc.1]
       exact ⟨i,j,rfl,hc.2,o _ G1 H1 e1 (itok_rng2 he)⟩
   ·cases q
  ·cases q
 ·unfold rng3 at z
  split at z
  ·split at z <;> cases z
  ·cases z
end
section
variable {X:Cx} {K:Frag} {EX:EXT} {tg:Expr} {lp:Bool} {pos:Pos} {mr:Rho->R (List W)}
theorem q_rng3 {a b c:Expr} {p:Pos} (hg:Gl X "range") (hm:X.mg "range" = none) (ha:PA X [a,b,c] (tA K EX .B mr)) (hs:starEach [a,b,c] X.env = [(false,eval a X.env),(false,eval b X.env),(false,eval c X.env)]:=by rfl) (hs2:starEach [b,c] X.env = [(false,eval b X.env),(false,eval c X.env)]:=by rfl):PI X tg (.Call (.Name "range" p) [a,b,c] [] pos) (tIt K EX lp .U (bI rng3 mr)):=
 (pi_range3 hg hm ha hs hs2).mono fun _ _ _ q=>c_rng3 (.inr rfl) q
end
end TP
namespace TP
open PySem L2
abbrev tI (ns:List Int):W:=.tup (ns.map W.int)
abbrev lI (ns:List Int):W:=.lst (ns.map W.int)
theorem noLs_ints (ns:List Int):noLs (ns.map W.int)=true:=by
 induction ns with
 | nil=>rfl
 | cons n ns ih=>rw [List.map_cons]; simp only [noLs,noL,ih,Bool.and_self]
theorem fEqS_ii (n:Bool) (i j:Int):fEqS n (.int i) (.int j)=.ok (.bl (if n then !decide (i=j) else decide (i=j))):=by
 show R.ok (W.bl (if n then !decide (V.int i=V.int j) else decide (V.int i=V.int j)))=_
 rw [show decide (V.int i=V.int j)=decide (i=j) from decide_eq_decide.mpr ⟨V.int.inj,congrArg _⟩]
theorem fEqS_bb (n:Bool) (i j:Bool):fEqS n (.bl i) (.bl j)=.ok (.bl (if n then !decide (i=j) else decide (i=j))):=by
 show R.ok (W.bl (if n then !decide (V.bl i=V.bl j) else decide (V.bl i=V.bl j)))=_
 rw [show decide (V.bl i=V.bl j)=decide (i=j) from decide_eq_decide.mpr ⟨V.bl.inj,congrArg _⟩]
theorem fEqS_ss (n:Bool) (i j:Str):fEqS n (.str i) (.str j)=.ok (.bl (if n then !decide (i=j) else decide (i=j))):=by
 show R.ok (W.bl (if n then !decide (V.str i=V.str j) else decide (V.str i=V.str j)))=_
 rw [show decide (V.str i=V.str j)=decide (i=j) from decide_eq_decide.mpr ⟨V.str.inj,congrArg _⟩]
theorem fEqS_nn (n:Bool):fEqS n .non .non=.ok (.bl (!n)):=by cases n <;> rfl
theorem fEqS_ni (n:Bool) (i:Int):fEqS n .non (.int i)=.ok (.bl n):=by cases n <;> rfl
theorem fEqS_in (n:Bool) (i:Int):fEqS n (.int i) .non=.ok (.bl n):=by cases n <;> rfl
theorem atW {ns:List Int} {i:Int} (h0:0<=i) (h1:i<ns.length):L2.atI (ns.map W.int) i=some (.int (ns.getD i.toNat 0)):=by
 unfold L2.atI
 rw [List.length_map,ixN_int h0 h1]
 show (ns.map W.int)[i.toNat]?=_
 rw [List.getElem?_map,some_getD (by omega)]; rfl
theorem atW_nat {ns:List Int} {k:Nat} (h1:k<ns.length):L2.atI (ns.map W.int) (k:Int)=some (.int (ns.getD k 0)):=by
 have:=atW (ns:=ns) (i:=(k:Int)) (by omega) (by omega)
 rw [Int.toNat_natCast] at this; exact this
def andThen (r:R Fl) (n:Rho->R Fl):R Fl:=r>>=fun f=>match f with
 | .nx ρ'=>n ρ'
 | .rt w=>.ok (.rt w)
 | .bk ρ'=>.ok (.bk ρ')
 | .ct ρ'=>.ok (.ct ρ')
theorem mSeq_ap (m n:Rho->R Fl) (ρ:Rho):mSeq m n ρ=andThen (m ρ) n:=rfl
theorem andThen_nx (ρ:Rho) (n:Rho->R Fl):andThen (.ok (.nx ρ)) n=n ρ:=rfl
theorem andThen_rt (w:W) (n:Rho->R Fl):andThen (.ok (.rt w)) n=.ok (.rt w):=rfl
theorem andThen_bk (ρ:Rho) (n:Rho->R Fl):andThen (.ok (.bk ρ)) n=.ok (.bk ρ):=rfl
theorem andThen_ct (ρ:Rho) (n:Rho->R Fl):andThen (.ok (.ct ρ)) n=.ok (.ct ρ):=rfl
theorem mC_ap (w:W) (ρ:Rho):mC w ρ=.ok w:=rfl
theorem b1_ap (f:W->R W) (ma:Rho->R W) (ρ:Rho):b1 f ma ρ=(ma ρ>>=f):=rfl
def R2b (a b:R W) (f:W->W->R W):R W:=a>>=fun x=>b>>=fun y=>f x y
theorem b2_ap (f:W->W->R W) (ma mb:Rho->R W) (ρ:Rho):b2 f ma mb ρ=R2b (ma ρ) (mb ρ) f:=rfl
theorem R2b_ok (x y:W) (f:W->W->R W):R2b (.ok x) (.ok y) f=f x y:=rfl
theorem bA_ap (f:List W->R W) (ma:Rho->R (List W)) (ρ:Rho):bA f ma ρ=(ma ρ>>=f):=rfl
theorem bI_ap (f:List W->R (List W)) (ma:Rho->R (List W)) (ρ:Rho):bI f ma ρ=(ma ρ>>=f):=rfl
theorem bS_ap (ma:Rho->R W) (ρ:Rho):bS ma ρ=(ma ρ>>=seqW):=rfl
theorem aN_ap (ρ:Rho):aN ρ=.ok []:=rfl
def Rcons (a:R W) (b:R (List W)):R (List W):=a>>=fun x=>b>>=fun xs=>.ok (x::xs)
theorem aC_ap (ma:Rho->R W) (mr:Rho->R (List W)) (ρ:Rho):aC ma mr ρ=Rcons (ma ρ) (mr ρ):=rfl
theorem Rcons_ok (x:W) (xs:List W):Rcons (.ok x) (.ok xs)=.ok (x::xs):=rfl
theorem bChk_ap (ma:Rho->R W) (ρ:Rho):bChk ma ρ=(ma ρ>>=chk):=rfl
theorem bTest_ap (ma:Rho->R W) (ρ:Rho):bTest ma ρ=(ma ρ>>=toB):=rfl
theorem tAnd_ap (a b:Rho->R Bool) (ρ:Rho):tAnd' a b ρ=rAnd (a ρ) (b ρ):=rfl
theorem tOr_ap (a b:Rho->R Bool) (ρ:Rho):tOr' a b ρ=rOr (a ρ) (b ρ):=rfl
theorem tNot_ap (a:Rho->R Bool) (ρ:Rho):tNot' a ρ=rNot (a ρ):=rfl
theorem rAnd_ok (x y:Bool):rAnd (.ok x) (.ok y)=.ok (x&&y):=by cases x <;> rfl
theorem rAnd_ff (r:R Bool):rAnd (.ok false) r=.ok false:=rfl
theorem rAnd_tt (r:R Bool):rAnd (.ok true) r=r:=rfl
theorem rOr_ok (x y:Bool):rOr (.ok x) (.ok y)=.ok (x||y):=by cases x <;> rfl
theorem rOr_tt (r:R Bool):rOr (.ok true) r=.ok true:=rfl
theorem rOr_ff (r:R Bool):rOr (.ok false) r=r:=rfl
theorem rNot_ok (x:Bool):rNot (.ok x)=.ok (!x):=rfl
theorem vAnd_ap (a b:Rho->R W) (ρ:Rho):vAnd a b ρ=rAndV (a ρ) (b ρ):=rfl
theorem vOr_ap (a b:Rho->R W) (ρ:Rho):vOr a b ρ=rOrV (a ρ) (b ρ):=rfl
theorem vNot_ap (a:Rho->R W) (ρ:Rho):vNot a ρ=rNotV (a ρ):=rfl
theorem rAndV_ok (x y:Bool):rAndV (.ok (.bl x)) (.ok (.bl y))=.ok (.bl (x&&y)):=by cases x <;> rfl
theorem rAndV_ff (r:R W):rAndV (.ok (.bl false)) r=.ok (.bl false):=rfl
theorem rAndV_tt (r:R W):rAndV (.ok (.bl true)) r=r:=rfl
theorem rOrV_ok (x y:Bool):rOrV (.ok (.bl x)) (.ok (.bl y))=.ok (.bl (x||y)):=by cases x <;> rfl
theorem rOrV_tt (r:R W):rOrV (.ok (.bl true)) r=.ok (.bl true):=rfl
theorem rOrV_ff (r:R W):rOrV (.ok (.bl false)) r=r:=rfl
theorem rNotV_ok (x:Bool):rNotV (.ok (.bl x))=.ok (.bl (!x)):=rfl
def rIfW (c:R Bool) (a b:R W):R W:=c>>=fun t=>if t then a else b
theorem vIf_ap (c:Rho->R Bool) (a b:Rho->R W) (ρ:Rho):vIf c a b ρ=rIfW (c ρ) (a ρ) (b ρ):=rfl
theorem rIfW_tt (a b:R W):rIfW (.ok true) a b=a:=rfl
theorem rIfW_ff (a b:R W):rIfW (.ok false) a b=b:=rfl
theorem rIfW_ok (t:Bool) (x y:W):rIfW (.ok t) (.ok x) (.ok y)=.ok (if t then x else y):=by cases t <;> rfl
def Rchain (f f':W->W->R W) (a b c:R W):R W:=a>>=fun x=>b>>=fun y=>f x y>>=fun z=>toB z>>=fun t=>if t then c>>=fun u=>f' y u else .ok (.bl false)
theorem vChain_ap (f f':W->W->R W) (ma mb mc:Rho->R W) (ρ:Rho):vChain f f' ma mb mc ρ=Rchain f f' (ma ρ) (mb ρ) (mc ρ):=rfl
theorem Rchain_ii (g g':Int->Int->Bool) (i j k:Int):Rchain (fI0 fun i j=>.bl (g i j)) (fI0 fun i j=>.bl (g' i j)) (.ok (.int i)) (.ok (.int j)) (.ok (.int k))=.ok (.bl (g i j&&g' j k)):=by
 unfold Rchain
 show (if g i j=true then _ else _)=_
 cases h:g i j <;> simp [fI0]
def mkTup (ws:List W):R W:=lim ws.length (.tup ws)
def mkLst (ws:List W):R W:=lim ws.length (.lst ws)
theorem vTup_ap (ma:Rho->R (List W)) (ρ:Rho):vTup ma ρ=(ma ρ>>=mkTup):=rfl
theorem vLst_ap (ma:Rho->R (List W)) (ρ:Rho):vLst ma ρ=(ma ρ>>=mkLst):=rfl
theorem pN_ap (ρ:Rho):pN ρ=.ok none:=rfl
theorem pS_ap (m:Rho->R W) (ρ:Rho):pS m ρ=(m ρ>>=partW):=rfl
theorem partW_int (i:Int):partW (.int i)=.ok (some i):=rfl
def Rsl (c:Bool) (x:R W) (l u:R (Option Int)):R W:=x>>=fun x=>l>>=fun l=>u>>=fun u=>toR (lstOf x)>>=fun ws=>chks c (cutW ws l u)
theorem vSl_ap (c:Bool) (m:Rho->R W) (ml mh:Rho->R (Option Int)) (ρ:Rho):vSl c m ml mh ρ=Rsl c (m ρ) (ml ρ) (mh ρ):=rfl
theorem Rsl_lst (c:Bool) (ws:List W) (l u:Option Int):Rsl c (.ok (.lst ws)) (.ok l) (.ok u)=chks c (cutW ws l u):=rfl
theorem Rsl_scr (c:Bool) (ws:List W) (l u:Option Int):Rsl c (.ok (.scr ws)) (.ok l) (.ok u)=chks c (cutW ws l u):=rfl
def Rcomp (r:R (List W)) (n:Nat) (mg:W->Rho->Option Rho) (mc:Rho->R Bool) (me:Rho->R W) (ρ:Rho):R W:=r>>=fun ws=>mComp n mg mc me ws ρ
theorem vComp_ap (n:Nat) (mi:Rho->R (List W)) (mg:W->Rho->Option Rho) (mc:Rho->R Bool) (me:Rho->R W) (ρ:Rho):vComp n mi mg mc me ρ=Rcomp (mi ρ) n mg mc me ρ:=rfl
theorem Rcomp_ok (ws:List W) (n:Nat) (mg:W->Rho->Option Rho) (mc:Rho->R Bool) (me:Rho->R W) (ρ:Rho):Rcomp (.ok ws) n mg mc me ρ=mComp n mg mc me ws ρ:=rfl
theorem sNx_ap (ρ:Rho):sNx ρ=.ok (.nx ρ):=rfl
theorem sBk_ap (ρ:Rho):sBk ρ=.ok (.bk ρ):=rfl
theorem sCt_ap (ρ:Rho):sCt ρ=.ok (.ct ρ):=rfl
def Rdrop (r:R W) (ρ:Rho):R Fl:=r>>=fun _=>.ok (.nx ρ)
theorem sDrop_ap (m:Rho->R W) (ρ:Rho):sDrop m ρ=Rdrop (m ρ) ρ:=rfl
theorem Rdrop_ok (w:W) (ρ:Rho):Rdrop (.ok w) ρ=.ok (.nx ρ):=rfl
def retK (w:W):R Fl:=.ok (.rt w)
theorem sRet_ap (m:Rho->R W) (ρ:Rho):sRet m ρ=(m ρ>>=retK):=rfl
theorem retK_ap (w:W):retK w=.ok (.rt w):=rfl
theorem sRetN_ap (ρ:Rho):sRetN ρ=.ok (.rt .non):=rfl
def Rset (r:R W) (f:W->Sl) (i:Nat) (ρ:Rho):R Fl:=r>>=fun w=>.ok (.nx (ρ.set i (f w)))
theorem sV_ap (i:Nat) (m:Rho->R W) (ρ:Rho):sV i m ρ=Rset (m ρ) Sl.val i ρ:=rfl
theorem sU_ap (i:Nat) (m:Rho->R W) (ρ:Rho):sU i m ρ=Rset (m ρ) Sl.par i ρ:=rfl
theorem sF_ap (i:Nat) (m:Rho->R W) (ρ:Rho):sF i m ρ=Rset (m ρ) slotF i ρ:=rfl
theorem Rset_ok (w:W) (f:W->Sl) (i:Nat) (ρ:Rho):Rset (.ok w) f i ρ=.ok (.nx (ρ.set i (f w))):=rfl
theorem slotF_lst (ws:List W):slotF (.lst ws)=.own ws:=rfl
theorem slotF_tup (ws:List W):slotF (.tup ws)=.val (.tup ws):=rfl
theorem slotF_int (i:Int):slotF (.int i)=.val (.int i):=rfl
theorem slotF_bl (i:Bool):slotF (.bl i)=.val (.bl i):=rfl
theorem slotF_non:slotF .non=.val .non:=rfl
theorem slotF_str (i:Str):slotF (.str i)=.val (.str i):=rfl
def toNx:Option Rho->R Fl
 | some ρ=>.ok (.nx ρ)
 | none=>.stuck
def Rasg (r:R W) (mg:W->Rho->Option Rho) (ρ:Rho):R Fl:=r>>=fun w=>toR (mg w ρ)>>=fun ρ'=>.ok (.nx ρ')
theorem sG_ap (mg:W->Rho->Option Rho) (m:Rho->R W) (ρ:Rho):sG mg m ρ=Rasg (m ρ) mg ρ:=rfl
theorem Rasg_ok (w:W) (mg:W->Rho->Option Rho) (ρ:Rho):Rasg (.ok w) mg ρ=toNx (mg w ρ):=by
 show (toR (mg w ρ)>>=_)=_
 cases mg w ρ <;> rfl
theorem toNx_some (ρ:Rho):toNx (some ρ)=.ok (.nx ρ):=rfl
def Rfor (r:R (List W)) (mg:W->Rho->Option Rho) (mb:Rho->R Fl) (ρ:Rho):R Fl:=r>>=fun ws=>mFor mg mb ws ρ
theorem sFor_ap (mi:Rho->R (List W)) (mg:W->Rho->Option Rho) (mb:Rho->R Fl) (ρ:Rho):sFor mi mg mb ρ=Rfor (mi ρ) mg mb ρ:=rfl
theorem Rfor_ok (ws:List W) (mg:W->Rho->Option Rho) (mb:Rho->R Fl) (ρ:Rho):Rfor (.ok ws) mg mb ρ=mFor mg mb ws ρ:=rfl
theorem sFrz_ap (i:Nat) (m:Rho->R Fl) (ρ:Rho):sFrz i m ρ=m (frz i ρ):=rfl
def frzS:Option Sl->Nat->Rho->Rho
 | some (.own ws),i,ρ=>ρ.set i (.val (.lst ws))
 | _,_,ρ=>ρ
theorem frz_ap (i:Nat) (ρ:Rho):frz i ρ=frzS (ρ[i]?) i ρ:=by
 unfold frz frzS
 rcases h:ρ[i]? with _ | s
 ·rfl
 ·cases s <;> rfl
theorem frzS_own (ws:List W) (i:Nat) (ρ:Rho):frzS (some (.own ws)) i ρ=ρ.set i (.val (.lst ws)):=rfl
theorem frzS_val (w:W) (i:Nat) (ρ:Rho):frzS (some (.val w)) i ρ=ρ:=rfl
theorem frzS_par (w:W) (i:Nat) (ρ:Rho):frzS (some (.par w)) i ρ=ρ:=rfl
theorem frzS_un (i:Nat) (ρ:Rho):frzS (some .un) i ρ=ρ:=rfl
def rdS (d:Mode):Option Sl->R W
 | some (.val w)=>(match d with | .F=>chk w | _=>.ok w)
 | some (.par w)=>(match d with | .F=>chk w | .V=>chk w | .C=>chk w | _=>.ok w)
 | some (.own ws)=>(match d with | .C=>.ok (.lst ws) | .B=>.ok (.lst ws) | _=>.stuck)
 | some (.iop _ ws)=>(match d with | .B=>.ok (.lst ws) | .U=>.ok (.lst ws) | _=>.stuck)
 | some (.hz w)=>(match d with | .B=>.ok w | .U=>.ok w | _=>.stuck)
 | _=>.stuck
theorem mVar_ap (d:Mode) (i:Nat) (ρ:Rho):mVar d i ρ=rdS d (ρ[i]?):=by
 unfold mVar rdS
 rfl
theorem rdS_vF (w:W):rdS .F (some (.val w))=chk w:=rfl
theorem rdS_vV (w:W):rdS .V (some (.val w))=.ok w:=rfl
theorem rdS_vU (w:W):rdS .U (some (.val w))=.ok w:=rfl
theorem rdS_vC (w:W):rdS .C (some (.val w))=.ok w:=rfl
theorem rdS_vB (w:W):rdS .B (some (.val w))=.ok w:=rfl
theorem rdS_pF (w:W):rdS .F (some (.par w))=chk w:=rfl
theorem rdS_pV (w:W):rdS .V (some (.par w))=chk w:=rfl
theorem rdS_pU (w:W):rdS .U (some (.par w))=.ok w:=rfl
theorem rdS_pC (w:W):rdS .C (some (.par w))=chk w:=rfl
theorem rdS_pB (w:W):rdS .B (some (.par w))=.ok w:=rfl
theorem rdS_oC (ws:List W):rdS .C (some (.own ws))=.ok (.lst ws):=rfl
theorem rdS_oB (ws:List W):rdS .B (some (.own ws))=.ok (.lst ws):=rfl
def retS (d:Mode):Option Sl->R Fl
 | some (.own ws)=>.ok (.rt (.lst ws))
 | o=>rdS d o>>=retK
theorem mRetVar_ap (d:Mode) (i:Nat) (ρ:Rho):mRetVar d i ρ=retS d (ρ[i]?):=by
 unfold mRetVar retS
 rw [mVar_ap]
 rcases h:ρ[i]? with _ | s
 ·rfl
 ·cases s <;> rfl
theorem retS_own (d:Mode) (ws:List W):retS d (some (.own ws))=.ok (.rt (.lst ws)):=rfl
theorem retS_val (d:Mode) (w:W):retS d (some (.val w))=(rdS d (some (.val w))>>=retK):=rfl
theorem retS_par (d:Mode) (w:W):retS d (some (.par w))=(rdS d (some (.par w))>>=retK):=rfl
def appS (o:Option Sl) (r:R W) (i:Nat) (ρ:Rho):R Fl:=match o with
 | some (.own ws)=>r>>=fun w=>if ws.length<1000 then .ok (.nx (ρ.set i (.own (ws ++ [w])))) else .stuck
 | _=>.stuck
theorem mApp_ap (i:Nat) (m:Rho->R W) (ρ:Rho):mApp i m ρ=appS (ρ[i]?) (m ρ) i ρ:=rfl
theorem appS_ok (ws:List W) (w:W) (i:Nat) (ρ:Rho):appS (some (.own ws)) (.ok w) i ρ=if ws.length<1000 then .ok (.nx (ρ.set i (.own (ws ++ [w])))) else .stuck:=rfl
def setS (o:Option Sl) (a b:R W) (i:Nat) (ρ:Rho):R Fl:=match o with
 | some (.own ws)=>b>>=fun w=>a>>=fun k=>(match k with
  | .int k=>(match ixN ws.length k with
   | some j=>.ok (.nx (ρ.set i (.own (ws.set j w))))
   | none=>.stuck)
  | _=>.stuck)
 | _=>.stuck
theorem mSet_ap (i:Nat) (mk me:Rho->R W) (ρ:Rho):mSet i mk me ρ=setS (ρ[i]?) (mk ρ) (me ρ) i ρ:=rfl
def setJ (o:Option Nat) (ws:List W) (w:W) (i:Nat) (ρ:Rho):R Fl:=match o with
 | some j=>.ok (.nx (ρ.set i (.own (ws.set j w))))
 | none=>.stuck
theorem setS_ok (ws:List W) (w:W) (k:Int) (i:Nat) (ρ:Rho):setS (some (.own ws)) (.ok (.int k)) (.ok w) i ρ=setJ (ixN ws.length k) ws w i ρ:=rfl
theorem setJ_some (j:Nat) (ws:List W) (w:W) (i:Nat) (ρ:Rho):setJ (some j) ws w i ρ=.ok (.nx (ρ.set i (.own (ws.set j w)))):=rfl
def augS (f:Int->Int->Int) (a b:R W) (i:Nat) (ρ:Rho):R Fl:=a>>=fun x=>b>>=fun y=>match x,y with
 | .int a,.int b=>.ok (.nx (ρ.set i (.val (.int (f a b)))))
 | _,_=>.stuck
theorem mAug_ap (i:Nat) (f:Int->Int->Int) (m:Rho->R W) (ρ:Rho):mAug i f m ρ=augS f (rdS .B (ρ[i]?)) (m ρ) i ρ:=by
 rw [<- mVar_ap]; rfl
theorem augS_ok (f:Int->Int->Int) (a b:Int) (i:Nat) (ρ:Rho):augS f (.ok (.int a)) (.ok (.int b)) i ρ=.ok (.nx (ρ.set i (.val (.int (f a b))))):=rfl
def ifS (c:R Bool) (m n:Rho->R Fl) (ρ:Rho):R Fl:=c>>=fun b=>if b then m ρ else n ρ
theorem mIf_ap (c:Rho->R Bool) (m n:Rho->R Fl) (ρ:Rho):mIf c m n ρ=ifS (c ρ) m n ρ:=rfl
theorem ifS_tt (m n:Rho->R Fl) (ρ:Rho):ifS (.ok true) m n ρ=m ρ:=rfl
theorem ifS_ff (m n:Rho->R Fl) (ρ:Rho):ifS (.ok false) m n ρ=n ρ:=rfl
def endB (r:R Fl):R W:=r>>=fun f=>match f with
 | .rt w=>.ok w
 | .nx _=>.ok .non
 | _=>.stuck
theorem runB_ap {n N:Nat} {m:Rho->R Fl} {ws:List W} (h:ws.length=n):runB n N m ws=endB (m (ws.map Sl.par++List.replicate (N-n) Sl.un)):=by unfold runB; rw [if_pos h]; rfl
theorem runB_1 {N:Nat} {m:Rho->R Fl} (a:W):runB 1 N m [a]=endB (m (Sl.par a::List.replicate (N-1) Sl.un)):=runB_ap rfl
theorem runB_2 {N:Nat} {m:Rho->R Fl} (a b:W):runB 2 N m [a,b]=endB (m (Sl.par a::Sl.par b::List.replicate (N-2) Sl.un)):=runB_ap rfl
theorem runB_3 {N:Nat} {m:Rho->R Fl} (a b c:W):runB 3 N m [a,b,c]=endB (m (Sl.par a::Sl.par b::Sl.par c::List.replicate (N-3) Sl.un)):=runB_ap rfl
theorem runB_4 {N:Nat} {m:Rho->R Fl} (a b c d:W):runB 4 N m [a,b,c,d]=endB (m (Sl.par a::Sl.par b::Sl.par c::Sl.par d::List.replicate (N-4) Sl.un)):=runB_ap rfl
theorem runB_5 {N:Nat} {m:Rho->R Fl} (a b c d e:W):runB 5 N m [a,b,c,d,e]=endB (m (Sl.par a::Sl.par b::Sl.par c::Sl.par d::Sl.par e::List.replicate (N-5) Sl.un)):=runB_ap rfl
theorem endB_rt (w:W):endB (.ok (.rt w))=.ok w:=rfl
theorem endB_nx (ρ:Rho):endB (.ok (.nx ρ))=.ok .non:=rfl
theorem fI0_ii (g:Int->Int->W) (i j:Int):fI0 g (.int i) (.int j)=.ok (g i j):=rfl
theorem fU_i (g:Int->W) (i:Int):fU g (.int i)=.ok (g i):=rfl
theorem fIx_l (ws:List W) (i:Int):fIx (.lst ws) (.int i)=toR (L2.atI ws i):=rfl
theorem fIx_t (ws:List W) (i:Int):fIx (.tup ws) (.int i)=toR (L2.atI ws i):=rfl
theorem fIx_s (ws:List W) (i:Int):fIx (.scr ws) (.int i)=toR (L2.atI ws i):=rfl
theorem toR_some {α:Type} (a:α):toR (some a)=.ok a:=rfl
theorem toB_bl (b:Bool):toB (.bl b)=.ok b:=rfl
theorem fLen_l (ws:List W):fLen [.lst ws]=.ok (.int ws.length):=rfl
theorem fLen_t (ws:List W):fLen [.tup ws]=.ok (.int ws.length):=rfl
theorem fLen_s (ws:List W):fLen [.scr ws]=.ok (.int ws.length):=rfl
theorem fList_l (c:Bool) (ws:List W):fList c [.lst ws]=chks c ws:=rfl
theorem fList_t (c:Bool) (ws:List W):fList c [.tup ws]=chks c ws:=rfl
theorem fTup_l (c:Bool) (ws:List W):fTup c [.lst ws]=chkT c ws:=rfl
theorem fTup_t (c:Bool) (ws:List W):fTup c [.tup ws]=chkT c ws:=rfl
theorem chks_t (ws:List W):chks true ws=.ok (.lst ws):=rfl
theorem chkT_t (ws:List W):chkT true ws=.ok (.tup ws):=rfl
theorem chks_no {c:Bool} {ws:List W} (h:noLs ws=true):chks c ws=.ok (.lst ws):=by unfold chks; rw [h,Bool.or_true,if_pos rfl]
theorem chkT_no {c:Bool} {ws:List W} (h:noLs ws=true):chkT c ws=.ok (.tup ws):=by unfold chkT; rw [h,Bool.or_true,if_pos rfl]
theorem chks_I (c:Bool) (ns:List Int):chks c (ns.map W.int)=.ok (.lst (ns.map W.int)):=chks_no (noLs_ints ns)
theorem chkT_I (c:Bool) (ns:List Int):chkT c (ns.map W.int)=.ok (.tup (ns.map W.int)):=chkT_no (noLs_ints ns)
theorem chk_no {w:W} (h:noL w=true):chk w=.ok w:=by unfold chk; rw [if_pos h]
theorem chk_int (i:Int):chk (.int i)=.ok (.int i):=rfl
theorem chk_bl (i:Bool):chk (.bl i)=.ok (.bl i):=rfl
theorem chk_str (i:Str):chk (.str i)=.ok (.str i):=rfl
theorem chk_non:chk .non=.ok .non:=rfl
theorem chk_tI (ns:List Int):chk (.tup (ns.map W.int))=.ok (.tup (ns.map W.int)):=chk_no (noLs_ints ns)
theorem f2_ii (g:Int->Int->Int) (i j:Int):f2 g [.int i,.int j]=.ok (.int (g i j)):=rfl
theorem seqW_l (ws:List W):seqW (.lst ws)=.ok ws:=rfl
theorem seqW_t (ws:List W):seqW (.tup ws)=.ok ws:=rfl
theorem seqW_s (ws:List W):seqW (.scr ws)=.ok ws:=rfl
theorem rng1_i (j:Int):rng1 [.int j]=rngW 0 j:=rfl
theorem rng2_i (i j:Int):rng2 [.int i,.int j]=rngW i j:=rfl
theorem gN_U (i:Nat) (w:W) (ρ:Rho):gN .U i w ρ=some (ρ.set i (.par w)):=rfl
theorem gN_V (i:Nat) (w:W) (ρ:Rho):gN .V i w ρ=some (ρ.set i (.val w)):=rfl
theorem gT_t (n:Nat) (g:List W->Rho->Option Rho) (ws:List W) (ρ:Rho):gT n g (.tup ws) ρ=if ws.length=n then g ws ρ else none:=rfl
theorem gsCons_c (f:W->Rho->Option Rho) (g:List W->Rho->Option Rho) (w:W) (ws:List W) (ρ:Rho):gsCons f g (w::ws) ρ=(f w ρ).bind (g ws):=rfl
theorem gsNil_n (ρ:Rho):gsNil [] ρ=some ρ:=rfl
theorem mkTup_ap (ws:List W):mkTup ws=if ws.length<=1000 then .ok (.tup ws) else .stuck:=rfl
theorem mkLst_ap (ws:List W):mkLst ws=if ws.length<=1000 then .ok (.lst ws) else .stuck:=rfl
theorem fIsi_ap (x:W) (T:String):fIsi [x,.ty T]=(toR ((tyW x).bind fun A=>isiB A T)>>=fun b=>.ok (.bl b)):=rfl
theorem isi_nt:isiB "NoneType" "tuple" = some false:=by decide
theorem isi_nl:isiB "NoneType" "list" = some false:=by decide
theorem isi_lt:isiB "list" "tuple" = some false:=by decide
theorem isi_tl:isiB "tuple" "list" = some false:=by decide
theorem fIsN_n (n:Bool) (u:W):fIsN n u .non=.ok (.bl (if n then !isN u else isN u)):=rfl
theorem mapR_all {f:W->R (Option W)} {α:Type} (g:α->W) (s:α->W):∀ (as:List α),(∀ a∈as,f (s a)=.ok (some (g a)))->mapR f (as.map s)=.ok (as.map g):=by
 intro as
 induction as with
 | nil=>exact fun _=>rfl
 | cons a as ih=>
  intro h
  rw [List.map_cons,mapR,h a List.mem_cons_self,ih fun b hb=>h b (List.mem_cons_of_mem _ hb)]
  rfl
theorem mapR_filter {f:W->R (Option W)} {α:Type} (g:α->W) (s:α->W) (c:α->Bool):∀ (as:List α),(∀ a∈as,f (s a)=.ok (if c a then some (g a) else none))->mapR f (as.map s)=.ok ((as.filter c).map g):=by
 intro as
 induction as with
 | nil=>exact fun _=>rfl
 | cons a as ih=>
  intro h
  rw [List.map_cons,mapR,h a List.mem_cons_self,ih fun b hb=>h b (List.mem_cons_of_mem _ hb),List.filter_cons]
  cases c a <;> rfl
theorem mComp_all {N':Nat} {mg:W->Rho->Option Rho} {me:Rho->R W} {α:Type} (g:α->W) (s:α->W) (as:List α) (ρ:Rho) (hl:as.length<=1000)
  (h:∀ a∈as,∃ ρ1,mg (s a) (ρ++List.replicate (N'-ρ.length) Sl.un)=some ρ1/\me ρ1=.ok (g a)):mComp N' mg yes me (as.map s) ρ=.ok (.lst (as.map g)):=by
 unfold mComp
 rw [List.length_map,if_pos hl,mapR_all g s as]
 intro a ha
 obtain ⟨ρ1,e1,e2⟩:=h a ha
 unfold elR
 rw [e1]
 have hy:yes ρ1=.ok true:=rfl
 dsimp only
 rw [hy]
 dsimp only
 rw [e2]
theorem mComp_filter {N':Nat} {mg:W->Rho->Option Rho} {mc:Rho->R Bool} {me:Rho->R W} {α:Type} (g:α->W) (s:α->W) (c:α->Bool) (as:List α) (ρ:Rho) (hl:as.length<=1000)
  (h:∀ a∈as,∃ ρ1,mg (s a) (ρ++List.replicate (N'-ρ.length) Sl.un)=some ρ1/\mc ρ1=.ok (c a)/\(c a=true->me ρ1=.ok (g a))):mComp N' mg mc me (as.map s) ρ=.ok (.lst ((as.filter c).map g)):=by
 unfold mComp
 rw [List.length_map,if_pos hl,mapR_filter g s c as]
 intro a ha
 obtain ⟨ρ1,e1,e2,e3⟩:=h a ha
 unfold elR
 rw [e1]
 dsimp only
 rw [e2]
 cases hc:c a with
 | false=>rfl
 | true=>dsimp only; rw [e3 hc]; rfl
theorem rngW_int {z:Int} (h0:-1000000<=z) (h:z<=1000000):rngW 0 z=.ok ((List.range z.toNat).map fun k=>W.int (k:Nat)):=by
 unfold rngW
 rw [if_pos (by omega)]
 simp
theorem rng_at {n i:Nat} {w:W} (h:((List.range n).map fun k=>W.int (k:Nat))[i]?=some w):i<n/\w=.int (i:Nat):=by
 rw [List.getElem?_map] at h
 cases q:(List.range n)[i]? with
 | none=>rw [q] at h; cases h
 | some k=>
  rw [q] at h
  obtain ⟨h1,h2⟩:=List.getElem?_eq_some_iff.mp q
  simp at h1 h2
  subst h2
  cases h
  exact ⟨h1,rfl⟩
def cutI (xs:List Int) (lo hi:Option Int):List Int:=(xs.drop (HT.sIx xs.length 0 lo)).take (HT.sIx xs.length xs.length hi-HT.sIx xs.length 0 lo)
theorem cutW_I (ns:List Int) (lo hi:Option Int):cutW (ns.map W.int) lo hi=(cutI ns lo hi).map W.int:=by
 unfold cutW cutI
 rw [List.length_map,<- List.map_drop,<- List.map_take]
theorem setW_I (ns:List Int) (j:Nat) (z:Int):(ns.map W.int).set j (.int z)=(ns.set j z).map W.int:=by rw [List.map_set]
theorem appW_I (ns:List Int) (z:Int):ns.map W.int ++ [.int z]=(ns ++ [z]).map W.int:=by rw [List.map_append]; rfl
theorem repW_I (k:Nat) (z:Int):(List.replicate k [W.int z]).flatten=(List.replicate k z).map W.int:=by
 induction k with
 | zero=>rfl
 | succ k ih=>rw [List.replicate_succ,List.flatten_cons,ih,List.replicate_succ,List.map_cons]; rfl
theorem zipR_2 (x y:W) (xs ys:List W) (hx:seqW x=.ok xs) (hy:seqW y=.ok ys):zipR [x,y]=.ok ((zipW [xs,ys]).map W.tup):=by
 unfold zipR
 simp only [List.length_cons,List.length_nil,seqWs,hx,hy,Nat.reduceAdd,true_or,if_true]
theorem mul_L {i j:Int} (h:-18446744073709551616<i/\i<18446744073709551616):fI CMul gMul (.int i) (.int j)=.ok (.int (i*j)):=by
 show (if CMul i j then _ else _)=_
 rw [if_pos (.inl (by simpa using h))]
theorem mul_R {i j:Int} (h:-18446744073709551616<j/\j<18446744073709551616):fI CMul gMul (.int i) (.int j)=.ok (.int (i*j)):=by
 show (if CMul i j then _ else _)=_
 rw [if_pos (.inr (by simpa using h))]
theorem mod_ii {i j:Int} (h:0<j):fI cMod gMod (.int i) (.int j)=.ok (.int (i%j)):=by
 show (if cMod i j then _ else _)=_
 rw [if_pos h]
theorem div_ii {i j:Int} (h:0<j/\j<1073741824):fI CDiv gDiv (.int i) (.int j)=.ok (.int (i/j)):=by
 show (if CDiv i j then _ else _)=_
 rw [if_pos (show CDiv i j from h)]
theorem pow_ii {i j:Int} (h:0<=j/\j<=1000000 /\ -18446744073709551616<i/\i<18446744073709551616):fI CPow gPow (.int i) (.int j)=.ok (.int (i^j.toNat)):=by
 show (if CPow i j then _ else _)=_
 rw [if_pos ⟨h.1,h.2.1,by omega⟩]
theorem appS_c {ws:List W} {w:W} {i:Nat} {ρ:Rho} (h:ws.length<1000):appS (some (.own ws)) (.ok w) i ρ=.ok (.nx (ρ.set i (.own (ws ++ [w])))):=by rw [appS_ok,if_pos h]
theorem mkTup_c {ws:List W} (h:ws.length<=1000):mkTup ws=.ok (.tup ws):=by rw [mkTup_ap,if_pos h]
theorem mkLst_c {ws:List W} (h:ws.length<=1000):mkLst ws=.ok (.lst ws):=by rw [mkLst_ap,if_pos h]
theorem fCat_c {c:Bool} {us vs:List W} (h:us.length+vs.length<=1000):fCat c (.lst us) (.lst vs)=chks c (us++vs):=by
 show (if us.length+vs.length<=1000 then _ else _)=_
 rw [if_pos h]
theorem fRep_1 {c:Bool} {z:W} {k:Int} (h:0<=k/\k<=1000):fRep c (.lst [z]) (.int k)=chks c (List.replicate k.toNat [z]).flatten:=by
 show (if [z].length*k.toNat<=1000 /\ -1000<=k/\k<=1000 then _ else _)=_
 rw [if_pos ⟨by simp only [List.length_cons,List.length_nil]; omega,by omega,h.2⟩]
theorem atW_c {ns:List Int} {i:Int} (h:0<=i/\i<ns.length):L2.atI (ns.map W.int) i=some (.int (ns.getD i.toNat 0)):=atW h.1 h.2
theorem ixN_c {n:Nat} {i:Int} (h:0<=i/\i<n):ixN n i=some i.toNat:=ixN_int h.1 h.2
theorem rngW_c {z:Int} (h:-1000000<=z/\z<=1000000):rngW 0 z=.ok ((List.range z.toNat).map fun k=>W.int (k:Nat)):=rngW_int h.1 h.2
def Ok (r:R W) (P:W->Prop):Prop:=∃ w,r=.ok w/\P w
def Po (r:R Fl) (Jn:Rho->Prop) (Jr:W->Prop):Prop:=match r with
 | .ok (.nx ρ)=>Jn ρ
 | .ok (.rt w)=>Jr w
 | _=>False
theorem ok_end {r:R Fl} {P:W->Prop} (h:Po r (fun _=>P .non) P):Ok (endB r) P:=by
 cases r with
 | ex _=>exact h.elim
 | stuck=>exact h.elim
 | ok f=>cases f with
  | nx ρ=>exact ⟨_,rfl,h⟩
  | rt w=>exact ⟨_,rfl,h⟩
  | bk _=>exact h.elim
  | ct _=>exact h.elim
theorem po_seq {r:R Fl} {n:Rho->R Fl} {Jn:Rho->Prop} {Jr:W->Prop} (h:Po r (fun ρ=>Po (n ρ) Jn Jr) Jr):Po (andThen r n) Jn Jr:=by
 cases r with
 | ex _=>exact h.elim
 | stuck=>exact h.elim
 | ok f=>cases f with
  | nx ρ=>exact h
  | rt w=>exact h
  | bk _=>exact h.elim
  | ct _=>exact h.elim
theorem po_nx {ρ:Rho} {Jn:Rho->Prop} {Jr:W->Prop}:Po (.ok (.nx ρ)) Jn Jr=Jn ρ:=rfl
theorem po_rt {w:W} {Jn:Rho->Prop} {Jr:W->Prop}:Po (.ok (.rt w)) Jn Jr=Jr w:=rfl
theorem po_if {b:Bool} {m n:Rho->R Fl} {ρ:Rho} {Jn:Rho->Prop} {Jr:W->Prop} (h1:b=true->Po (m ρ) Jn Jr) (h2:b=false->Po (n ρ) Jn Jr):Po (ifS (.ok b) m n ρ) Jn Jr:=by
 cases b with
 | true=>exact h1 rfl
 | false=>exact h2 rfl
theorem Po.mono {r:R Fl} {Jn Jn':Rho->Prop} {Jr Jr':W->Prop} (h:Po r Jn Jr) (h1:∀ ρ,Jn ρ->Jn' ρ) (h2:∀ w,Jr w->Jr' w):Po r Jn' Jr':=by
 cases r with
 | ex _=>exact h
 | stuck=>exact h
 | ok f=>cases f with
  | nx ρ=>exact h1 ρ h
  | rt w=>exact h2 w h
  | bk _=>exact h
  | ct _=>exact h
theorem po_for_go {mg:W->Rho->Option Rho} {mb:Rho->R Fl} {Jr:W->Prop} (I:Nat->Rho->Prop):∀ (ws:List W) (k:Nat) (ρ:Rho),I k ρ ->
  (∀ (i:Nat) (w:W) (ρ:Rho),ws[i]?=some w->I (k+i) ρ->∃ ρ1,mg w ρ=some ρ1/\Po (mb ρ1) (I (k+i+1)) Jr)->Po (mFor mg mb ws ρ) (I (k+ws.length)) Jr:=by
 intro ws
 induction ws with
 | nil=>exact fun k ρ h _=>h
 | cons w ws ih=>
  intro k ρ h st
  obtain ⟨ρ1,e1,p⟩:=st 0 w ρ rfl h
  unfold mFor
  rw [e1]
  show Po (mb ρ1>>=_) _ _
  revert p
  cases mb ρ1 with
  | ex _=>exact fun p=>p.elim
  | stuck=>exact fun p=>p.elim
  | ok f=>cases f with
   | bk _=>exact fun p=>p.elim
   | ct _=>exact fun p=>p.elim
   | rt w=>exact fun p=>p
   | nx ρ2=>
    intro p
    have:=ih (k+1) ρ2 p fun i w ρ hw hp=>by
     have:=st (i+1) w ρ hw (by rw [<- Nat.succ_add_eq_add_succ k i]; exact hp)
     rw [<- Nat.succ_add_eq_add_succ k i] at this
     exact this
    rw [List.length_cons,<- Nat.succ_add_eq_add_succ k ws.length]
    exact this
theorem po_for {mg:W->Rho->Option Rho} {mb:Rho->R Fl} {ws:List W} {ρ:Rho} {Jn:Rho->Prop} {Jr:W->Prop} (I:Nat->Rho->Prop) (h0:I 0 ρ)
  (st:∀ (i:Nat) (w:W) (ρ:Rho),ws[i]?=some w->I i ρ->∃ ρ1,mg w ρ=some ρ1/\Po (mb ρ1) (I (i+1)) Jr) (hn:∀ ρ,I ws.length ρ->Jn ρ):Po (mFor mg mb ws ρ) Jn Jr:=by
 have:=po_for_go (mg:=mg) (mb:=mb) (Jr:=Jr) I ws 0 ρ h0 fun i w ρ hw hp=>by rw [Nat.zero_add] at hp ⊢; exact st i w ρ hw hp
 rw [Nat.zero_add] at this
 exact this.mono hn fun _ h=>h
theorem po_fors {mg:W->Rho->Option Rho} {mb n:Rho->R Fl} {ws:List W} {ρ:Rho} {Jn:Rho->Prop} {Jr:W->Prop} (I:Nat->Rho->Prop) (h0:I 0 ρ)
  (st:∀ (i:Nat) (w:W) (ρ:Rho),ws[i]?=some w->I i ρ->∃ ρ1,mg w ρ=some ρ1/\Po (mb ρ1) (I (i+1)) Jr) (hn:∀ ρ,I ws.length ρ->Po (n ρ) Jn Jr):Po (andThen (mFor mg mb ws ρ) n) Jn Jr:=po_seq (po_for I h0 st hn)
theorem po_while {c:Rho->R Bool} {b:Rho->R Fl} {Jn:Rho->Prop} {Jr:W->Prop} (I:Nat->Rho->Prop)
  (st:∀ m ρ,I m ρ->∃ t,c ρ=.ok t/\if t=true then Po (b ρ) (fun ρ'=>∃ m',m'<m/\I m' ρ') Jr else Jn ρ):∀ (m:Nat) (ρ:Rho),I m ρ->Po (mWhile c b ρ) Jn Jr:=by
 have key:∀ (m:Nat) (ρ:Rho),I m ρ->∃ r,iterW c b (m+1) ρ=some r/\Po r Jn Jr:=by
  intro m
  induction m using Nat.strongRecOn with
  | ind m ih=>
   intro ρ h
   obtain ⟨t,e,q⟩:=st m ρ h
   unfold iterW
   rw [e]
   cases t with
   | false=>rw [if_neg Bool.false_ne_true] at q; exact ⟨_,rfl,q⟩
   | true=>
    rw [if_pos rfl] at q
    dsimp only
    revert q
    cases b ρ with
    | ex _=>exact fun q=>q.elim
    | stuck=>exact fun q=>q.elim
    | ok f=>cases f with
     | bk _=>exact fun q=>q.elim
     | ct _=>exact fun q=>q.elim
     | rt w=>exact fun q=>⟨_,rfl,q⟩
     | nx ρ'=>
      intro ⟨m',hm,h'⟩
      obtain ⟨r,e',q'⟩:=ih m' hm ρ' h'
      exact ⟨r,iterW_more (m'+1) ρ' r e' m (by omega),q'⟩
 intro m ρ h
 obtain ⟨r,e,q⟩:=key m ρ h
 rw [mWhile_eq e]
 exact q
theorem mapR_ex {f:W->R (Option W)} {α:Type} (s:α->W) (p:α->Int->Prop):∀ (as:List α),(∀ a∈as,∃ z,f (s a)=.ok (some (.int z))/\p a z)->∃ zs:List Int,mapR f (as.map s)=.ok (zs.map W.int)/\Paired p as zs
 | [],_=>⟨[],rfl,.nil⟩
 | a::as,h=>by
  obtain ⟨z,e,hz⟩:=h a (by simp)
  obtain ⟨zs,e2,hp⟩:=mapR_ex s p as fun b hb=>h b (by simp [hb])
  refine ⟨z::zs,?_,.cons hz hp⟩
  rw [List.map_cons,mapR,e,e2]; rfl
theorem mComp_ints {N':Nat} {mg:W->Rho->Option Rho} {me:Rho->R W} {α:Type} {as:List α} {s:α->W} {ρ:Rho} (p:α->Int->Prop) (hl:as.length<=1000)
  (h:∀ a∈as,∃ ρ1,mg (s a) (ρ++List.replicate (N'-ρ.length) Sl.un)=some ρ1/\Ok (me ρ1) fun w=>∃ z,w=.int z/\p a z):∃ zs:List Int,mComp N' mg yes me (as.map s) ρ=.ok (lI zs)/\Paired p as zs:=by
 obtain ⟨zs,e,hp⟩:=mapR_ex (f:=elR mg yes me (ρ++List.replicate (N'-ρ.length) Sl.un)) s p as fun a ha=>by
  obtain ⟨ρ1,e1,w,e2,z,rfl,hz⟩:=h a ha
  refine ⟨z,?_,hz⟩
  unfold elR
  rw [e1]
  have hy:yes ρ1=.ok true:=rfl
  dsimp only
  rw [hy]
  dsimp only
  rw [e2]
 refine ⟨zs,?_,hp⟩
 unfold mComp
 rw [List.length_map,if_pos hl,e]
theorem paired_range {n:Nat} {p:Nat->Int->Prop} {zs:List Int} (h:Paired p (List.range n) zs):zs.length=n/\∀ k,k<n->p k (zs.getD k 0):=by
 have hl:(List.range n).length=zs.length:=Paired.length h
 rw [List.length_range] at hl
 refine ⟨hl.symm,fun k hk=>?_⟩
 have key:∀ (l:List Nat) (zs:List Int) (k:Nat) (a:Nat),Paired p l zs->l[k]?=some a->p a (zs.getD k 0):=by
  intro l
  induction l with
  | nil=>intro zs k a _ e; simp at e
  | cons b l ih=>
   intro zs k a q e
   cases q with
   | cons h1 h2=>
    cases k with
    | zero=>simp at e; subst e; exact h1
    | succ k=>simp at e; simpa using ih _ k a h2 e
 exact key _ zs k k h (by simp [hk])
def OkL (r:R (List W)) (P:List W->Prop):Prop:=∃ w,r=.ok w/\P w
theorem po_set {r:R W} {f:W->Sl} {i:Nat} {ρ:Rho} {Jn:Rho->Prop} {Jr:W->Prop} (h:Ok r fun w=>Jn (ρ.set i (f w))):Po (Rset r f i ρ) Jn Jr:=by
 obtain ⟨w,rfl,q⟩:=h; exact q
theorem po_sets {r:R W} {f:W->Sl} {i:Nat} {ρ:Rho} {n:Rho->R Fl} {Jn:Rho->Prop} {Jr:W->Prop} (h:Ok r fun w=>Po (n (ρ.set i (f w))) Jn Jr):Po (andThen (Rset r f i ρ) n) Jn Jr:=po_seq (po_set h)
theorem ok_bindL {r:R (List W)} {f:List W->R W} {P:W->Prop} (h:OkL r fun w=>Ok (f w) P):Ok (r>>=f) P:=by
 obtain ⟨w,rfl,q⟩:=h; exact q
theorem okL_1 {a:R W} {xs:List W} {P:List W->Prop} (h:Ok a fun x=>P (x::xs)):OkL (Rcons a (.ok xs)) P:=by
 obtain ⟨w,rfl,q⟩:=h; exact ⟨_,rfl,q⟩
theorem okL_2 {a:R W} {b:R (List W)} {P:List W->Prop} (h:Ok a fun x=>OkL b fun xs=>P (x::xs)):OkL (Rcons a b) P:=by
 obtain ⟨w,rfl,ws,rfl,q⟩:=h; exact ⟨_,rfl,q⟩
theorem ok_comp {N':Nat} {mg:W->Rho->Option Rho} {me:Rho->R W} {α:Type} {as:List α} {s:α->W} {ρ:Rho} {P:W->Prop} (p:α->Int->Prop) (hl:as.length<=1000)
  (h:∀ a∈as,∃ ρ1,mg (s a) (ρ++List.replicate (N'-ρ.length) Sl.un)=some ρ1/\Ok (me ρ1) fun w=>∃ z,w=.int z/\p a z) (hp:∀ zs,Paired p as zs->P (lI zs)):Ok (mComp N' mg yes me (as.map s) ρ) P:=by
 obtain ⟨zs,e,q⟩:=mComp_ints (mg:=mg) (me:=me) (ρ:=ρ) (N':=N') p hl h
 exact ⟨_,e,hp zs q⟩
theorem ok_tcomp {N':Nat} {mg:W->Rho->Option Rho} {me:Rho->R W} {α:Type} {as:List α} {s:α->W} {ρ:Rho} {P:W->Prop} {c:Bool} (p:α->Int->Prop) (hl:as.length<=1000)
  (h:∀ a∈as,∃ ρ1,mg (s a) (ρ++List.replicate (N'-ρ.length) Sl.un)=some ρ1/\Ok (me ρ1) fun w=>∃ z,w=.int z/\p a z) (hp:∀ zs,Paired p as zs->P (tI zs)):Ok (Rcons (mComp N' mg yes me (as.map s) ρ) (.ok [])>>=fTup c) P:=
 ok_bindL (okL_1 (ok_comp p hl h fun zs q=>⟨_,by rw [fTup_l,chkT_I],hp zs q⟩))
theorem ok_rtcomp {N' n:Nat} {mg:W->Rho->Option Rho} {me:Rho->R W} {ρ:Rho} {P:W->Prop} {c:Bool} (p:Nat->Int->Prop) (hl:n<=1000)
  (h:∀ k,k<n->∃ ρ1,mg (.int (k:Nat)) (ρ++List.replicate (N'-ρ.length) Sl.un)=some ρ1/\Ok (me ρ1) fun w=>∃ z,w=.int z/\p k z)
  (hp:∀ zs:List Int,zs.length=n->(∀ k,k<n->p k (zs.getD k 0))->P (tI zs)):Ok (Rcons (mComp N' mg yes me ((List.range n).map fun k=>W.int (k:Nat)) ρ) (.ok [])>>=fTup c) P:=
 ok_tcomp p (by simpa using hl) (fun a ha=>h a (by simpa using ha)) fun zs q=>let ⟨a,b⟩:=paired_range q; hp zs a b
theorem all_of_getD {zs:List Int} {P:Int->Prop} (h:∀ k,k<zs.length->P (zs.getD k 0)):∀ x∈zs,P x:=fun x hx=>by
 obtain ⟨i,hi,e⟩:=List.mem_iff_getElem.mp hx
 have:=h i hi
 rw [List.getD_eq_getElem?_getD] at this
 simpa [hi,e] using this
theorem gMax_max (i j:Int):gMax i j=max i j:=by unfold gMax; omega
theorem gMin_min (i j:Int):gMin i j=min i j:=by unfold gMin; omega
def oW:Option Int->W
 | none=>.non
 | some i=>.int i
theorem oW_n:oW none=.non:=rfl
theorem oW_s (i:Int):oW (some i)=.int i:=rfl
theorem noL_oW (o:Option Int):noL (oW o)=true:=by cases o <;> rfl
theorem chk_oW (o:Option Int):chk (oW o)=.ok (oW o):=chk_no (noL_oW o)
theorem noLs_map {α:Type} (f:α->W) (h:∀ a,noL (f a)=true) (as:List α):noLs (as.map f)=true:=by
 induction as with
 | nil=>rfl
 | cons a as ih=>rw [List.map_cons]; simp only [noLs,h,ih,Bool.and_self]
theorem noLs_oW (cs:List (Option Int)):noLs (cs.map oW)=true:=noLs_map oW noL_oW cs
theorem chks_O (c:Bool) (cs:List (Option Int)):chks c (cs.map oW)=.ok (.lst (cs.map oW)):=chks_no (noLs_oW cs)
theorem chkT_O (c:Bool) (cs:List (Option Int)):chkT c (cs.map oW)=.ok (.tup (cs.map oW)):=chkT_no (noLs_oW cs)
theorem isN_oW (o:Option Int):isN (oW o)=o.isNone:=by cases o <;> rfl
theorem slotF_oW (o:Option Int):slotF (oW o)=.val (oW o):=by cases o <;> rfl
theorem at_map {α:Type} (f:α->W) {as:List α} {d:α} {i:Int} (h:0<=i/\i<as.length):L2.atI (as.map f) i=some (f (as.getD i.toNat d)):=by
 unfold L2.atI
 rw [List.length_map,ixN_int h.1 h.2]
 show (as.map f)[i.toNat]?=_
 have hi:i.toNat<as.length:=by omega
 rw [List.getElem?_map,List.getD_eq_getElem?_getD]
 simp [hi]
theorem atO_c {cs:List (Option Int)} {i:Int} (h:0<=i/\i<cs.length):L2.atI (cs.map oW) i=some (oW (cs.getD i.toNat none)):=at_map oW h
theorem appO (cs:List (Option Int)) (o:Option Int):cs.map oW ++ [oW o]=(cs ++ [o]).map oW:=by rw [List.map_append]; rfl
theorem zipW_M2 {α β:Type} (f:α->W) (g:β->W) {a:List α} {b:List β} (h:b.length=a.length) (x:α) (y:β):(zipW [a.map f,b.map g]).map W.tup=(List.range a.length).map fun k=>W.tup [f (a.getD k x),g (b.getD k y)]:=by
 apply List.ext_getElem?
 intro i
 simp only [zipW,List.getElem?_map,List.getElem?_zipWith]
 by_cases hi:i<a.length
 ·have hb:i<b.length:=by omega
  simp [hi,hb]
 ·simp [hi]
theorem noL_tI (ns:List Int):noL (tI ns)=true:=noLs_ints ns
theorem noLs_S (ss:List (List Int)):noLs (ss.map tI)=true:=noLs_map tI noL_tI ss
theorem chks_S (c:Bool) (ss:List (List Int)):chks c (ss.map tI)=.ok (.lst (ss.map tI)):=chks_no (noLs_S ss)
theorem chkT_S (c:Bool) (ss:List (List Int)):chkT c (ss.map tI)=.ok (.tup (ss.map tI)):=chkT_no (noLs_S ss)
theorem atS_c {ss:List (List Int)} {i:Int} (h:0<=i/\i<ss.length):L2.atI (ss.map tI) i=some (tI (ss.getD i.toNat [])):=at_map tI h
theorem appW_S (ss:List (List Int)) (s:List Int):ss.map tI ++ [tI s]=(ss ++ [s]).map tI:=by rw [List.map_append]; rfl
def cutL {α:Type} (xs:List α) (lo hi:Option Int):List α:=(xs.drop (HT.sIx xs.length 0 lo)).take (HT.sIx xs.length xs.length hi-HT.sIx xs.length 0 lo)
theorem cutW_map {α:Type} (f:α->W) (as:List α) (lo hi:Option Int):cutW (as.map f) lo hi=(cutL as lo hi).map f:=by
 unfold cutW cutL
 rw [List.length_map,<- List.map_drop,<- List.map_take]
theorem cutW_S (ss:List (List Int)) (lo hi:Option Int):cutW (ss.map tI) lo hi=(cutL ss lo hi).map tI:=cutW_map tI ss lo hi
theorem catW_S (ss ts:List (List Int)):ss.map tI++ts.map tI=(ss++ts).map tI:=by rw [List.map_append]
theorem catW_I (ss ts:List Int):ss.map W.int++ts.map W.int=(ss++ts).map W.int:=by rw [List.map_append]
theorem rngW_2 {lo hi:Int} (h:-1000000<=lo/\lo<=1000000 /\ -1000000<=hi/\hi<=1000000):rngW lo hi=.ok ((List.range (hi-lo).toNat).map fun k=>W.int (lo+(k:Nat))):=by
 unfold rngW
 rw [if_pos h]
theorem eqv_refl:∀ w:W,PyData.eqv (pd w) (pd w)=true:=by
 intro w
 refine W.rec (motive_1:=fun w=>PyData.eqv (pd w) (pd w)=true) (motive_2:=fun ws=>PyData.eqvAll (pds ws) (pds ws)=true) ?_ ?_ ?_ ?_ ?_ ?_ ?_ ?_ ?_ ?_ ?_ ?_ ?_ w
 ·rfl
 ·intro b; cases b <;> rfl
 ·intro b; exact beq_self_eq_true b
 ·intro b; exact beq_self_eq_true b
 ·intro b; rfl
 ·exact fun ws h=>h
 ·exact fun ws h=>h
 ·exact fun ws h=>h
 ·intro b c; rfl
 ·intro b; rfl
 ·intro b c d e _; rfl
 ·rfl
 ·intro w ws h1 h2; exact (Bool.and_eq_true _ _).mpr ⟨h1,h2⟩
theorem eqW_self (w:W):eqW w w=true:=eqv_refl w
theorem shps_map {α:Type} (f:α->W) (n:Nat) (h:∀ a,shp n (f a)=true) (as:List α):shps n (as.map f)=true:=by
 induction as with
 | nil=>rfl
 | cons a as ih=>rw [List.map_cons]; simp only [shps,h,ih,Bool.and_self]
theorem shp_int (n:Nat) (i:Int):shp n (.int i)=true:=by cases n <;> rfl
theorem shp_bl (n:Nat) (b:Bool):shp n (.bl b)=true:=by cases n <;> rfl
theorem shp_tI (n:Nat) (ns:List Int):shp (n+1) (tI ns)=true:=shps_map W.int n (shp_int n) ns
theorem shp_lI (n:Nat) (ns:List Int):shp (n+1) (lI ns)=true:=shps_map W.int n (shp_int n) ns
theorem shp_lS (n:Nat) (ss:List (List Int)):shp (n+2) (.lst (ss.map tI))=true:=shps_map tI (n+1) (shp_tI n) ss
theorem fEq_self {neg:Bool} {w:W} (h:shp 8 w=true):fEq neg w w=.ok (.bl (!neg)):=by
 unfold fEq
 rw [h,eqW_self]
 cases neg <;> rfl
theorem eqI:∀ (a b:List Int),PyData.eqvAll (pds (a.map W.int)) (pds (b.map W.int))=decide (a=b)
 | [],[]=>by simp [pds,PyData.eqvAll]
 | [],_::_=>by simp [pds,PyData.eqvAll]
 | _::_,[]=>by simp [pds,PyData.eqvAll]
 | x::a,y::b=>by
  simp only [List.map_cons,pds,pd,PyData.eqvAll,PyData.eqv,eqI a b]
  by_cases h:x=y <;> by_cases h':a=b <;> simp [h,h']
theorem fEq_tI (neg:Bool) (a b:List Int):fEq neg (tI a) (tI b)=.ok (.bl (if neg then !decide (a=b) else decide (a=b))):=by
 unfold fEq
 rw [shp_tI,shp_tI]
 have:eqW (tI a) (tI b)=decide (a=b):=eqI a b
 rw [this]; rfl
theorem fEq_lI (neg:Bool) (a b:List Int):fEq neg (lI a) (lI b)=.ok (.bl (if neg then !decide (a=b) else decide (a=b))):=by
 unfold fEq
 rw [shp_lI,shp_lI]
 have:eqW (lI a) (lI b)=decide (a=b):=eqI a b
 rw [this]; rfl
theorem eqSS:∀ (a b:List (List Int)),PyData.eqvAll (pds (a.map tI)) (pds (b.map tI))=decide (a=b)
 | [],[]=>by simp [pds,PyData.eqvAll]
 | [],_::_=>by simp [pds,PyData.eqvAll]
 | _::_,[]=>by simp [pds,PyData.eqvAll]
 | x::a,y::b=>by
  simp only [List.map_cons,pds,pd,PyData.eqvAll,PyData.eqv,eqSS a b,eqI]
  by_cases h:x=y <;> by_cases h':a=b <;> simp [h,h']
theorem fEq_lS (neg:Bool) (a b:List (List Int)):fEq neg (.lst (a.map tI)) (.lst (b.map tI))=.ok (.bl (if neg then !decide (a=b) else decide (a=b))):=by
 unfold fEq
 rw [shp_lS,shp_lS]
 have:eqW (.lst (a.map tI)) (.lst (b.map tI))=decide (a=b):=eqSS a b
 rw [this]; rfl
theorem fEq_ii (neg:Bool) (i j:Int):fEq neg (.int i) (.int j)=.ok (.bl (if neg then !decide (i=j) else decide (i=j))):=by
 unfold fEq
 rw [shp_int,shp_int]
 have:eqW (.int i) (.int j)=decide (i=j):=by
  by_cases h:i=j <;> simp [eqW,pd,PyData.eqv,h]
 rw [this]; rfl
theorem fEq_bb (neg:Bool) (i j:Bool):fEq neg (.bl i) (.bl j)=.ok (.bl (if neg then !decide (i=j) else decide (i=j))):=by
 unfold fEq
 rw [shp_bl,shp_bl]
 have:eqW (.bl i) (.bl j)=decide (i=j):=by cases i <;> cases j <;> rfl
 rw [this]; rfl
theorem fEq_ni (neg:Bool) (j:Int):fEq neg .non (.int j)=.ok (.bl neg):=by cases neg <;> rfl
theorem fEq_in (neg:Bool) (j:Int):fEq neg (.int j) .non=.ok (.bl neg):=by cases neg <;> rfl
theorem fEq_nn (neg:Bool):fEq neg .non .non=.ok (.bl (!neg)):=by cases neg <;> rfl
theorem fBools_m (g:List Bool->Bool) (bs:List Bool):fBools g [.lst (bs.map W.bl)]=.ok (.bl (g bs)):=by
 show (toR (blsW (bs.map W.bl))>>=_)=_
 rw [bls_map]; rfl
theorem fInts_m (g:List Int->Int) (ns:List Int):fInts g [.lst (ns.map W.int)]=.ok (.int (g ns)):=by
 show (toR (intsW (ns.map W.int))>>=_)=_
 rw [ints_map]; rfl
theorem fInt_i (i:Int):fInt [.int i]=.ok (.int i):=rfl
theorem fInt_b (b:Bool):fInt [.bl b]=.ok (.int (if b then 1 else 0)):=rfl
theorem fAbs_i (i:Int):fAbs [.int i]=.ok (.int (if i<0 then -i else i)):=rfl
def extS (o:Option Sl) (r:R W) (c:Bool) (i:Nat) (ρ:Rho):R Fl:=match o with
 | some (.own ws)=>r>>=fun w=>(match w with
  | .lst us=>if ws.length+us.length<=1000 then (if c||noLs us then .ok (.nx (ρ.set i (.own (ws++us)))) else .stuck) else .stuck
  | _=>.stuck)
 | _=>.stuck
theorem mExt_ap (i:Nat) (c:Bool) (m:Rho->R W) (ρ:Rho):mExt i c m ρ=extS (ρ[i]?) (m ρ) c i ρ:=rfl
theorem extS_c {ws us:List W} {c:Bool} {i:Nat} {ρ:Rho} (h:ws.length+us.length<=1000):extS (some (.own ws)) (.ok (.lst us)) c i ρ=if c||noLs us then .ok (.nx (ρ.set i (.own (ws++us)))) else .stuck:=by
 show (if ws.length+us.length<=1000 then _ else _)=_
 rw [if_pos h]
def revS (o:Option Sl) (i:Nat) (ρ:Rho):R Fl:=match o with
 | some (.own ws)=>.ok (.nx (ρ.set i (.own ws.reverse)))
 | _=>.stuck
theorem mRev_ap (i:Nat) (ρ:Rho):mRev i ρ=revS (ρ[i]?) i ρ:=rfl
theorem revS_ok (ws:List W) (i:Nat) (ρ:Rho):revS (some (.own ws)) i ρ=.ok (.nx (ρ.set i (.own ws.reverse))):=rfl
theorem po_cut {r:R Fl} {n:Rho->R Fl} {Jn:Rho->Prop} {Jr:W->Prop} (J:Rho->Prop) (h1:Po r J Jr) (h2:∀ ρ,J ρ->Po (n ρ) Jn Jr):Po (andThen r n) Jn Jr:=po_seq (h1.mono h2 fun _ h=>h)
theorem gAdd_ap (i j:Int):gAdd i j=.int (i+j):=rfl
theorem gSub_ap (i j:Int):TP.gSub i j=.int (i-j):=rfl
theorem gLt_ap (i j:Int):gLt i j=.bl (decide (i<j)):=rfl
theorem gLe_ap (i j:Int):gLe i j=.bl (decide (i<=j)):=rfl
theorem gGt_ap (i j:Int):gGt i j=.bl (decide (j<i)):=rfl
theorem gGe_ap (i j:Int):gGe i j=.bl (decide (j<=i)):=rfl
theorem gNeg_ap (i:Int):gNeg i=.int (-i):=rfl
theorem gAdd__ap (i j:Int):gAdd_ i j=i+j:=rfl
theorem gSub__ap (i j:Int):gSub_ i j=i-j:=rfl
theorem fStr_i {i:Int} (h:0<=i/\i<1000):fStr [.int i]=.ok (.str (toString i)):=by
 show (if i.natAbs.log2<1920 then _ else _)=_
 rw [if_pos]
 refine Nat.lt_of_le_of_lt (Nat.log2_le_self _) ?_
 omega
theorem fIsB_w (neg:Bool) (u:W) (b:Bool):fIsB neg u (.bl b)=.ok (.bl (if neg then !isBW u b else isBW u b)):=rfl
theorem isBW_i (i:Int) (b:Bool):isBW (.int i) b=false:=rfl
theorem isBW_n (b:Bool):isBW .non b=false:=rfl
theorem isBW_s (x:Str) (b:Bool):isBW (.str x) b=false:=rfl
theorem isBW_t (x:List W) (b:Bool):isBW (.tup x) b=false:=rfl
theorem isBW_l (x:List W) (b:Bool):isBW (.lst x) b=false:=rfl
theorem isBW_b (a b:Bool):isBW (.bl a) b=(a == b):=rfl
def Rcu (c:Bool) (r:R (List W)) (f:List W->R W) (i:Nat) (ρ:Rho):R Fl:=if c then (r>>=fun ws=>f ws>>=fun w=>.ok (.nx (ρ.set i (.par w)))) else .stuck
theorem sCU_ap (i:Nat) (f:List W->R W) (ma:Rho->R (List W)) (ρ:Rho):sCU i f ma ρ=Rcu (noOwn ρ) (ma ρ) f i ρ:=rfl
def Rcu2 (r:R W) (i:Nat) (ρ:Rho):R Fl:=r>>=fun w=>.ok (.nx (ρ.set i (.par w)))
theorem Rcu_t (ws:List W) (f:List W->R W) (i:Nat) (ρ:Rho):Rcu true (.ok ws) f i ρ=Rcu2 (f ws) i ρ:=rfl
theorem Rcu2_ok (w:W) (i:Nat) (ρ:Rho):Rcu2 (.ok w) i ρ=.ok (.nx (ρ.set i (.par w))):=rfl
theorem noOwn_nil:noOwn []=true:=rfl
theorem noOwn_v (w:W) (ρ:Rho):noOwn (.val w::ρ)=noOwn ρ:=rfl
theorem noOwn_p (w:W) (ρ:Rho):noOwn (.par w::ρ)=noOwn ρ:=rfl
theorem noOwn_u (ρ:Rho):noOwn (.un::ρ)=noOwn ρ:=rfl
theorem fBest_t {g:List Int->Int} {ns:List Int} (h:0<ns.length):fBest g [tI ns]=.ok (.int (g ns)):=by
 show (toR (intsW (ns.map W.int))>>=_)=_
 rw [ints_map]
 show (if 0<ns.length then _ else _)=_
 rw [if_pos h]
theorem fBest_l {g:List Int->Int} {ns:List Int} (h:0<ns.length):fBest g [lI ns]=.ok (.int (g ns)):=by
 show (toR (intsW (ns.map W.int))>>=_)=_
 rw [ints_map]
 show (if 0<ns.length then _ else _)=_
 rw [if_pos h]
theorem revW_l (ws:List W):revW [.lst ws]=.ok ws.reverse:=rfl
def rp0:=Z1 (@gMax_max) (Z1 (@gMin_min) (Z1 (@po_nx) (Z1 (@po_rt) (Z1 (@mul_L) (Z1 (@mul_R) (Z1 (@mod_ii) (Z1 (@div_ii) (Z1 (@pow_ii) (Z1 (@appS_c) (Z1 (@mkTup_c) (Z1 (@mkLst_c) (Z1 (@fCat_c) (Z1 (@fRep_1) (Z1 (@atW_c) (Z1 (@ixN_c) (Z1 (@rngW_c) (Z1 (@cutW_I) (Z1 (@setW_I) (Z1 (@appW_I) (Z1 (@repW_I) (Z1 (@mSeq_ap) (Z1 (@andThen_nx) (Z1 (@andThen_rt) (@andThen_bk))))))))))))))))))))))))
def rp1:=Z1 (@andThen_ct) (Z1 (@mC_ap) (Z1 (@b1_ap) (Z1 (@b2_ap) (Z1 (@R2b_ok) (Z1 (@bA_ap) (Z1 (@bI_ap) (Z1 (@bS_ap) (Z1 (@aN_ap) (Z1 (@aC_ap) (Z1 (@Rcons_ok) (Z1 (@bChk_ap) (Z1 (@bTest_ap) (Z1 (@tAnd_ap) (Z1 (@tOr_ap) (Z1 (@tNot_ap) (Z1 (@rAnd_ok) (Z1 (@rAnd_ff) (Z1 (@rAnd_tt) (Z1 (@rOr_ok) (Z1 (@rOr_tt) (Z1 (@rOr_ff) (Z1 (@rNot_ok) (Z1 (@vAnd_ap) (@vOr_ap))))))))))))))))))))))))
def rp2:=Z1 (@vNot_ap) (Z1 (@rAndV_ok) (Z1 (@rAndV_ff) (Z1 (@rAndV_tt) (Z1 (@rOrV_ok) (Z1 (@rOrV_tt) (Z1 (@rOrV_ff) (Z1 (@rNotV_ok) (Z1 (@vIf_ap) (Z1 (@rIfW_tt) (Z1 (@rIfW_ff) (Z1 (@rIfW_ok) (Z1 (@vChain_ap) (Z1 (@Rchain_ii) (Z1 (@vTup_ap) (Z1 (@vLst_ap) (Z1 (@pN_ap) (Z1 (@pS_ap) (Z1 (@partW_int) (Z1 (@vSl_ap) (Z1 (@Rsl_lst) (Z1 (@Rsl_scr) (Z1 (@vComp_ap) (Z1 (@Rcomp_ok) (@sNx_ap))))))))))))))))))))))))
def rp3:=Z1 (@sBk_ap) (Z1 (@sCt_ap) (Z1 (@sDrop_ap) (Z1 (@Rdrop_ok) (Z1 (@sRet_ap) (Z1 (@retK_ap) (Z1 (@sRetN_ap) (Z1 (@sV_ap) (Z1 (@sU_ap) (Z1 (@sF_ap) (Z1 (@Rset_ok) (Z1 (@slotF_lst) (Z1 (@slotF_tup) (Z1 (@slotF_int) (Z1 (@slotF_bl) (Z1 (@slotF_non) (Z1 (@slotF_str) (Z1 (@sG_ap) (Z1 (@Rasg_ok) (Z1 (@toNx_some) (Z1 (@sFor_ap) (Z1 (@Rfor_ok) (Z1 (@sFrz_ap) (Z1 (@frz_ap) (@frzS_own))))))))))))))))))))))))
def rp4:=Z1 (@frzS_val) (Z1 (@frzS_par) (Z1 (@frzS_un) (Z1 (@mVar_ap) (Z1 (@rdS_vF) (Z1 (@rdS_vV) (Z1 (@rdS_vU) (Z1 (@rdS_vC) (Z1 (@rdS_vB) (Z1 (@rdS_pF) (Z1 (@rdS_pV) (Z1 (@rdS_pU) (Z1 (@rdS_pC) (Z1 (@rdS_pB) (Z1 (@rdS_oC) (Z1 (@rdS_oB) (Z1 (@mRetVar_ap) (Z1 (@retS_own) (Z1 (@retS_val) (Z1 (@retS_par) (Z1 (@mApp_ap) (Z1 (@mSet_ap) (Z1 (@setS_ok) (Z1 (@setJ_some) (@mAug_ap))))))))))))))))))))))))
def rp5:=Z1 (@augS_ok) (Z1 (@mIf_ap) (Z1 (@ifS_tt) (Z1 (@ifS_ff) ((((((Z1 (@endB_rt) (Z1 (@endB_nx) (Z1 (@fI0_ii) (Z1 (@fU_i) (Z1 (@fIx_l) (Z1 (@fIx_t) (Z1 (@fIx_s) (Z1 (@toR_some) (Z1 (@toB_bl) (Z1 (@fLen_l) (Z1 (@fLen_t) (Z1 (@fLen_s) (Z1 (@fList_l) (Z1 (@fList_t) (Z1 (@fTup_l) (@fTup_t))))))))))))))))))))))))
def rp6:=Z1 (@chks_t) (Z1 (@chkT_t) (Z1 (@chks_I) (Z1 (@chkT_I) (Z1 (@chk_int) (Z1 (@chk_bl) (Z1 (@chk_str) (Z1 (@chk_non) (Z1 (@chk_tI) (Z1 (@f2_ii) (Z1 (@seqW_l) (Z1 (@seqW_t) (Z1 (@seqW_s) (Z1 (@rng1_i) (Z1 (@rng2_i) (Z1 (@gN_U) (Z1 (@gN_V) (Z1 (@gT_t) (Z1 (@gsCons_c) (Z1 (@gsNil_n) (Z1 (@fIsi_ap) (Z1 (@isi_nt) (Z1 (@isi_nl) (Z1 (@isi_lt) (@isi_tl))))))))))))))))))))))))
def rp7:=Z1 (@fIsN_n) (Z1 (@noLs_ints) (Z1 (@fEqS_ii) (Z1 (@fEqS_bb) (Z1 (@fEqS_ss) (Z1 (@fEqS_nn) (Z1 (@fEqS_ni) (@fEqS_in)))))))
def rp8:=Z1 (@oW_n) (Z1 (@oW_s) (Z1 (@chk_oW) (Z1 (@noLs_oW) (Z1 (@chks_O) (Z1 (@chkT_O) (Z1 (@isN_oW) (Z1 (@slotF_oW) (Z1 (@atO_c) (@appO)))))))))
def rp9:=Z1 (@noLs_S) (Z1 (@chks_S) (Z1 (@chkT_S) (Z1 (@atS_c) (Z1 (@appW_S) (Z1 (@cutW_S) (Z1 (@catW_S) (Z1 (@catW_I) (Z1 (@rngW_2) (Z1 (@fEq_tI) (Z1 (@fEq_lI) (Z1 (@fEq_lS) (Z1 (@fEq_ii) (Z1 (@fEq_bb) (Z1 (@fEq_ni) (Z1 (@fEq_in) (Z1 (@fEq_nn) ((Z1 (@fBools_m) (Z1 (@fInts_m) (Z1 (@fInt_i) (Z1 (@fInt_b) (Z1 (@fAbs_i) (Z1 (@mExt_ap) (Z1 (@extS_c) (Z1 (@mRev_ap) (@revS_ok))))))))))))))))))))))))))
def rp10:=Z1 (@gAdd_ap) (Z1 (@gSub_ap) (Z1 (@gLt_ap) (Z1 (@gLe_ap) (Z1 (@gGt_ap) (Z1 (@gGe_ap) (Z1 (@gNeg_ap) (Z1 (@gAdd__ap) (@gSub__ap))))))))
def rp11:=Z1 (@fStr_i) (Z1 (@fIsB_w) (Z1 (@isBW_i) (Z1 (@isBW_n) (Z1 (@isBW_s) (Z1 (@isBW_t) (Z1 (@isBW_l) (@isBW_b)))))))
def rp12:=Z1 (@sCU_ap) (Z1 (@Rcu_t) (Z1 (@Rcu2_ok) (Z1 (@noOwn_nil) (Z1 (@noOwn_v) (Z1 (@noOwn_p) (@noOwn_u))))))
def rp13:=Z1 (@fBest_t) (Z1 (@fBest_l) (@revW_l))
end TP
set_option maxHeartbeats 4000000
open PySem L2 TP
namespace K90
def m_place_of_puts:Rho->R Fl:=
 (mSeq (sFor (bI rng3 (aC (mC (.int 3)) (aC (bA fLen (aC (mVar .B 0) aN)) (aC (mC (.int 2)) aN)))) (gN .U 1)
   (mIf (bTest (b2 (fEqS false) (b2 fIx (mVar .B 0) (mVar .B 1)) (mC (.str "puts")))) (mRetVar .F 1) sNx))
  (sRet (mC .non)))
abbrev f_place_of_puts:List W->R W:=runB 1 2 m_place_of_puts
def m_is_made_of:Rho->R Fl:=
 (sRet (vAnd (b2 (fI0 gGt) (bA fLenS (aC (mVar .B 0) aN)) (mC (.int 0))) (bA (fBools gAll) (aC (vComp 3 (bSs (mVar .B 0)) (gN .U 2) yes (b2 (fSS cYes gInS) (mVar .B 2) (mVar .B 1))) aN))))
abbrev f_is_made_of:List W->R W:=runB 2 2 m_is_made_of
def m_must_be_new_name:Rho->R Fl:=
 (mSeq (mIf (tOr' (tNot' (bTest (bA f_is_made_of (aC (mVar .B 0) (aC (mC (.str "abcdefghijklmnopqrstuvwxyz")) aN))))) (bTest (b2 (fI0 gGt) (bA fLenS (aC (mVar .B 0) aN)) (mC (.int 8))))) sNever sNx)
  (mIf (mInS false 1 (mVar .B 0)) sNever sNx))
abbrev f_must_be_new_name:List W->R W:=runB 2 2 m_must_be_new_name
def m_count_of:Rho->R Fl:=
 (mSeq (mIf (tOr' (bTest (b2 (fI0 gGt) (bA fLenS (aC (mVar .B 0) aN)) (bA fLenS (aC (bA fStr (aC (mC (.int 1000000000)) aN)) aN)))) (tNot' (bTest (bA f_is_made_of (aC (mVar .B 0) (aC (mC (.str "0123456789")) aN)))))) (sRet (mC .non)) sNx)
  (mSeq (sF 1 (bA fIntS (aC (mVar .B 0) aN)))
  (sRet (vIf (tAnd' (bTest (b2 (fEqS false) (bA fStr (aC (mVar .B 1) aN)) (mVar .B 0))) (bTest (b2 (fI0 gLe) (mVar .B 1) (mC (.int 1000000000))))) (mVar .F 1) (mC .non)))))
abbrev f_count_of:List W->R W:=runB 1 2 m_count_of
def m_read_count:Rho->R Fl:=
 (mSeq (sF 2 (bA f_count_of (aC (mVar .B 0) aN)))
  (mSeq (mIf (tOr' (bTest (b2 (fIsN false) (mVar .B 2) (mC .non))) (bTest (b2 (fI0 gLt) (mVar .B 2) (mVar .B 1)))) sNever sNx)
  (mRetVar .F 2)))
abbrev f_read_count:List W->R W:=runB 2 3 m_read_count
def m_read_counts:Rho->R Fl:=
 (mSeq (mIf (bTest (b2 (fEqS false) (b2 (fI cMod gMod) (bA fLen (aC (mVar .B 0) aN)) (mC (.int 2))) (mC (.int 1)))) sNever sNx)
  (mSeq (mDNewS 2)
  (mSeq (sFor (bI zipR (aC (vSt2 false (mVar .B 0) pN (pS (mC (.int 2)))) (aC (vSt2 false (mVar .B 0) (pS (mC (.int 1))) (pS (mC (.int 2)))) aN))) (gT 2 (gsCons (gN .U 3) (gsCons (gN .U 4) gsNil)))
   (mSeq (mIf (tOr' (mInS true 1 (mVar .B 4)) (mInS false 2 (mVar .B 4))) sNever sNx)
   (mPutS 2 (mVar .B 4) (bA f_read_count (aC (mVar .B 3) (aC (mC (.int 1)) aN))))))
  (sRet (bA (fTup true) (aC (vComp 6 (mDit 1) (gN .U 5) yes (mGetS 2 (mVar .B 5) (mC (.int 0)))) aN))))))
abbrev f_read_counts:List W->R W:=runB 2 5 m_read_counts
def m_read_move:Rho->R Fl:=
 (mSeq (nb (sF 3 (bA f_place_of_puts (aC (mVar .B 0) aN))))
  (mSeq (nb (mIf (tOr' (bTest (b2 (fEq true) (vSl false (mVar .B 0) (pS (mC (.int 2))) (pS (mC (.int 3)))) (vLst (aC (mC (.str "takes")) aN)))) (bTest (b2 (fIsN false) (mVar .B 3) (mC .non)))) sNever sNx))
  (mSeq (nb (sDrop (bA f_must_be_new_name (aC (b2 fIx (mVar .B 0) (mC (.int 1))) (aC (mVar .B 2) aN)))))
  (sPutP 2 (b2 fIx (mVar .B 0) (mC (.int 1))) (vTup (aC (bA f_read_counts (aC (vSl false (mVar .B 0) (pS (mC (.int 3))) (pS (mVar .B 3))) (aC (mVar .B 1) aN))) (aC (bA f_read_counts (aC (vSl false (mVar .B 0) (pS (b2 (fI0 gAdd) (mVar .B 3) (mC (.int 1)))) pN) (aC (mVar .B 1) aN))) aN)))))))
abbrev f_read_move:List W->R W:=runB 3 4 m_read_move
def m_read_place:Rho->R Fl:=
 (mSeq (nb (mIf (bTest (b2 (fEqS true) (bA fLen (aC (mVar .B 0) aN)) (mC (.int 3)))) sNever sNx))
  (mSeq (nb (sDrop (bA f_must_be_new_name (aC (b2 fIx (mVar .B 0) (mC (.int 1))) (aC (mVar .B 1) aN)))))
  (sPutP 1 (b2 fIx (mVar .B 0) (mC (.int 1))) (bA f_read_count (aC (b2 fIx (mVar .B 0) (mC (.int 2))) (aC (mC (.int 0)) aN))))))
abbrev f_read_place:List W->R W:=runB 2 2 m_read_place
def m_read:Rho->R Fl:=
 (mSeq (mIf (tNot' (bTest (bA fIsi (aC (mVar .B 0) (aC (mC (.ty "str")) aN))))) sNever sNx)
  (mSeq (mDNewS 1)
  (mSeq (mDNewS 2)
  (mSeq (sFor (bS (mSpl (mVar .B 0) (mC (.str "; ")))) (gN .U 3)
   (mSeq (sF 4 (mSpl (mVar .B 3) (mC (.str " "))))
   (mIf (bTest (b2 (fEqS false) (b2 fIx (mVar .B 4) (mC (.int 0))) (mC (.str "move")))) (mCP3 1 2 f_read_move (mVar .B 4)) (mIf (tAnd' (bTest (b2 (fEqS false) (b2 fIx (mVar .B 4) (mC (.int 0))) (mC (.str "place")))) (bTest (b2 (fEqS false) (eLenS 2) (mC (.int 0))))) (mCP2 1 f_read_place (mVar .B 4)) sNever))))
  (mSeq (mIf (tOr' (tNot' (bTest (vChain (fI0 gLe) (fI0 gLe) (mC (.int 1)) (eLenS 1) (mC (.int 6))))) (bTest (b2 (fI0 gGt) (eLenS 2) (mC (.int 8))))) sNever sNx)
  (mSeq (sF 5 (vTup (aC (mValsS 1) (aC (mValsS 2) aN))))
  (sRet (vTup (aC (mVar .V 5) (aC (mKeysS 1) (aC (mKeysS 2) aN)))))))))))
abbrev f_read:List W->R W:=runB 1 6 m_read
def m_shown_counts:Rho->R Fl:=
 (sRet (vComp 4 (bI zipR (aC (mVar .B 1) (aC (mVar .B 0) aN))) (gT 2 (gsCons (gN .U 2) (gsCons (gN .U 3) gsNil))) (bTest (b2 (fI0 gGt) (mVar .B 3) (mC (.int 0)))) (mFp [(mVar .B 3),mC (.str " "),(mVar .B 2)])))
abbrev f_shown_counts:List W->R W:=runB 2 2 m_shown_counts
def m_shown:Rho->R Fl:=
 (mSeq (sF 3 (vComp 9 (bI zipR (aC (mVar .B 1) (aC (b2 fIx (mVar .B 0) (mC (.int 0))) aN))) (gT 2 (gsCons (gN .U 7) (gsCons (gN .U 8) gsNil))) yes (mFp [mC (.str "place "),(mVar .B 7),mC (.str " "),(mVar .B 8)])))
  (mSeq (sFor (bI zipR (aC (mVar .U 2) (aC (b2 fIx (mVar .B 0) (mC (.int 1))) aN))) (gT 2 (gsCons (gN .U 4) (gsCons (gN .U 5) gsNil)))
   (mSeq (sF 6 (b2 (fCat true) (b2 (fCat true) (b2 (fCat true) (vLst (aC (mC (.str "move")) (aC (mVar .V 4) (aC (mC (.str "takes")) aN)))) (bA f_shown_counts (aC (b2 fIx (mVar .B 5) (mC (.int 0))) (aC (mVar .B 1) aN)))) (vLst (aC (mC (.str "puts")) aN))) (bA f_shown_counts (aC (b2 fIx (mVar .B 5) (mC (.int 1))) (aC (mVar .B 1) aN)))))
   (mApp 3 (mJoi (mC (.str " ")) (mVar .B 6)))))
  (sRet (mJoi (mC (.str "; ")) (mVar .B 3)))))
abbrev f_shown:List W->R W:=runB 3 7 m_shown
def m__law_cell:Rho->R Fl:=
 (mSeq (mIf (bTest (b2 (fI0 gLt) (mVar .B 1) (bA fLen (aC (mVar .B 0) aN)))) (sRet (bChk (b2 fIx (mVar .B 0) (mVar .B 1)))) sNx)
  (mSeq (sV 2 (b2 (fI0 gAdd) (b2 (fI CMulB gMul) (mC (.int 80021)) (mVar .B 1)) (mC (.int 13))))
  (mSeq (mIf (bTest (b2 (fI0 gGt) (bA fLen (aC (mVar .B 0) aN)) (mC (.int 0)))) (sV 2 (b2 (fI0 gAdd) (b2 (fI0 gAdd) (b2 (fI CMulB gMul) (b2 fIx (mVar .B 0) (b2 (fI cMod gMod) (b2 (fI CMulB gMul) (mVar .B 1) (mC (.int 29))) (bA fLen (aC (mVar .B 0) aN)))) (mC (.int 48271))) (b2 (fI CMulB gMul) (b2 (fI CMulB gMul) (mVar .B 1) (mVar .B 1)) (mC (.int 1009)))) (mC (.int 7)))) sNx)
  (sRet (b2 (fI cMod gMod) (b2 (fI CMulB gMul) (mVar .B 2) (mVar .B 2)) (mC (.int 2147483647)))))))
abbrev f__law_cell:List W->R W:=runB 2 3 m__law_cell
def m__law_count:Rho->R Fl:=
 (mSeq (mIf (bTest (b2 (fEqS false) (b2 (fI cMod gMod) (mVar .B 0) (mC (.int 3))) (mC (.int 0)))) (sRet (mC (.int 0))) sNx)
  (mSeq (mIf (bTest (b2 (fEqS false) (b2 (fI cMod gMod) (b2 (fI CDiv gDiv) (mVar .B 0) (mC (.int 3))) (mC (.int 7))) (mC (.int 4)))) (sRet (b2 (fI cMod gMod) (b2 (fI CMulB gMul) (b2 (fI CDiv gDiv) (mVar .B 0) (mC (.int 21))) (mC (.int 48271))) (b2 (fI0 gAdd) (b2 (fI CPow gPow) (mC (.int 10)) (mC (.int 9))) (mC (.int 1))))) sNx)
  (sRet (b2 (fI0 gAdd) (mC (.int 1)) (b2 (fI cMod gMod) (b2 (fI CDiv gDiv) (mVar .B 0) (mC (.int 21))) (mC (.int 9)))))))
abbrev f__law_count:List W->R W:=runB 1 1 m__law_count
def m__law_letters:Rho->R Fl:=
 (mSeq (sV 2 (mC (.str "")))
  (mSeq (sFor (bI rng1 (aC (mVar .B 1) aN)) (gN .U 3)
   (mSeq (sV 2 (b2 (fSS cCatS gCatS) (mVar .B 2) (b2 fIxS (mC (.str "abcdefghijklmnopqrstuvwxyz")) (b2 (fI cMod gMod) (mVar .B 0) (mC (.int 26))))))
   (sV 0 (b2 (fI CDiv gDiv) (mVar .B 0) (mC (.int 26))))))
  (mRetVar .F 2)))
abbrev f__law_letters:List W->R W:=runB 2 4 m__law_letters
def m__law_name:Rho->R Fl:=
 (mSeq (mIf (bTest (b2 (fEqS false) (b2 (fI cMod gMod) (mVar .B 0) (mC (.int 6))) (mC (.int 1)))) (sRet (bChk (b2 fIx (vLst (aC (mC (.str "takes")) (aC (mC (.str "puts")) (aC (mC (.str "place")) (aC (mC (.str "move")) (aC (mC (.str "a")) (aC (mC (.str "aa")) (aC (mC (.str "z")) (aC (mC (.str "zzzzzzzz")) aN))))))))) (b2 (fI cMod gMod) (b2 (fI CDiv gDiv) (mVar .B 0) (mC (.int 6))) (mC (.int 8)))))) sNx)
  (sRet (bA f__law_letters (aC (b2 (fI cMod gMod) (b2 (fI CMulB gMul) (b2 (fI CDiv gDiv) (mVar .B 0) (mC (.int 48))) (mC (.int 69621))) (mC (.int 208827064573))) (aC (b2 (fI0 gAdd) (mC (.int 1)) (b2 (fI cMod gMod) (b2 (fI CDiv gDiv) (mVar .B 0) (mC (.int 6))) (mC (.int 8)))) aN)))))
abbrev f__law_name:List W->R W:=runB 1 1 m__law_name
def m__law_names:Rho->R Fl:=
 (mSeq (sF 3 (vLst aN))
  (mSeq (sFor (bI rng1 (aC (mVar .B 2) aN)) (gN .U 4)
   (mSeq (sV 5 (b2 (fI cMod gMod) (bA f__law_cell (aC (mVar .B 0) (aC (b2 (fI0 gAdd) (mVar .B 1) (mVar .B 4)) aN))) (b2 (fI CPow gPow) (mC (.int 10)) (mC (.int 18)))))
   (mSeq (mWhile (bTest (b2 (fIn false) (bA f__law_name (aC (mVar .B 5) aN)) (mVar .B 3))) (sV 5 (b2 (fI0 gAdd) (mVar .B 5) (mC (.int 1)))))
   (mApp 3 (bA f__law_name (aC (mVar .B 5) aN))))))
  (mRetVar .F 3)))
abbrev f__law_names:List W->R W:=runB 3 6 m__law_names
def m__law_alike_names:Rho->R Fl:=
 (mSeq (sV 2 (b2 (fI0 gAdd) (mC (.int 1)) (b2 (fI cMod gMod) (mVar .B 0) (mC (.int 8)))))
  (mSeq (sF 3 (bA f__law_letters (aC (b2 (fI cMod gMod) (b2 (fI CDiv gDiv) (mVar .B 0) (mC (.int 8))) (b2 (fI CPow gPow) (mC (.int 10)) (mC (.int 15)))) (aC (mVar .B 2) aN))))
  (mSeq (sV 4 (b2 (fI cMod gMod) (b2 (fI CDiv gDiv) (mVar .B 0) (mC (.int 64))) (mVar .B 2)))
  (mSeq (sF 5 (vLst aN))
  (mSeq (sFor (bI rng1 (aC (mVar .B 1) aN)) (gN .U 6)
   (mSeq (sV 7 (b2 fIxS (mC (.str "qwertyuiopasdfghjklzxcvbnm")) (b2 (fI cMod gMod) (b2 (fI0 gAdd) (b2 (fI CDiv gDiv) (mVar .B 0) (mC (.int 512))) (b2 (fI CMulB gMul) (mC (.int 5)) (mVar .B 6))) (mC (.int 26)))))
   (mApp 5 (b2 (fSS cCatS gCatS) (b2 (fSS cCatS gCatS) (vSlS (mVar .B 3) pN (pS (mVar .B 4))) (mVar .B 7)) (vSlS (mVar .B 3) (pS (b2 (fI0 gAdd) (mVar .B 4) (mC (.int 1)))) pN)))))
  (mRetVar .F 5))))))
abbrev f__law_alike_names:List W->R W:=runB 2 8 m__law_alike_names
def m__law_told:Rho->R Fl:=
 (mSeq (sF 3 (vLst aN))
  (mSeq (sFor (bI rng1 (aC (bA fLen (aC (mVar .B 1) aN)) aN)) (gN .U 4)
   (mSeq (sV 5 (b2 (fI cMod gMod) (b2 (fI0 gAdd) (mVar .B 4) (mVar .B 2)) (bA fLen (aC (mVar .B 1) aN))))
   (mIf (bTest (b2 (fI0 gGt) (b2 fIx (mVar .B 0) (mVar .B 5)) (mC (.int 0)))) (mApp 3 (b2 (fSS cCatS gCatS) (b2 (fSS cCatS gCatS) (b2 (fSS cCatS gCatS) (mC (.str " ")) (bA fStr (aC (b2 fIx (mVar .B 0) (mVar .B 5)) aN))) (mC (.str " "))) (b2 fIx (mVar .B 1) (mVar .B 5)))) sNx)))
  (sRet (mJoi (mC (.str "")) (mVar .B 3)))))
abbrev f__law_told:List W->R W:=runB 3 6 m__law_told
def m__law_text:Rho->R Fl:=
 (mSeq (sF 5 (vComp 10 (bI rng1 (aC (bA fLen (aC (mVar .B 2) aN)) aN)) (gN .U 9) yes (b2 (fSS cCatS gCatS) (b2 (fSS cCatS gCatS) (b2 (fSS cCatS gCatS) (mC (.str "place ")) (b2 fIx (mVar .B 2) (mVar .B 9))) (mC (.str " "))) (bA fStr (aC (b2 fIx (mVar .B 0) (mVar .B 9)) aN)))))
  (mSeq (sFor (bI rng1 (aC (bA fLen (aC (mVar .B 1) aN)) aN)) (gN .U 6)
   (mSeq (sF 7 (bA f__law_told (aC (b2 fIx (b2 fIx (mVar .B 1) (mVar .B 6)) (mC (.int 0))) (aC (mVar .B 2) (aC (mVar .B 4) aN)))))
   (mSeq (sF 8 (bA f__law_told (aC (b2 fIx (b2 fIx (mVar .B 1) (mVar .B 6)) (mC (.int 1))) (aC (mVar .B 2) (aC (b2 (fI CMulB gMul) (mC (.int 2)) (mVar .B 4)) aN)))))
   (mApp 5 (b2 (fSS cCatS gCatS) (b2 (fSS cCatS gCatS) (b2 (fSS cCatS gCatS) (b2 (fSS cCatS gCatS) (b2 (fSS cCatS gCatS) (mC (.str "move ")) (b2 fIx (mVar .B 3) (mVar .B 6))) (mC (.str " takes"))) (mVar .B 7)) (mC (.str " puts"))) (mVar .B 8))))))
  (sRet (mJoi (mC (.str "; ")) (mVar .B 5)))))
abbrev f__law_text:List W->R W:=runB 5 9 m__law_text
def m__law_whole_counts:Rho->R Fl:=
 (mSeq (mIf (tOr' (tNot' (bTest (bA fIsi (aC (mVar .B 0) (aC (mC (.ty "tuple")) aN))))) (bTest (b2 (fEqS true) (bA fLen (aC (mVar .B 0) aN)) (mVar .B 1)))) (sRet (mC (.bl false))) sNx)
  (sRet (b2 (fEqS false) (bA fLen (aC (vComp 3 (bS (mVar .B 0)) (gN .U 2) (tOr' (tNot' (bTest (bA fIsi (aC (mVar .B 2) (aC (mC (.ty "int")) aN))))) (bTest (bA fIsi (aC (mVar .B 2) (aC (mC (.ty "bool")) aN))))) (mVar .V 2)) aN)) (mC (.int 0)))))
abbrev f__law_whole_counts:List W->R W:=runB 2 2 m__law_whole_counts
def m__law_moor_told:Rho->R Fl:=
 (mSeq (mIf (tOr' (tNot' (bTest (bA fIsi (aC (mVar .B 0) (aC (mC (.ty "tuple")) aN))))) (tOr' (bTest (b2 (fEqS true) (bA fLen (aC (mVar .B 0) aN)) (mC (.int 2)))) (tNot' (bTest (bA f__law_whole_counts (aC (b2 fIx (mVar .B 0) (mC (.int 0))) (aC (bA fLen (aC (mVar .B 1) aN)) aN))))))) (sRet (mC (.bl false))) sNx)
  (mSeq (mIf (tOr' (tNot' (bTest (bA fIsi (aC (b2 fIx (mVar .B 0) (mC (.int 1))) (aC (mC (.ty "tuple")) aN))))) (bTest (b2 (fEqS true) (bA fLen (aC (b2 fIx (mVar .B 0) (mC (.int 1))) aN)) (bA fLen (aC (mVar .B 2) aN))))) (sRet (mC (.bl false))) sNx)
  (mSeq (sFor (bS (b2 fIx (mVar .B 0) (mC (.int 1)))) (gN .U 3)
   (mSeq (mIf (tOr' (tNot' (bTest (bA fIsi (aC (mVar .B 3) (aC (mC (.ty "tuple")) aN))))) (bTest (b2 (fEqS true) (bA fLen (aC (mVar .B 3) aN)) (mC (.int 2))))) (sRet (mC (.bl false))) sNx)
   (mIf (tOr' (tNot' (bTest (bA f__law_whole_counts (aC (b2 fIx (mVar .B 3) (mC (.int 0))) (aC (bA fLen (aC (mVar .B 1) aN)) aN))))) (tNot' (bTest (bA f__law_whole_counts (aC (b2 fIx (mVar .B 3) (mC (.int 1))) (aC (bA fLen (aC (mVar .B 1) aN)) aN)))))) (sRet (mC (.bl false))) sNx)))
  (sRet (b2 (fEq false) (mVar .B 0) (vTup (aC (mVar .U 1) (aC (mVar .U 2) aN))))))))
abbrev f__law_moor_told:List W->R W:=runB 3 4 m__law_moor_told
def m__law_read:Rho->R Fl:=
 (mSeq (mIf (tOr' (tNot' (bTest (bA fIsi (aC (mVar .B 0) (aC (mC (.ty "tuple")) aN))))) (tOr' (bTest (b2 (fEqS true) (bA fLen (aC (mVar .B 0) aN)) (mC (.int 3)))) (tNot' (bTest (bA f__law_moor_told (aC (b2 fIx (mVar .B 0) (mC (.int 0))) (aC (mVar .B 1) (aC (mVar .B 2) aN)))))))) (sRet (mC (.bl false))) sNx)
  (mSeq (mIf (tOr' (tNot' (bTest (bA fIsi (aC (b2 fIx (mVar .B 0) (mC (.int 1))) (aC (mC (.ty "list")) aN))))) (tNot' (bTest (bA fIsi (aC (b2 fIx (mVar .B 0) (mC (.int 2))) (aC (mC (.ty "list")) aN)))))) (sRet (mC (.bl false))) sNx)
  (sRet (vAnd (b2 (fEq false) (b2 fIx (mVar .B 0) (mC (.int 1))) (mVar .B 3)) (b2 (fEq false) (b2 fIx (mVar .B 0) (mC (.int 2))) (mVar .B 4))))))
abbrev f__law_read:List W->R W:=runB 5 5 m__law_read
def m_law:Rho->R Fl:=
 (mSeq (sV 1 (b2 (fI0 gAdd) (mC (.int 1)) (b2 (fI cMod gMod) (bA f__law_cell (aC (mVar .B 0) (aC (mC (.int 0)) aN))) (mC (.int 6)))))
  (mSeq (sF 2 (vLst aN))
  (mSeq (sFor (bI rng1 (aC (b2 (fI cMod gMod) (bA f__law_cell (aC (mVar .B 0) (aC (mC (.int 1)) aN))) (mC (.int 9))) aN)) (gN .U 3)
   (mSeq (sV 4 (b2 (fI0 gAdd) (mC (.int 22)) (b2 (fI CMulB gMul) (b2 (fI CMulB gMul) (mC (.int 2)) (mVar .B 1)) (mVar .B 3))))
   (mSeq (sF 5 (bA (fTup true) (aC (vComp 16 (bI rng1 (aC (mVar .B 1) aN)) (gN .U 15) yes (bA f__law_count (aC (bA f__law_cell (aC (mVar .B 0) (aC (b2 (fI0 gAdd) (mVar .B 4) (b2 (fI CMulB gMul) (mC (.int 2)) (mVar .B 15))) aN))) aN))) aN)))
   (mApp 2 (vTup (aC (mVar .V 5) (aC (bA (fTup true) (aC (vComp 16 (bI rng1 (aC (mVar .B 1) aN)) (gN .U 15) yes (bA f__law_count (aC (bA f__law_cell (aC (mVar .B 0) (aC (b2 (fI0 gAdd) (b2 (fI0 gAdd) (mVar .B 4) (b2 (fI CMulB gMul) (mC (.int 2)) (mVar .B 15))) (mC (.int 1))) aN))) aN))) aN)) aN)))))))
  (mSeq (sF 2 (bA (fTup true) (aC (mVar .C 2) aN)))
  (mSeq (sF 6 (bA (fTup true) (aC (vComp 16 (bI rng1 (aC (mVar .B 1) aN)) (gN .U 15) yes (bA f__law_count (aC (bA f__law_cell (aC (mVar .B 0) (aC (b2 (fI0 gAdd) (mC (.int 2)) (mVar .B 15)) aN))) aN))) aN)))
  (mSeq (sF 7 (bA f__law_names (aC (mVar .B 0) (aC (mC (.int 8)) (aC (mVar .B 1) aN)))))
  (mSeq (mIf (bTest (b2 (fEqS false) (b2 (fI cMod gMod) (bA f__law_cell (aC (mVar .B 0) (aC (mC (.int 20)) aN))) (mC (.int 2))) (mC (.int 1)))) (sF 7 (bA f__law_alike_names (aC (b2 (fI CDiv gDiv) (bA f__law_cell (aC (mVar .B 0) (aC (mC (.int 20)) aN))) (mC (.int 2))) (aC (mVar .B 1) aN)))) sNx)
  (mSeq (sF 8 (bA f__law_names (aC (mVar .B 0) (aC (mC (.int 13)) (aC (bA fLen (aC (mVar .B 2) aN)) aN)))))
  (mSeq (mIf (bTest (b2 (fEqS false) (b2 (fI cMod gMod) (bA f__law_cell (aC (mVar .B 0) (aC (mC (.int 21)) aN))) (mC (.int 3))) (mC (.int 1)))) (sF 8 (bA f__law_alike_names (aC (b2 (fI CDiv gDiv) (bA f__law_cell (aC (mVar .B 0) (aC (mC (.int 21)) aN))) (mC (.int 3))) (aC (bA fLen (aC (mVar .B 2) aN)) aN)))) sNx)
  (mSeq (mIf (tAnd' (bTest (b2 (fEqS false) (b2 (fI cMod gMod) (bA f__law_cell (aC (mVar .B 0) (aC (mC (.int 21)) aN))) (mC (.int 3))) (mC (.int 2)))) (bTest (b2 (fI0 gLe) (bA fLen (aC (mVar .B 2) aN)) (mVar .B 1)))) (sF 8 (vSl true (mVar .C 7) pN (pS (bA fLen (aC (mVar .B 2) aN))))) sNx)
  (mSeq (sF 9 (bA f__law_text (aC (mVar .B 6) (aC (mVar .B 2) (aC (mVar .B 7) (aC (mVar .B 8) (aC (mC (.int 0)) aN)))))))
  (mSeq (sF 10 (bA f__law_text (aC (mVar .B 6) (aC (mVar .B 2) (aC (mVar .B 7) (aC (mVar .B 8) (aC (b2 (fI cMod gMod) (bA f__law_cell (aC (mVar .B 0) (aC (mC (.int 7)) aN))) (mC (.int 6))) aN)))))))
  (mSeq (sFor (bS (vLst (aC (mVar .V 9) (aC (mVar .V 10) (aC (mVar .V 9) aN))))) (gN .U 11)
   (mK 12 f_read (aC (mVar .B 11) aN)
   (tNot' (bTest (bA f__law_read (aC (mVar .B 12) (aC (mVar .B 6) (aC (mVar .B 2) (aC (mVar .B 7) (aC (mVar .B 8) aN))))))))))
  (mSeq (sF 13 (vLst (aC (bA (fList true) (aC (mVar .C 7) aN)) (aC (bA (fList true) (aC (mVar .C 8) aN)) aN))))
  (mSeq (sFrz 2 (sF 12 (bA f_shown (aC (vTup (aC (mVar .U 6) (aC (mVar .U 2) aN))) (aC (b2 fIx (mVar .B 13) (mC (.int 0))) (aC (b2 fIx (mVar .B 13) (mC (.int 1))) aN))))))
  (mSeq (sFrz 8 (sFrz 7 (mIf (tOr' (tNot' (bTest (bA fIsi (aC (mVar .B 12) (aC (mC (.ty "str")) aN))))) (tOr' (bTest (b2 (fEqS true) (mVar .B 12) (mVar .B 9))) (bTest (b2 (fEq true) (mVar .B 13) (vLst (aC (mVar .V 7) (aC (mVar .V 8) aN))))))) (sRet (mC (.bl false))) sNx)))
  (mSeq (sF 14 (b2 fCatT (vTup (aC (b2 (fI0 gAdd) (b2 (fI0 gAdd) (b2 fIx (mVar .B 6) (mC (.int 0))) (b2 (fI CPow gPow) (mC (.int 10)) (mC (.int 9)))) (b2 (fI cModZ gMz) (bA f__law_cell (aC (mVar .B 0) (aC (mC (.int 6)) aN))) (b2 (fI CPow gPow) (mC (.int 10)) (mC (.int 40))))) aN)) (vSlT (mVar .B 6) (pS (mC (.int 1))) pN)))
  (sFrz 2 (sFrz 14 (sRet (b2 (fEqS false) (bA f_shown (aC (vTup (aC (mVar .U 14) (aC (mVar .U 2) aN))) (aC (mVar .B 7) (aC (mVar .B 8) aN)))) (bA f__law_text (aC (mVar .B 14) (aC (mVar .B 2) (aC (mVar .B 7) (aC (mVar .B 8) (aC (mC (.int 0)) aN)))))))))))))))))))))))))))
abbrev f_law:List W->R W:=runB 1 15 m_law
end K90
set_option maxHeartbeats 4000000
open PySem L2 TP
namespace K90
--RPX: mulB_L, mulB_R, mulB_b, rps1, rps2, rps3, vSlT_ap, Rst_I
def rp14:=Z1 (@isi_bb) (Z1 (@isi_bi) (Z1 (@isi_ib) (Z1 (@isi_ii) (Z1 (@isi_tt) (Z1 (@isi_ll) (Z1 (@isi_ni) (Z1 (@isi_nb) (Z1 (@isi_si) (Z1 (@isi_sb) (Z1 (@isi_li) (Z1 (@isi_lb) (Z1 (@isi_ti) (@isi_tb)))))))))))))
def rp15:=Z1 (@Bool.not_true) (Z1 (@Bool.not_false) (Z1 (@Bool.true_or) (Z1 (@Bool.or_true) (Z1 (@Bool.false_or) (Z1 (@Bool.or_false) (Z1 (@Bool.true_and) (Z1 (@Bool.and_true) (Z1 (@Bool.false_and) (Z1 (@Bool.and_false) (Z1 (@Int.sub_zero) (Z1 (@Int.zero_add) (Z1 (@Int.toNat_natCast) (Z1 (@Bool.false_eq_true) (Z1 (@Bool.true_eq_false) (Z1 (@and_true) (Z1 (@true_and) (Z1 (@or_true) (Z1 (@true_or) (@and_self)))))))))))))))))))
def rp18:=Z1 (@List.length_cons.{0}) (Z1 (@List.length_nil.{0}) (Z1 (@List.length_map.{0,0}) (Z1 (@List.length_append.{0}) (Z1 (@List.length_set.{0}) (@List.length_range)))))
def rp16:=Z1 rp14 (Z1 rp15 (Z1 rp13 (Z1 rp12 (Z1 rp11 (Z1 rp10 (Z1 rp9 (Z1 rp8 (Z1 rp0 (Z1 rp1 (Z1 rp2 (Z1 rp3 (Z1 rp4 (Z1 rp5 (Z1 rp6 rp7))))))))))))))
def rp17:=Z1 (@List.map_cons.{0,0}) (Z1 (@List.map_nil.{0,0}) (Z1 (@List.replicate_succ.{0}) (Z1 (@List.replicate_zero.{0}) (Z1 (@List.cons_append.{0}) (Z1 (@List.nil_append.{0}) (Z1 (@List.append_nil.{0}) (Z1 (@R.ok_bind) (Z1 (@R.stuck_bind) (@R.ex_bind)))))))))
def rp19:=Z1 (@beq_self_eq_true.{0}) (Z1 (@Option.isNone_none.{0}) (Z1 (@Option.isNone_some.{0}) (Z1 (@Option.bind_some.{0,0}) (Z1 (@if_true.{1}) (Z1 (@if_false.{1}) (Z1 (@decide_true) (@decide_false)))))))
abbrev cl (x:Str):List Nat:=x.cps.toList
abbrev num (c:Int):Str:=Str.ofString (toString c)
theorem cl_app (x y:Str):cl (x++y)=cl x++cl y:=by show (x++y).cps.toList=_; rw [Str.cps_append,Array.toList_append]
theorem cl_len (x:Str):(cl x).length=x.length:=Array.length_toList
theorem cl_inj {x y:Str} (h:cl x=cl y):x=y:=Str.ext' (Array.toList_inj.mp h)
theorem at_c {x y:Str} {c:Nat} {r:List Nat} (hy:cl y=c::r) {k:Nat} (h:StrLaws.At x y x.length k):(cl x)[k]?=some c:=by
 have h2:=h.2
 rw [StrLaws.subAt_eq] at h2
 have h3:=eq_of_beq h2
 have e:y.length=r.length+1:=by rw [<- cl_len,hy]; rfl
 have h4:((cl x).drop k).take (r.length+1)=c::r:=by rw [<- e,<- hy]; exact h3
 have e0:(((cl x).drop k).take (r.length+1))[0]?=some c:=by rw [h4]; rfl
 rw [List.getElem?_take_of_lt (by omega),List.getElem?_drop] at e0
 exact e0
theorem join_cons2 (y p q:Str) (r:List Str):Str.join y (p::q::r)=p++y++Str.join y (q::r):=rfl
theorem parts_of {x y:Str} {c:Nat} {r:List Nat} (hy:cl y=c::r):∀ (ps:List Str) (p:Str) (a:Nat) (cuts:List Nat) (f:Nat),(∀ q∈p::ps,c∉cl q)->(cl x).drop a=cl (Str.join y (p::ps))->a<=x.length->StrLaws.ChainG x y x.length a cuts f->(∀ k,f<=k->¬ StrLaws.At x y x.length k)->StrLaws.partsFrom x y.length a cuts=p::ps
 | [],p,a,cuts,f,hq,hx,ha,hc,hn=>by
  have hx':(cl x).drop a=cl p:=hx
  have no:∀ k,a<=k->¬ StrLaws.At x y x.length k:=fun k hk hA=>by
   have e:=at_c hy hA
   have e2:((cl x).drop a)[k-a]?=some c:=by rw [List.getElem?_drop,Nat.add_sub_cancel' hk]; exact e
   rw [hx'] at e2
   exact hq p (List.mem_cons_self ..) (List.mem_of_getElem? e2)
  cases cuts with
  | nil=>
   show [Builtin.Str.strSub x a x.length] = [p]
   congr 1
   apply cl_inj
   show (Builtin.Str.strSub x a x.length).cps.toList=_
   rw [StrLaws.strSub_toList,show x.cps.toList=cl x from rfl,hx']
   refine List.take_of_length_le ?_
   rw [<- hx',List.length_drop,cl_len]
   exact Nat.le_refl _
  | cons d cuts=>exact absurd hc.2.1 (no d hc.1)
 | q::ps,p,a,cuts,f,hq,hx,ha,hc,hn=>by
  rw [join_cons2,cl_app,cl_app,List.append_assoc] at hx
  have hl:(cl x).length=x.length:=cl_len x
  have hly:(cl y).length=y.length:=cl_len y
  have ltot:x.length-a=(cl p).length+(y.length+(cl (Str.join y (q::ps))).length):=by
   have:=congrArg List.length hx
   rw [List.length_drop,List.length_append,List.length_append,hl,hly] at this
   exact this
  have hlp:(cl p).length=p.length:=cl_len p
  have hd:(cl x).drop (a+p.length)=cl y++cl (Str.join y (q::ps)):=by
   rw [<- List.drop_drop,hx,<- hlp,List.drop_left]
  have hA:StrLaws.At x y x.length (a+p.length):=by
   refine ⟨by omega,?_⟩
   rw [StrLaws.subAt_eq,show x.cps.toList=cl x from rfl,hd,<- hly,List.take_left]
   exact beq_self_eq_true _
  have no:∀ k,a<=k->k<a+p.length->¬ StrLaws.At x y x.length k:=fun k hk hk2 hB=>by
   have e:=at_c hy hB
   have e2:((cl x).drop a)[k-a]?=some c:=by rw [List.getElem?_drop,Nat.add_sub_cancel' hk]; exact e
   rw [hx,List.getElem?_append_left (by omega)] at e2
   exact hq p (List.mem_cons_self ..) (List.mem_of_getElem? e2)
  cases cuts with
  | nil=>
   have e:f=a:=hc
   exact absurd hA (hn _ (by omega))
  | cons d cuts=>
   have hd1:d=a+p.length:=by
    by_cases h1:d<a+p.length
    ·exact absurd hc.2.1 (no d hc.1 h1)
    ·by_cases h2:a+p.length<d
     ·exact absurd hA (hc.2.2.1 _ (by omega) h2)
     ·omega
   subst hd1
   show Builtin.Str.strSub x a (a+p.length)::StrLaws.partsFrom x y.length (a+p.length+y.length) cuts=p::q::ps
   rw [parts_of hy ps q (a+p.length+y.length) cuts f (fun z hz=>hq z (List.mem_cons_of_mem _ hz)) (by rw [<- List.drop_drop,hd,<- hly,List.drop_left]) (by omega) hc.2.2.2 hn]
   congr 1
   apply cl_inj
   show (Builtin.Str.strSub x a (a+p.length)).cps.toList=_
   rw [StrLaws.strSub_toList,show x.cps.toList=cl x from rfl,hx,show a+p.length-a=(cl p).length by omega,List.take_left]
theorem split_join {y:Str} {c:Nat} {r:List Nat} (hy:cl y=c::r) (hk:Builtin.Str.strKind y=1) (p:Str) (ps:List Str) (hq:∀ q∈p::ps,c∉cl q):Txt.split (Str.join y (p::ps)) y=p::ps:=by
 have hl1:1<=y.length:=by rw [<- cl_len,hy]; exact Nat.succ_le_succ (Nat.zero_le _)
 generalize hx:Str.join y (p::ps)=x
 obtain ⟨f,hG,hn⟩:=StrLaws.occ_tight x y hl1
 have key:=parts_of hy ps p 0 _ f hq (by rw [List.drop_zero,hx]) (Nat.zero_le _) hG hn
 have k0:¬ Builtin.Str.strKind x<Builtin.Str.strKind y:=by
  rw [hk]
  unfold Builtin.Str.strKind
  split
  ·omega
  ·split <;> omega
 unfold Txt.split
 by_cases h1:x.length<y.length
 ·rw [decide_eq_true h1,Bool.true_or,if_pos rfl]
  have e0:Builtin.Str.occurrences x y 0 x.length (x.length+1) = []:=by
   cases e:Builtin.Str.occurrences x y 0 x.length (x.length+1) with
   | nil=>rfl
   | cons d l=>
    rw [e] at hG
    have:=hG.2.1.1
    omega
  rw [e0] at key
  rw [<- key]
  show [x] = [Builtin.Str.strSub x 0 x.length]
  rw [StrLaws.sub_whole]
 ·rw [decide_eq_false h1,decide_eq_false k0,Bool.or_false,if_neg (by decide)]
  split
  ·rename_i he
   have e0:=List.isEmpty_iff.mp he
   rw [e0] at key
   rw [<- key]
   show [x] = [Builtin.Str.strSub x 0 x.length]
   rw [StrLaws.sub_whole]
  ·rw [StrLaws.partsBetween_eq,key]
def cat:List Str->Str
 | []=>Str.empty
 | x::r=>x++cat r
theorem cat_app:∀ a b:List Str,cat (a++b)=cat a++cat b
 | [],b=>by show cat b=Str.empty++cat b; rw [Str.empty_append]
 | x::a,b=>by show x++cat (a++b)=x++cat a++cat b; rw [cat_app a b,Str.append_assoc]
theorem join_cat (y:Str):∀ (l:List Str) (p:Str),Str.join y (p::l)=p++cat (l.map fun q=>y++q)
 | [],p=>by show p=p++Str.empty; rw [Str.append_empty]
 | q::l,p=>by
  rw [join_cons2,join_cat y l q]
  show p++y++(q++_)=p++(y++q++_)
  simp only [Str.append_assoc]
theorem join_e:∀ l:List Str,Str.join Str.empty l=cat l
 | []=>rfl
 | p::l=>by
  rw [join_cat]
  show p++_=p++_
  congr 1
  have e:(fun q=>Str.empty++q)=(id:Str->Str):=funext fun q=>Str.empty_append q
  rw [e,List.map_id]
theorem num_len {c:Int} (h0:0<=c) (h:c<10^10):(num c).length<=10:=PySem.W.KT.len_num h0 h
theorem num_cs {c:Int} (h0:0<=c):∀ x∈cl (num c),48<=x/\x<=57:=by
 intro x hx
 obtain ⟨m,rfl⟩:=Int.eq_ofNat_of_zero_le h0
 rw [show cl (num ((m:Nat):Int))=_ from PySem.W.KIN.signs_num m] at hx
 obtain ⟨ch,hch,e⟩:=List.mem_map.mp hx
 rw [<- e]
 exact PyProof.Rows.digit_range (Nat.isDigit_of_mem_toDigits (by decide) (by decide) hch)
theorem num_pos {c:Int} (h0:0<=c):1<=(num c).length:=by
 obtain ⟨m,rfl⟩:=Int.eq_ofNat_of_zero_le h0
 rw [<- cl_len,show cl (num ((m:Nat):Int))=_ from PySem.W.KIN.signs_num m,List.length_map]
 exact PySem.toDigits_len_ge 10 m
theorem num_reads {c:Int} (h0:0<=c) (h:c<10^10):PySem.intText? (num c)=some c:=PySem.W.KIN.num_reads h0 h
abbrev lS (ts:List Str):W:=.lst (ts.map W.str)
def RslS (x:R W) (l u:R (Option Int)):R W:=x>>=fun x=>l>>=fun l=>u>>=fun u=>slS x l u
def Rst2 (c:Bool) (x:R W) (l k:R (Option Int)):R W:=x>>=fun x=>l>>=fun l=>k>>=fun k=>st2 c x l k
def Rin (neg:Bool) (o:Option Sl) (r:R W):R Bool:=r>>=inS neg o
def Rln:Option (List Str×List W)->R W
 | some kw=>if kw.1.length<=1000 then .ok (.int kw.1.length) else .stuck
 | none=>.stuck
def Rgt (o:Option Sl) (a b:R W):R W:=match o with
 | some (.dos kw)=>a>>=fun w=>b>>=fun v=>getS kw w v
 | _=>.stuck
def Rks:Option Sl->R W
 | some (.dos kw)=>.ok (.lst (kw.1.map W.str))
 | _=>.stuck
def Rvs:Option Sl->R W
 | some (.dos kw)=>.ok (.tup kw.2)
 | _=>.stuck
def Rdi:Option Sl->R (List W)
 | some (.par (.dst true _ ks _))=>.ok (ks.map W.str)
 | _=>.stuck
def Rpp (o:Option Sl) (a b:R W):R Fl:=match o with
 | some (.par (.dst false a' _ _))=>b>>=fun v=>a>>=fun w=>putP a' v w
 | _=>.stuck
theorem vSlS_ap (m:Rho->R W) (l u:Rho->R (Option Int)) (ρ:Rho):vSlS m l u ρ=RslS (m ρ) (l ρ) (u ρ):=rfl
theorem RslS_ok (x:W) (l u:Option Int):RslS (.ok x) (.ok l) (.ok u)=slS x l u:=rfl
theorem vSt2_ap (c:Bool) (m:Rho->R W) (l u:Rho->R (Option Int)) (ρ:Rho):vSt2 c m l u ρ=Rst2 c (m ρ) (l ρ) (u ρ):=rfl
theorem Rst2_ok (c:Bool) (x:W) (l u:Option Int):Rst2 c (.ok x) (.ok l) (.ok u)=st2 c x l u:=rfl
theorem mSpl_ap (m e:Rho->R W) (ρ:Rho):mSpl m e ρ=Rspl (m ρ) (e ρ):=rfl
theorem Rspl_ok (a:Str) (y:W):Rspl (.ok (.str a)) (.ok y)=spl1 a y:=rfl
theorem mJoi_ap (m e:Rho->R W) (ρ:Rho):mJoi m e ρ=Rjoi (m ρ) (e ρ):=rfl
theorem Rjoi_ok (a:Str) (y:W):Rjoi (.ok (.str a)) (.ok y)=joi1 a y:=rfl
theorem mFp_ap (ms:List (Rho->R W)) (ρ:Rho):mFp ms ρ=fpR (ms.map fun m=>m ρ) Str.empty:=rfl
theorem bSs_ap (m:Rho->R W) (ρ:Rho):bSs m ρ=(m ρ>>=seqS):=rfl
theorem mInS_ap (neg:Bool) (i:Nat) (m:Rho->R W) (ρ:Rho):mInS neg i m ρ=Rin neg (ρ[i]?) (m ρ):=rfl
theorem Rin_d (neg:Bool) (kw:List Str×List W) (x:Str):Rin neg (some (.dos kw)) (.ok (.str x))=.ok (if neg then !decide (x∈kw.1) else decide (x∈kw.1)):=rfl
theorem Rin_p (neg:Bool) (z:Bool) (a:Addr) (ks:List Str) (ws:List W) (x:Str):Rin neg (some (.par (.dst z a ks ws))) (.ok (.str x))=.ok (if neg then !decide (x∈ks) else decide (x∈ks)):=rfl
theorem eLenS_ap (i:Nat) (ρ:Rho):eLenS i ρ=Rln (dSl (ρ[i]?)):=by unfold eLenS Rln; rfl
theorem dSl_d (kw:List Str×List W):dSl (some (.dos kw))=some kw:=rfl
theorem Rln_ok (kw:List Str×List W) (h:kw.1.length<=1000):Rln (some kw)=.ok (.int kw.1.length):=if_pos h
theorem mGetS_ap (i:Nat) (a b:Rho->R W) (ρ:Rho):mGetS i a b ρ=Rgt (ρ[i]?) (a ρ) (b ρ):=by unfold mGetS Rgt; rfl
theorem Rgt_ok (kw:List Str×List W) (x:Str) (v:W):Rgt (some (.dos kw)) (.ok (.str x)) (.ok v)=.ok ((dAt kw.1 kw.2 x).getD v):=rfl
theorem mKeysS_ap (i:Nat) (ρ:Rho):mKeysS i ρ=Rks (ρ[i]?):=by unfold mKeysS Rks; rfl
theorem Rks_ok (kw:List Str×List W):Rks (some (.dos kw))=.ok (.lst (kw.1.map W.str)):=rfl
theorem mValsS_ap (i:Nat) (ρ:Rho):mValsS i ρ=Rvs (ρ[i]?):=by unfold mValsS Rvs; rfl
theorem Rvs_ok (kw:List Str×List W):Rvs (some (.dos kw))=.ok (.tup kw.2):=rfl
theorem mDit_ap (i:Nat) (ρ:Rho):mDit i ρ=Rdi (ρ[i]?):=by unfold mDit Rdi; rfl
theorem Rdi_ok (a:Addr) (ks:List Str) (ws:List W):Rdi (some (.par (.dst true a ks ws)))=.ok (ks.map W.str):=rfl
theorem mDNewS_ap (i:Nat) (ρ:Rho):mDNewS i ρ=if i<ρ.length then .ok (.nx (ρ.set i (.dos ([],[])))) else .stuck:=rfl
theorem mPutS_ap (i:Nat) (a b:Rho->R W) (ρ:Rho):mPutS i a b ρ=dputS' (ρ[i]?) (b ρ) (a ρ) i ρ:=rfl
theorem dputS_ok (kw:List Str×List W) (v w:W) (i:Nat) (ρ:Rho):dputS' (some (.dos kw)) (.ok v) (.ok w) i ρ=putS kw i w v ρ:=rfl
theorem putS_ok {kw:List Str×List W} {i:Nat} {k:Str} {v:W} {ρ:Rho} (h1:noDk ρ=true) (h2:k∉kw.1) (h3:kw.1.length<1000):putS kw i (.str k) v ρ=.ok (.nx (ρ.set i (.dos (kw.1 ++ [k],kw.2 ++ [v])))):=if_pos ⟨h1,h2,h3⟩
theorem sPutP_ap (j:Nat) (a b:Rho->R W) (ρ:Rho):sPutP j a b ρ=Rpp (ρ[j]?) (a ρ) (b ρ):=by unfold sPutP Rpp; rfl
theorem Rpp_ok (a:Addr) (ks:List Str) (ws:List W) (k:Str) (v:W):Rpp (some (.par (.dst false a ks ws))) (.ok (.str k)) (.ok v)=.ok (.rt (.dst false a [k] [v])):=rfl
theorem nb_ap (m:Rho->R Fl) (ρ:Rho):nb m ρ=nbR (m ρ):=rfl
theorem nbR_nx (ρ:Rho):nbR (.ok (.nx ρ))=.ok (.nx ρ):=rfl
theorem fLenS_ok {x:Str} (h:x.length<=100000):fLenS [.str x]=.ok (.int x.length):=if_pos h
theorem fSS_in (x y:Str):fSS cYes gInS (.str x) (.str y)=.ok (.bl (!(Builtin.Str.occurrences y x 0 y.length 1).isEmpty)):=rfl
theorem fSS_cat {x y:Str} (h:x.length+y.length<=100000):fSS cCatS gCatS (.str x) (.str y)=.ok (.str (x++y)):=if_pos (decide_eq_true h)
theorem fEqS_ss (n:Bool) (x y:Str):fEqS n (.str x) (.str y)=.ok (.bl (if n then !decide (x=y) else decide (x=y))):=by
 have e:decide (V.str x=V.str y)=decide (x=y):=by
  by_cases h:x=y
  ·subst h; simp
  ·rw [decide_eq_false h,decide_eq_false (fun z=>h (by cases z; rfl))]
 show R.ok (W.bl (if n then !decide (V.str x=V.str y) else decide (V.str x=V.str y)))=_
 rw [e]
theorem fStr_ok {i:Int} (h:i.natAbs.log2<1920):fStr [.int i]=.ok (.str (num i)):=if_pos h
theorem isi_ss:isiB "str" "str" = some true:=by decide
theorem tyW_s (x:Str):tyW (.str x)=some "str" := rfl
theorem a20 (a b:W):L2.atI [a,b] 0=some a:=rfl
theorem a21 (a b:W):L2.atI [a,b] 1=some b:=rfl
theorem a30 (a b c:W):L2.atI [a,b,c] 0=some a:=rfl
theorem a31 (a b c:W):L2.atI [a,b,c] 1=some b:=rfl
theorem a32 (a b c:W):L2.atI [a,b,c] 2=some c:=rfl
def rps3:=Z1 (@a20) (Z1 (@a21) (Z1 (@a30) (Z1 (@a31) (@a32))))
def rps1:=Z1 (@vSlS_ap) (Z1 (@RslS_ok) (Z1 (@vSt2_ap) (Z1 (@Rst2_ok) (Z1 (@mSpl_ap) (Z1 (@Rspl_ok) (Z1 (@mJoi_ap) (Z1 (@Rjoi_ok) (Z1 (@mFp_ap) (Z1 (@bSs_ap) (Z1 (@mInS_ap) (Z1 (@Rin_d) (Z1 (@Rin_p) (Z1 (@eLenS_ap) (Z1 (@dSl_d) (Z1 (@Rln_ok) (Z1 (@mGetS_ap) (@Rgt_ok)))))))))))))))))
def rps2:=Z1 (@mKeysS_ap) (Z1 (@Rks_ok) (Z1 (@mValsS_ap) (Z1 (@Rvs_ok) (Z1 (@mDit_ap) (Z1 (@Rdi_ok) (Z1 (@mDNewS_ap) (Z1 (@mPutS_ap) (Z1 (@dputS_ok) (Z1 (@sPutP_ap) (Z1 (@Rpp_ok) (Z1 (@nb_ap) (Z1 (@nbR_nx) (Z1 (@fLenS_ok) (Z1 (@fSS_in) (Z1 (@fSS_cat) (Z1 (@fEqS_ss) (Z1 (@fStr_ok) (Z1 (@isi_ss) (Z1 (@tyW_s) (@slotF_str))))))))))))))))))))
theorem Rst_I (ns:List Int) (l u:Option Int):Rst (.ok (.tup (ns.map W.int))) (.ok l) (.ok u)=.ok (.tup (cutW (ns.map W.int) l u)):=Rst_ok (noLs_ints ns) l u
--CUT
def Nm (w:Str):Prop:=1<=w.length/\w.length<=8/\∀ c∈cl w,97<=c/\c<=122
def Cn (c:Int):Prop:=0<=c/\c<=1000000000
theorem made_ok {w s:Str} (h1:1<=w.length) (h2:w.length<=1000) (h3:∀ c∈cl w,c<128/\c∈cl s):f_is_made_of [.str w,.str s]=.ok (.bl true):=by
 have hs:seqS (.str w)=.ok ((cl w).map fun c=>W.str ⟨#[c]⟩):=by
  refine if_pos ⟨?_,by show w.length<=1000; exact h2⟩
  rw [<- Array.all_toList,List.all_eq_true]
  exact fun c hc=>decide_eq_true (h3 c hc).1
 have e:decide (0<(w.length:Int))=true:=decide_eq_true (by omega)
 simp (disch:=first | with_reducible assumption | omega | (simp only [rp18]; omega)) only [List.getElem?_cons_zero,List.getElem?_cons_succ,List.set_cons_succ,List.set_cons_zero,rp19,rp16,rp17,rp18,mulB_L,mulB_R,mulB_b,rps1,rps2,rps3,vSlT_ap,Rst_I,decide_eq_true_eq,tyW,isN,Nat.reduceSub,Nat.reduceAdd,Nat.reduceEqDiff,Nat.reduceLeDiff,Nat.reduceLT,reduceIte,reduceCtorEq,Int.reduceLT,Int.reduceLE,Int.reduceEq,Int.reduceAdd,Int.reduceSub,Int.reduceMul,Int.reduceNeg,Int.reduceToNat,Int.reduceMod,Int.reducePow,Int.reduceDiv,Nat.reducePow,runB_1,runB_2,runB_3,runB_4,runB_5,m_is_made_of,hs,e]
 rw [mComp_all (fun _=>W.bl true) (fun c=>W.str ⟨#[c]⟩) (cl w) _ (by rw [cl_len]; exact h2) ?_]
 ·have q:=fBools_m gAll ((cl w).map fun _=>true)
  rw [List.map_map] at q
  simp (disch:=first | with_reducible assumption | omega | (simp only [rp18]; omega)) only [List.getElem?_cons_zero,List.getElem?_cons_succ,List.set_cons_succ,List.set_cons_zero,rp19,rp16,rp17,rp18,mulB_L,mulB_R,mulB_b,rps1,rps2,rps3,vSlT_ap,Rst_I,decide_eq_true_eq,tyW,isN,Nat.reduceSub,Nat.reduceAdd,Nat.reduceEqDiff,Nat.reduceLeDiff,Nat.reduceLT,reduceIte,reduceCtorEq,Int.reduceLT,Int.reduceLE,Int.reduceEq,Int.reduceAdd,Int.reduceSub,Int.reduceMul,Int.reduceNeg,Int.reduceToNat,Int.reduceMod,Int.reducePow,Int.reduceDiv,Nat.reducePow]
  rw [show (List.map (fun _=>W.bl true) (cl w))=(cl w).map (W.bl∘fun _=>true) from rfl,q]
  have ea:gAll ((cl w).map fun _=>true)=true:=by
   unfold gAll
   rw [List.all_eq_true]
   intro b hb
   obtain ⟨_,_,rfl⟩:=List.mem_map.mp hb
   rfl
  rw [ea]
  simp (disch:=first | with_reducible assumption | omega | (simp only [rp18]; omega)) only [List.getElem?_cons_zero,List.getElem?_cons_succ,List.set_cons_succ,List.set_cons_zero,rp19,rp16,rp17,rp18,mulB_L,mulB_R,mulB_b,rps1,rps2,rps3,vSlT_ap,Rst_I,decide_eq_true_eq,tyW,isN,Nat.reduceSub,Nat.reduceAdd,Nat.reduceEqDiff,Nat.reduceLeDiff,Nat.reduceLT,reduceIte,reduceCtorEq,Int.reduceLT,Int.reduceLE,Int.reduceEq,Int.reduceAdd,Int.reduceSub,Int.reduceMul,Int.reduceNeg,Int.reduceToNat,Int.reduceMod,Int.reducePow,Int.reduceDiv,Nat.reducePow]
 ·intro c hc
  refine ⟨_,rfl,?_⟩
  simp (disch:=first | with_reducible assumption | omega | (simp only [rp18]; omega)) only [List.getElem?_cons_zero,List.getElem?_cons_succ,List.set_cons_succ,List.set_cons_zero,rp19,rp16,rp17,rp18,mulB_L,mulB_R,mulB_b,rps1,rps2,rps3,vSlT_ap,Rst_I,decide_eq_true_eq,tyW,isN,Nat.reduceSub,Nat.reduceAdd,Nat.reduceEqDiff,Nat.reduceLeDiff,Nat.reduceLT,reduceIte,reduceCtorEq,Int.reduceLT,Int.reduceLE,Int.reduceEq,Int.reduceAdd,Int.reduceSub,Int.reduceMul,Int.reduceNeg,Int.reduceToNat,Int.reduceMod,Int.reducePow,Int.reduceDiv,Nat.reducePow]
  rw [StrLaws.found_one,decide_eq_true (h3 c hc).2]
theorem sLet:cl ("abcdefghijklmnopqrstuvwxyz" : Str)=(List.range 26).map (·+97):=by decide +kernel
theorem sFig:cl ("0123456789" : Str)=(List.range 10).map (·+48):=by decide +kernel
theorem sGr:(num 1000000000).length=10:=by decide +kernel
theorem nm_made {w:Str} (h:Nm w):f_is_made_of [.str w,.str "abcdefghijklmnopqrstuvwxyz"]=.ok (.bl true):=
 made_ok h.1 (by have:=h.2.1; omega) fun c hc=>by
  have:=h.2.2 c hc
  refine ⟨by omega,?_⟩
  rw [sLet]
  exact List.mem_map.mpr ⟨c-97,List.mem_range.mpr (by omega),by omega⟩
theorem num_made {c:Int} (h:Cn c):f_is_made_of [.str (num c),.str "0123456789"]=.ok (.bl true):=
 made_ok (num_pos h.1) (Nat.le_trans (num_len h.1 (by have:=h.2; omega)) (by decide)) fun x hx=>by
  have:=num_cs h.1 x hx
  refine ⟨by omega,?_⟩
  rw [sFig]
  exact List.mem_map.mpr ⟨x-48,List.mem_range.mpr (by omega),by omega⟩
theorem new_ok {w:Str} {z:Bool} {a:Addr} {ks:List Str} {ws:List W} (h:Nm w) (hk:w∉ks):f_must_be_new_name [.str w,.dst z a ks ws]=.ok .non:=by
 have e:decide (8<(w.length:Int))=false:=decide_eq_false (by have:=h.2.1; omega)
 have e2:decide (w∈ks)=false:=decide_eq_false hk
 have:=h.2.1
 simp (disch:=first | with_reducible assumption | omega | (simp only [rp18]; omega)) only [List.getElem?_cons_zero,List.getElem?_cons_succ,List.set_cons_succ,List.set_cons_zero,rp19,rp16,rp17,rp18,mulB_L,mulB_R,mulB_b,rps1,rps2,rps3,vSlT_ap,Rst_I,decide_eq_true_eq,tyW,isN,Nat.reduceSub,Nat.reduceAdd,Nat.reduceEqDiff,Nat.reduceLeDiff,Nat.reduceLT,reduceIte,reduceCtorEq,Int.reduceLT,Int.reduceLE,Int.reduceEq,Int.reduceAdd,Int.reduceSub,Int.reduceMul,Int.reduceNeg,Int.reduceToNat,Int.reduceMod,Int.reducePow,Int.reduceDiv,Nat.reducePow,runB_1,runB_2,runB_3,runB_4,runB_5,m_must_be_new_name,nm_made h,e,e2]
theorem log_of {c:Int} (h:c.natAbs<2^1000):c.natAbs.log2<1920:=by
 by_cases h0:c.natAbs=0
 ·rw [h0]; decide
 ·exact Nat.lt_trans ((Nat.log2_lt h0).mpr h) (by decide)
theorem count_ok {c:Int} (h:Cn c):f_count_of [.str (num c)]=.ok (.int c):=by
 have l1:=num_len h.1 (show c<10^10 by have:=h.2; omega)
 have lg:c.natAbs.log2<1920:=log_of (Nat.lt_of_le_of_lt (show c.natAbs<=1000000000 by have:=h.1; have:=h.2; omega) (by decide +kernel))
 have lg1:(1000000000:Int).natAbs.log2<1920:=by decide +kernel
 have e:decide (((10:Nat):Int)<((num c).length:Int))=false:=decide_eq_false (by omega)
 have g:(num 1000000000).length<=100000:=by rw [sGr]; decide
 have hi:fIntS [.str (num c)]=.ok (.int c):=by
  show (if (num c).length<=640 then _ else _)=_
  rw [if_pos (by omega),num_reads h.1 (show c<10^10 by have:=h.2; omega)]
 have e2:decide (c<=1000000000)=true:=decide_eq_true h.2
 simp (disch:=first | with_reducible assumption | omega | (simp only [rp18]; omega)) only [List.getElem?_cons_zero,List.getElem?_cons_succ,List.set_cons_succ,List.set_cons_zero,rp19,rp16,rp17,rp18,mulB_L,mulB_R,mulB_b,rps1,rps2,rps3,vSlT_ap,Rst_I,decide_eq_true_eq,tyW,isN,Nat.reduceSub,Nat.reduceAdd,Nat.reduceEqDiff,Nat.reduceLeDiff,Nat.reduceLT,reduceIte,reduceCtorEq,Int.reduceLT,Int.reduceLE,Int.reduceEq,Int.reduceAdd,Int.reduceSub,Int.reduceMul,Int.reduceNeg,Int.reduceToNat,Int.reduceMod,Int.reducePow,Int.reduceDiv,Nat.reducePow,runB_1,runB_2,runB_3,runB_4,runB_5,m_count_of,sGr,e,num_made h,hi,e2]
theorem rcount_ok {c f:Int} (h:Cn c) (hf:f<=c):f_read_count [.str (num c),.int f]=.ok (.int c):=by
 have e:decide (c<f)=false:=decide_eq_false (by omega)
 simp (disch:=first | with_reducible assumption | omega | (simp only [rp18]; omega)) only [List.getElem?_cons_zero,List.getElem?_cons_succ,List.set_cons_succ,List.set_cons_zero,rp19,rp16,rp17,rp18,mulB_L,mulB_R,mulB_b,rps1,rps2,rps3,vSlT_ap,Rst_I,decide_eq_true_eq,tyW,isN,Nat.reduceSub,Nat.reduceAdd,Nat.reduceEqDiff,Nat.reduceLeDiff,Nat.reduceLT,reduceIte,reduceCtorEq,Int.reduceLT,Int.reduceLE,Int.reduceEq,Int.reduceAdd,Int.reduceSub,Int.reduceMul,Int.reduceNeg,Int.reduceToNat,Int.reduceMod,Int.reducePow,Int.reduceDiv,Nat.reducePow,runB_1,runB_2,runB_3,runB_4,runB_5,m_read_count,count_ok h,e]
--CUT
theorem noLs_T (ts:List Str):noLs (ts.map W.str)=true:=noLs_map W.str (fun _=>rfl) ts
theorem chks_T (c:Bool) (ts:List Str):chks c (ts.map W.str)=.ok (lS ts):=chks_no (noLs_T ts)
theorem at_s {ts:List Str} {i:Int} {x:Str} (h0:0<=i) (h:ts[i.toNat]?=some x):L2.atI (ts.map W.str) i=some (.str x):=by
 have hl:=(List.getElem?_eq_some_iff.mp h).1
 unfold L2.atI
 rw [ixN_int h0 (by rw [List.length_map]; omega)]
 show (ts.map W.str)[i.toNat]?=_
 rw [List.getElem?_map,h]; rfl
theorem map_atT {ts:List Str} {i:Nat} {w:W} (h:(ts.map W.str)[i]?=some w):∃ x,ts[i]?=some x/\w=.str x:=by
 rw [List.getElem?_map] at h
 obtain ⟨x,e1,e2⟩:=Option.map_eq_some_iff.mp h
 exact ⟨x,e1,e2.symm⟩
theorem place_ok {n:Str} {c:Int} {p:Addr} {ks:List Str} {vs:List W} {ws:List Str} (hw:ws = [Str.ofString "place",n,num c]) (hn:Nm n) (hk:n∉ks) (hc:Cn c):f_read_place [lS ws,.dst false p ks vs]=.ok (.dst false p [n] [.int c]):=by
 have e1:L2.atI (ws.map W.str) 1=some (.str n):=by subst hw; rfl
 have e2:L2.atI (ws.map W.str) 2=some (.str (num c)):=by subst hw; rfl
 have hl:(ws.length:Int)=3:=by subst hw; rfl
 simp (disch:=first | with_reducible assumption | omega | (simp only [rp18]; omega)) only [List.getElem?_cons_zero,List.getElem?_cons_succ,List.set_cons_succ,List.set_cons_zero,rp19,rp16,rp17,rp18,mulB_L,mulB_R,mulB_b,rps1,rps2,rps3,vSlT_ap,Rst_I,decide_eq_true_eq,tyW,isN,Nat.reduceSub,Nat.reduceAdd,Nat.reduceEqDiff,Nat.reduceLeDiff,Nat.reduceLT,reduceIte,reduceCtorEq,Int.reduceLT,Int.reduceLE,Int.reduceEq,Int.reduceAdd,Int.reduceSub,Int.reduceMul,Int.reduceNeg,Int.reduceToNat,Int.reduceMod,Int.reducePow,Int.reduceDiv,Nat.reducePow,runB_1,runB_2,runB_3,runB_4,runB_5,m_read_place,hl,e1,e2,new_ok hn hk,rcount_ok hc hc.1]
abbrev Pr:=Int×Str
def fl:List Pr->List Str
 | []=>[]
 | p::r=>num p.1::p.2::fl r
theorem fl_len:∀ l:List Pr,(fl l).length=2*l.length
 | []=>rfl
 | p::r=>by show (fl r).length+1+1=2*(r.length+1); rw [fl_len r]; omega
theorem fl_even:∀ (l:List Pr) (i:Nat),(fl l)[2*i]?=l[i]?.map fun p=>num p.1
 | [],i=>by simp [fl]
 | p::r,0=>rfl
 | p::r,i+1=>by
  rw [show 2*(i+1)=2*i+1+1 by omega]
  show (fl r)[2*i]?=r[i]?.map _
  exact fl_even r i
theorem fl_evens:∀ l:List Pr,evens ((fl l).map W.str)=l.map fun p=>W.str (num p.1)
 | []=>rfl
 | p::r=>by
  show W.str (num p.1)::evens ((fl r).map W.str)=_
  rw [fl_evens r]; rfl
theorem fl_odds:∀ l:List Pr,evens (((fl l).map W.str).drop 1)=l.map fun p=>W.str p.2
 | []=>rfl
 | [p]=>rfl
 | p::q::r=>by
  show evens (W.str p.2::W.str (num q.1)::W.str q.2::(fl r).map W.str)=_
  show W.str p.2::evens (((fl (q::r)).map W.str).drop 1)=_
  rw [fl_odds (q::r)]; rfl
def lk:List Pr->Str->Int
 | [],_=>0
 | p::r,k=>if p.2=k then p.1 else lk r k
theorem dAt_lk (k:Str):∀ l:List Pr,(dAt (l.map fun p=>p.2) (l.map fun p=>W.int p.1) k).getD (.int 0)=.int (lk l k)
 | []=>rfl
 | p::r=>by
  show (if p.2=k then some (W.int p.1) else dAt (r.map _) (r.map _) k).getD (.int 0)=.int (if p.2=k then p.1 else lk r k)
  split
  ·rfl
  ·exact dAt_lk k r
theorem st2_a (c:Bool) (ws:List W):st2 c (.lst ws) none (some 2)=chks c (evens ws):=rfl
theorem st2_b (c:Bool) (ws:List W):st2 c (.lst ws) (some 1) (some 2)=chks c (evens (ws.drop 1)):=rfl
def Told (ks:List Str) (l:List Pr):Prop:=(∀ p∈l,1<=p.1/\Cn p.1/\p.2∈ks)/\(l.map (·.2)).Nodup/\l.length<=100
theorem counts_ok {ks:List Str} {vs:List W} {q:Addr} {l:List Pr} (h:Told ks l) (hk:ks.length<=1000) {ws:List Str} (hw:ws=fl l):f_read_counts [lS ws,.dst true q ks vs]=.ok (tI (ks.map (lk l))):=by
 have fin:Ok (f_read_counts [lS ws,.dst true q ks vs]) fun v=>v=tI (ks.map (lk l)):=by
  have hl:(ws.length:Int)=2*(l.length:Int):=by rw [hw,fl_len]; omega
  have hm:decide (2*(l.length:Int)%2=1)=false:=decide_eq_false (by omega)
  have z1:st2 false (lS ws) none (some 2)=.ok (.lst (l.map fun p=>W.str (num p.1))):=by
   rw [st2_a,hw,fl_evens]
   exact chks_no (noLs_map (fun p:Pr=>W.str (num p.1)) (fun _=>rfl) l)
  have z2:st2 false (lS ws) (some 1) (some 2)=.ok (.lst (l.map fun p=>W.str p.2)):=by
   rw [st2_b,hw,fl_odds]
   exact chks_no (noLs_map (fun p:Pr=>W.str p.2) (fun _=>rfl) l)
  have zz:zipR [.lst (l.map fun p=>W.str (num p.1)),.lst (l.map fun p=>W.str p.2)]=.ok (l.map fun p=>W.tup [.str (num p.1),.str p.2]):=by
   rw [zipR_2 _ _ _ _ rfl rfl]
   congr 1
   show (List.zipWith (fun x y=>[x,y]) (l.map _) (l.map _)).map W.tup=_
   rw [List.zipWith_map,List.map_zipWith]
   clear h hw hl hm z1 z2
   induction l with
   | nil=>rfl
   | cons p r ih=>rw [List.zipWith_cons_cons,ih,List.map_cons]
  simp (disch:=first | with_reducible assumption | omega | (simp only [rp18]; omega)) only [List.getElem?_cons_zero,List.getElem?_cons_succ,List.set_cons_succ,List.set_cons_zero,rp19,rp16,rp17,rp18,mulB_L,mulB_R,mulB_b,rps1,rps2,rps3,vSlT_ap,Rst_I,decide_eq_true_eq,tyW,isN,Nat.reduceSub,Nat.reduceAdd,Nat.reduceEqDiff,Nat.reduceLeDiff,Nat.reduceLT,reduceIte,reduceCtorEq,Int.reduceLT,Int.reduceLE,Int.reduceEq,Int.reduceAdd,Int.reduceSub,Int.reduceMul,Int.reduceNeg,Int.reduceToNat,Int.reduceMod,Int.reducePow,Int.reduceDiv,Nat.reducePow,runB_1,runB_2,runB_3,runB_4,runB_5,m_read_counts,hl,hm,z1,z2,zz]
  refine ok_end (po_fors (fun i ρ=>∃ a b:Sl,ρ = [.par (lS ws),.par (.dst true q ks vs),.dos ((l.take i).map (fun p=>p.2),(l.take i).map fun p=>W.int p.1),a,b]/\noDk [a,b]=true) ⟨_,_,rfl,rfl⟩ ?_ ?_)
  ·rintro i w ρ hu ⟨a,b,rfl,hab⟩
   rw [List.getElem?_map] at hu
   obtain ⟨p,hp,rfl⟩:=Option.map_eq_some_iff.mp hu
   have hi:=(List.getElem?_eq_some_iff.mp hp).1
   have hm:=h.1 p (List.mem_of_getElem? hp)
   have d1:decide (p.2∈ks)=true:=decide_eq_true hm.2.2
   have nn:p.2∉(l.take i).map (fun p=>p.2):=by
    intro hx
    have hnd:=h.2.1
    rw [<- List.take_append_drop i l,List.map_append] at hnd
    have:=(List.nodup_append.mp hnd).2.2 p.2 hx p.2 ?_
    ·exact this rfl
    ·rw [List.drop_eq_getElem_cons hi,List.map_cons]
     have:l[i]=p:=by
      have:=List.getElem?_eq_some_iff.mp hp
      exact this.2
     rw [this]; exact List.mem_cons_self ..
   have d2:decide (p.2∈(l.take i).map (fun p=>p.2))=false:=decide_eq_false nn
   have rc:=rcount_ok hm.2.1 hm.1
   have tk:l.take (i+1)=l.take i ++ [p]:=by rw [List.take_add_one,hp]; rfl
   refine ⟨_,rfl,?_⟩
   simp (disch:=first | with_reducible assumption | omega | (simp only [rp18]; omega)) only [List.getElem?_cons_zero,List.getElem?_cons_succ,List.set_cons_succ,List.set_cons_zero,rp19,rp16,rp17,rp18,mulB_L,mulB_R,mulB_b,rps1,rps2,rps3,vSlT_ap,Rst_I,decide_eq_true_eq,tyW,isN,Nat.reduceSub,Nat.reduceAdd,Nat.reduceEqDiff,Nat.reduceLeDiff,Nat.reduceLT,reduceIte,reduceCtorEq,Int.reduceLT,Int.reduceLE,Int.reduceEq,Int.reduceAdd,Int.reduceSub,Int.reduceMul,Int.reduceNeg,Int.reduceToNat,Int.reduceMod,Int.reducePow,Int.reduceDiv,Nat.reducePow,d1,d2,rc]
   rw [putS_ok rfl nn (by rw [List.length_map,List.length_take]; have:=h.2.2; omega)]
   simp (disch:=first | with_reducible assumption | omega | (simp only [rp18]; omega)) only [List.getElem?_cons_zero,List.getElem?_cons_succ,List.set_cons_succ,List.set_cons_zero,rp19,rp16,rp17,rp18,mulB_L,mulB_R,mulB_b,rps1,rps2,rps3,vSlT_ap,Rst_I,decide_eq_true_eq,tyW,isN,Nat.reduceSub,Nat.reduceAdd,Nat.reduceEqDiff,Nat.reduceLeDiff,Nat.reduceLT,reduceIte,reduceCtorEq,Int.reduceLT,Int.reduceLE,Int.reduceEq,Int.reduceAdd,Int.reduceSub,Int.reduceMul,Int.reduceNeg,Int.reduceToNat,Int.reduceMod,Int.reducePow,Int.reduceDiv,Nat.reducePow]
   refine ⟨.par (.str (num p.1)),.par (.str p.2),?_,rfl⟩
   rw [tk,List.map_append,List.map_append]
   rfl
  ·rintro ρ ⟨a,b,rfl,_⟩
   simp (disch:=first | with_reducible assumption | omega | (simp only [rp18]; omega)) only [List.getElem?_cons_zero,List.getElem?_cons_succ,List.set_cons_succ,List.set_cons_zero,rp19,rp16,rp17,rp18,mulB_L,mulB_R,mulB_b,rps1,rps2,rps3,vSlT_ap,Rst_I,decide_eq_true_eq,tyW,isN,Nat.reduceSub,Nat.reduceAdd,Nat.reduceEqDiff,Nat.reduceLeDiff,Nat.reduceLT,reduceIte,reduceCtorEq,Int.reduceLT,Int.reduceLE,Int.reduceEq,Int.reduceAdd,Int.reduceSub,Int.reduceMul,Int.reduceNeg,Int.reduceToNat,Int.reduceMod,Int.reducePow,Int.reduceDiv,Nat.reducePow]
   have tl:l.take l.length=l:=List.take_length
   rw [mComp_all (fun k=>W.int (lk l k)) W.str ks _ hk ?_]
   ·simp (disch:=first | with_reducible assumption | omega | (simp only [rp18]; omega)) only [List.getElem?_cons_zero,List.getElem?_cons_succ,List.set_cons_succ,List.set_cons_zero,rp19,rp16,rp17,rp18,mulB_L,mulB_R,mulB_b,rps1,rps2,rps3,vSlT_ap,Rst_I,decide_eq_true_eq,tyW,isN,Nat.reduceSub,Nat.reduceAdd,Nat.reduceEqDiff,Nat.reduceLeDiff,Nat.reduceLT,reduceIte,reduceCtorEq,Int.reduceLT,Int.reduceLE,Int.reduceEq,Int.reduceAdd,Int.reduceSub,Int.reduceMul,Int.reduceNeg,Int.reduceToNat,Int.reduceMod,Int.reducePow,Int.reduceDiv,Nat.reducePow]
    rw [show ks.map (fun k=>W.int (lk l k))=(ks.map (lk l)).map W.int by rw [List.map_map]; rfl]
   ·intro k hk
    refine ⟨_,rfl,?_⟩
    simp (disch:=first | with_reducible assumption | omega | (simp only [rp18]; omega)) only [List.getElem?_cons_zero,List.getElem?_cons_succ,List.set_cons_succ,List.set_cons_zero,rp19,rp16,rp17,rp18,mulB_L,mulB_R,mulB_b,rps1,rps2,rps3,vSlT_ap,Rst_I,decide_eq_true_eq,tyW,isN,Nat.reduceSub,Nat.reduceAdd,Nat.reduceEqDiff,Nat.reduceLeDiff,Nat.reduceLT,reduceIte,reduceCtorEq,Int.reduceLT,Int.reduceLE,Int.reduceEq,Int.reduceAdd,Int.reduceSub,Int.reduceMul,Int.reduceNeg,Int.reduceToNat,Int.reduceMod,Int.reducePow,Int.reduceDiv,Nat.reducePow]
    rw [tl,dAt_lk]
 obtain ⟨v,e,rfl⟩:=fin
 exact e
--CUT
def mw (n:Str) (T P:List Pr):List Str:=Str.ofString "move" :: n::Str.ofString "takes" :: (fl T++Str.ofString "puts" :: fl P)
theorem mw_len (n:Str) (T P:List Pr):(mw n T P).length=4+2*T.length+2*P.length:=by
 show ((fl T++Str.ofString "puts" :: fl P).length)+1+1+1=_
 rw [List.length_append,List.length_cons,fl_len,fl_len]; omega
theorem mw_at {n:Str} {T P:List Pr} {i:Nat} (hi:i<T.length):∃ p∈T,(mw n T P)[3+2*i]?=some (num p.1):=by
 have e:(mw n T P)[3+2*i]?=(fl T)[2*i]?:=by
  rw [show 3+2*i=2*i+1+1+1 by omega]
  show (fl T++Str.ofString "puts" :: fl P)[2*i]?=_
  exact List.getElem?_append_left (by rw [fl_len]; omega)
 refine ⟨T[i],List.getElem_mem hi,?_⟩
 rw [e,fl_even,List.getElem?_eq_getElem hi]; rfl
theorem mw_puts (n:Str) (T P:List Pr):(mw n T P)[3+2*T.length]?=some (Str.ofString "puts"):=by
 rw [show 3+2*T.length=2*T.length+1+1+1 by omega]
 show (fl T++Str.ofString "puts" :: fl P)[2*T.length]?=_
 rw [List.getElem?_append_right (by rw [fl_len]; exact Nat.le_refl _),fl_len,Nat.sub_self]; rfl
theorem num_ne {c:Int} (h:0<=c) {x:Str} {d:Nat} (hx:d∈cl x) (hd:57<d):num c≠x:=fun e=>by
 rw [<- e] at hx
 have:=num_cs h d hx
 omega
theorem rng3_ok {j:Int} (h:-1000000<=j/\j<=1000000):rng3 [.int 3,.int j,.int 2]=.ok ((List.range ((j-3+1)/2).toNat).map fun k=>W.int (3+(k:Nat)*2)):=if_pos ⟨rfl,by decide,by decide,h.1,h.2⟩
theorem puts_ok {n:Str} {T P:List Pr} {ws:List Str} (hw:ws=mw n T P) (ht:∀ p∈T,0<=p.1) (hl:T.length<=100) (hl2:P.length<=100):f_place_of_puts [lS ws]=.ok (.int (3+2*(T.length:Int))):=by
 have fin:Ok (f_place_of_puts [lS ws]) fun v=>v=.int (3+2*(T.length:Int)):=by
  have hn:(ws.length:Int)=4+2*(T.length:Int)+2*(P.length:Int):=by rw [hw,mw_len]; omega
  have r3:=rng3_ok (j:=(ws.length:Int)) (by omega)
  have nr:(((ws.length:Int)-3+1)/2).toNat=T.length+P.length+1:=by omega
  rw [nr] at r3
  simp (disch:=first | with_reducible assumption | omega | (simp only [rp18]; omega)) only [List.getElem?_cons_zero,List.getElem?_cons_succ,List.set_cons_succ,List.set_cons_zero,rp19,rp16,rp17,rp18,mulB_L,mulB_R,mulB_b,rps1,rps2,rps3,vSlT_ap,Rst_I,decide_eq_true_eq,tyW,isN,Nat.reduceSub,Nat.reduceAdd,Nat.reduceEqDiff,Nat.reduceLeDiff,Nat.reduceLT,reduceIte,reduceCtorEq,Int.reduceLT,Int.reduceLE,Int.reduceEq,Int.reduceAdd,Int.reduceSub,Int.reduceMul,Int.reduceNeg,Int.reduceToNat,Int.reduceMod,Int.reducePow,Int.reduceDiv,Nat.reducePow,runB_1,runB_2,runB_3,runB_4,runB_5,m_place_of_puts,r3]
  refine ok_end (po_fors (fun i ρ=>i<=T.length/\∃ a:Sl,ρ = [.par (lS ws),a]) ⟨Nat.zero_le _,_,rfl⟩ ?_ ?_)
  ·rintro i w ρ hu ⟨hi,a,rfl⟩
   rw [List.getElem?_map] at hu
   obtain ⟨k,hk,rfl⟩:=Option.map_eq_some_iff.mp hu
   have hk2:k=i:=by
    have:=List.getElem?_eq_some_iff.mp hk
    have e:=this.2
    rw [List.getElem_range] at e
    exact e.symm
   subst hk2
   refine ⟨_,rfl,?_⟩
   by_cases hlt:k<T.length
   ·obtain ⟨p,hp,e⟩:=mw_at (n:=n) (P:=P) hlt
    have ea:L2.atI (ws.map W.str) (3+(k:Int)*2)=some (.str (num p.1)):=at_s (by omega) (by rw [hw,show (3+(k:Int)*2).toNat=3+2*k by omega]; exact e)
    have ne:decide (num p.1=Str.ofString "puts")=false:=decide_eq_false (num_ne (ht p hp) (x:=Str.ofString "puts") (d:=112) (by decide +kernel) (by decide))
    simp (disch:=first | with_reducible assumption | omega | (simp only [rp18]; omega)) only [List.getElem?_cons_zero,List.getElem?_cons_succ,List.set_cons_succ,List.set_cons_zero,rp19,rp16,rp17,rp18,mulB_L,mulB_R,mulB_b,rps1,rps2,rps3,vSlT_ap,Rst_I,decide_eq_true_eq,tyW,isN,Nat.reduceSub,Nat.reduceAdd,Nat.reduceEqDiff,Nat.reduceLeDiff,Nat.reduceLT,reduceIte,reduceCtorEq,Int.reduceLT,Int.reduceLE,Int.reduceEq,Int.reduceAdd,Int.reduceSub,Int.reduceMul,Int.reduceNeg,Int.reduceToNat,Int.reduceMod,Int.reducePow,Int.reduceDiv,Nat.reducePow,ea,ne]
    exact ⟨hlt,_,rfl⟩
   ·have hk3:k=T.length:=by omega
    have ea:L2.atI (ws.map W.str) (3+(k:Int)*2)=some (.str (Str.ofString "puts")):=at_s (by omega) (by rw [hw,show (3+(k:Int)*2).toNat=3+2*T.length by omega]; exact mw_puts n T P)
    simp (disch:=first | with_reducible assumption | omega | (simp only [rp18]; omega)) only [List.getElem?_cons_zero,List.getElem?_cons_succ,List.set_cons_succ,List.set_cons_zero,rp19,rp16,rp17,rp18,mulB_L,mulB_R,mulB_b,rps1,rps2,rps3,vSlT_ap,Rst_I,decide_eq_true_eq,tyW,isN,Nat.reduceSub,Nat.reduceAdd,Nat.reduceEqDiff,Nat.reduceLeDiff,Nat.reduceLT,reduceIte,reduceCtorEq,Int.reduceLT,Int.reduceLE,Int.reduceEq,Int.reduceAdd,Int.reduceSub,Int.reduceMul,Int.reduceNeg,Int.reduceToNat,Int.reduceMod,Int.reducePow,Int.reduceDiv,Nat.reducePow,ea]
    rw [hk3]
    congr 1
    omega
  ·rintro ρ ⟨hi,_⟩
   rw [List.length_map,List.length_range] at hi
   omega
 obtain ⟨v,e,rfl⟩:=fin
 exact e
theorem cutS {ts:List Str} {a b:Nat} (hb:b<=ts.length) (ha:a<=b):cutL ts (some (a:Int)) (some (b:Int))=(ts.drop a).take (b-a):=by
 unfold cutL
 rw [HT.sIx_nat,HT.sIx_nat,Nat.min_eq_left hb,Nat.min_eq_left (show a<=ts.length by omega)]
theorem cutS2 {ts:List Str} {a:Nat} (ha:a<=ts.length):cutL ts (some (a:Int)) none=ts.drop a:=by
 unfold cutL
 rw [HT.sIx_nat,HT.sIx_none,Nat.min_eq_left ha]
 exact List.take_of_length_le (by rw [List.length_drop]; exact Nat.le_refl _)
theorem shp_str {n:Nat} {x:Str} (h:∀ c∈cl x,c<1114112):shp n (.str x)=true:=by
 have e:PyData.strOk x=true:=by
  unfold PyData.strOk
  rw [<- Array.all_toList,List.all_eq_true]
  exact fun c hc=>decide_eq_true (h c hc)
 cases n <;> exact e
theorem move_ok {n:Str} {T P:List Pr} {q p:Addr} {ks ks2:List Str} {vs vs2:List W} {ws:List Str} (hw:ws=mw n T P) (hn:Nm n) (hk:n∉ks2) (ht:Told ks T) (hp:Told ks P) (hks:ks.length<=1000):f_read_move [lS ws,.dst true q ks vs,.dst false p ks2 vs2]=.ok (.dst false p [n] [.tup [tI (ks.map (lk T)),tI (ks.map (lk P))]]):=by
 have hl:ws.length=4+2*T.length+2*P.length:=by rw [hw,mw_len]
 have e1:L2.atI (ws.map W.str) 1=some (.str n):=at_s (by decide) (by rw [hw]; rfl)
 have c4:chks false [W.str (Str.ofString "takes")]=.ok (.lst [.str (Str.ofString "takes")]):=rfl
 have h1:=puts_ok hw (fun p hp=>(ht.1 p hp).2.1.1) ht.2.2 hp.2.2
 have c1:cutW (ws.map W.str) (some 2) (some 3) = [.str (Str.ofString "takes")]:=by
  rw [cutW_map]
  have:=cutS (ts:=ws) (a:=2) (b:=3) (by omega) (by omega)
  rw [show cutL ws (some 2) (some 3)=cutL ws (some ((2:Nat):Int)) (some ((3:Nat):Int)) from rfl,this,hw]; rfl
 have d3:(mw n T P).drop 3=fl T++Str.ofString "puts" :: fl P:=rfl
 have c2:cutW (ws.map W.str) (some 3) (some (3+2*(T.length:Int)))=(fl T).map W.str:=by
  rw [cutW_map]
  have:=cutS (ts:=ws) (a:=3) (b:=3+2*T.length) (by omega) (by omega)
  rw [show cutL ws (some 3) (some (3+2*(T.length:Int)))=cutL ws (some ((3:Nat):Int)) (some ((3+2*T.length:Nat):Int)) by congr 2,this,hw,d3,show 3+2*T.length-3=(fl T).length by rw [fl_len]; omega,List.take_left]
 have c3:cutW (ws.map W.str) (some (3+2*(T.length:Int)+1)) none=(fl P).map W.str:=by
  rw [cutW_map]
  have:=cutS2 (ts:=ws) (a:=4+2*T.length) (by omega)
  rw [show cutL ws (some (3+2*(T.length:Int)+1)) none=cutL ws (some ((4+2*T.length:Nat):Int)) none by congr 2; omega,this,hw,show 4+2*T.length=3+((fl T).length+1) by rw [fl_len]; omega,<- List.drop_drop,d3,<- List.drop_drop,List.drop_left]; rfl
 have e4:fEq true (.lst [.str (Str.ofString "takes")]) (.lst [.str (Str.ofString "takes")])=.ok (.bl false):=fEq_self (by decide +kernel)
 have k1:=counts_ok (q:=q) (vs:=vs) ht hks rfl
 have k2:=counts_ok (q:=q) (vs:=vs) hp hks rfl
 simp (disch:=first | with_reducible assumption | omega | (simp only [rp18]; omega)) only [List.getElem?_cons_zero,List.getElem?_cons_succ,List.set_cons_succ,List.set_cons_zero,rp19,rp16,rp17,rp18,mulB_L,mulB_R,mulB_b,rps1,rps2,rps3,vSlT_ap,Rst_I,decide_eq_true_eq,tyW,isN,Nat.reduceSub,Nat.reduceAdd,Nat.reduceEqDiff,Nat.reduceLeDiff,Nat.reduceLT,reduceIte,reduceCtorEq,Int.reduceLT,Int.reduceLE,Int.reduceEq,Int.reduceAdd,Int.reduceSub,Int.reduceMul,Int.reduceNeg,Int.reduceToNat,Int.reduceMod,Int.reducePow,Int.reduceDiv,Nat.reducePow,runB_1,runB_2,runB_3,runB_4,runB_5,m_read_move,h1,c1,c2,c3,c4,e4,e1,new_ok hn hk,chks_T,k1,k2]
--CUT
theorem cp2_ok {i:Nat} {f:List W->R W} {m1:Rho->R W} {ρ:Rho} {w1:W} {kw:List Str×List W} {k:Str} {w:W} (h1:m1 ρ=.ok w1) (hi:ρ[i]?=some (.dos kw)) (hf:∀ p,f [w1,.dst false p kw.1 kw.2]=.ok (.dst false p [k] [w])) (hn:noDk ρ=true) (hk:k∉kw.1) (hl:kw.1.length<1000):mCP2 i f m1 ρ=.ok (.nx (ρ.set i (.dos (kw.1 ++ [k],kw.2 ++ [w])))):=by
 unfold mCP2
 rw [h1,R.ok_bind,hi]
 dsimp only
 rw [pput_ok hf]
 exact if_pos ⟨hn,hk,hl⟩
theorem cp3_ok {i j:Nat} {f:List W->R W} {m1:Rho->R W} {ρ:Rho} {w1:W} {kw1 kw:List Str×List W} {k:Str} {w:W} (h1:m1 (ρ.set i .un)=.ok w1) (hi:ρ[i]?=some (.dos kw1)) (hj:ρ[j]?=some (.dos kw)) (hij:i≠j) (hf:∀ q p,f [w1,.dst true q kw1.1 kw1.2,.dst false p kw.1 kw.2]=.ok (.dst false p [k] [w])) (hn:noDk ρ=true) (hk:k∉kw.1) (hl:kw.1.length<1000):mCP3 i j f m1 ρ=.ok (.nx (ρ.set j (.dos (kw.1 ++ [k],kw.2 ++ [w])))):=by
 unfold mCP3
 rw [hi,hj]
 show (if i≠j/\noDk ρ=true then _ else _)=_
 rw [if_pos ⟨hij,hn⟩,h1,R.ok_bind,pput2_ok hf]
 exact if_pos ⟨hn,hk,hl⟩
theorem join_free {c:Nat} {y:Str} (hy:c∉cl y):∀ ws:List Str,(∀ w∈ws,c∉cl w)->c∉cl (Str.join y ws)
 | [],_=>by intro h; cases h
 | [w],h=>h w (List.mem_cons_self ..)
 | w::v::r,h=>by
  rw [join_cons2,cl_app,cl_app]
  intro hx
  rcases List.mem_append.mp hx with hx | hx
  ·rcases List.mem_append.mp hx with hx | hx
   ·exact h w (List.mem_cons_self ..) hx
   ·exact hy hx
  ·exact join_free hy (v::r) (fun z hz=>h z (List.mem_cons_of_mem _ hz)) hx
theorem join_len {B:Nat} (y:Str) (ws:List Str) (h:∀ w∈ws,w.length<=B):(Str.join y ws).length<=ws.length*(B+y.length):=by
 have h1:=StrLaws.join_length_le y ws
 have h2:=StrLaws.sumLen_le ws h
 rw [Nat.mul_add]
 omega
def Wd (w:Str):Prop:=w.length<=10/\32∉cl w/\59∉cl w
theorem nm_wd {w:Str} (h:Nm w):Wd w:=⟨by have:=h.2.1; omega,fun hc=>by have:=h.2.2 _ hc; omega,fun hc=>by have:=h.2.2 _ hc; omega⟩
theorem num_wd {c:Int} (h:Cn c):Wd (num c):=⟨num_len h.1 (show c<10^10 by have:=h.2; omega),fun hc=>by have:=num_cs h.1 _ hc; omega,fun hc=>by have:=num_cs h.1 _ hc; omega⟩
theorem wd_place:Wd (Str.ofString "place"):=⟨by decide +kernel,by decide +kernel,by decide +kernel⟩
theorem wd_move:Wd (Str.ofString "move"):=⟨by decide +kernel,by decide +kernel,by decide +kernel⟩
theorem wd_takes:Wd (Str.ofString "takes"):=⟨by decide +kernel,by decide +kernel,by decide +kernel⟩
theorem wd_puts:Wd (Str.ofString "puts"):=⟨by decide +kernel,by decide +kernel,by decide +kernel⟩
abbrev B1:Str:=Str.ofString " "
abbrev B2:Str:=Str.ofString "; "
theorem cB1:cl B1=32 :: []:=by decide +kernel
theorem cB2:cl B2=59 :: [32]:=by decide +kernel
theorem lB1:B1.length=1:=by decide +kernel
theorem lB2:B2.length=2:=by decide +kernel
theorem split1 {p:Str} {ps:List Str} (h:∀ w∈p::ps,Wd w) (hl:ps.length<=900):spl1 (Str.join B1 (p::ps)) (.str B1)=.ok (lS (p::ps)):=by
 have e:=split_join cB1 (by decide +kernel) p ps fun q hq=>(h q hq).2.1
 have l:=join_len (B:=10) B1 (p::ps) fun w hw=>(h w hw).1
 rw [lB1,List.length_cons] at l
 show (if _ then R.ok (W.lst ((Txt.split (Str.join B1 (p::ps)) B1).map W.str)) else _)=_
 rw [if_pos ⟨by rw [lB1]; rfl,by omega,by rw [e,List.length_cons]; omega⟩,e]
theorem fl_wd {ks:List Str} (hks:∀ k∈ks,Nm k):∀ {l:List Pr},(∀ p∈l,1<=p.1/\Cn p.1/\p.2∈ks)->∀ w∈fl l,Wd w
 | [],_,w,hw=>by cases hw
 | p::r,h,w,hw=>by
  have hp:=h p (List.mem_cons_self ..)
  rcases List.mem_cons.mp hw with rfl | hw
  ·exact num_wd hp.2.1
  ·rcases List.mem_cons.mp hw with rfl | hw
   ·exact nm_wd (hks _ hp.2.2)
   ·exact fl_wd hks (fun q hq=>h q (List.mem_cons_of_mem _ hq)) w hw
theorem mw_wd {ks:List Str} (hks:∀ k∈ks,Nm k) {n:Str} {T P:List Pr} (hn:Nm n) (ht:Told ks T) (hp:Told ks P):∀ w∈mw n T P,Wd w:=by
 intro w hw
 rcases List.mem_cons.mp hw with rfl | hw
 ·exact wd_move
 rcases List.mem_cons.mp hw with rfl | hw
 ·exact nm_wd hn
 rcases List.mem_cons.mp hw with rfl | hw
 ·exact wd_takes
 rcases List.mem_append.mp hw with hw | hw
 ·exact fl_wd hks ht.1 w hw
 rcases List.mem_cons.mp hw with rfl | hw
 ·exact wd_puts
 ·exact fl_wd hks hp.1 w hw
abbrev Pl:=Str×Int
abbrev Mt:=Str×List Pr×List Pr
abbrev pw (p:Pl):List Str:=[Str.ofString "place",p.1,num p.2]
abbrev mws (m:Mt):List Str:=mw m.1 m.2.1 m.2.2
def text (ps:List Pl) (ms:List Mt):Str:=Str.join B2 (ps.map (fun p=>Str.join B1 (pw p))++ms.map fun m=>Str.join B1 (mws m))
structure Fine (ps:List Pl) (ms:List Mt):Prop where
 l1:1<=ps.length
 l2:ps.length<=6
 l3:ms.length<=8
 np:∀ p∈ps,Nm p.1/\Cn p.2
 nm:∀ m∈ms,Nm m.1/\Told (ps.map (·.1)) m.2.1/\Told (ps.map (·.1)) m.2.2
 d1:(ps.map (·.1)).Nodup
 d2:(ms.map (·.1)).Nodup
def mvW (ks:List Str) (m:Mt):W:=.tup [tI (ks.map (lk m.2.1)),tI (ks.map (lk m.2.2))]
theorem fresh {α:Type} {l:List α} {f:α->Str} {i:Nat} {a:α} (h:(l.map f).Nodup) (hi:l[i]?=some a):f a∉(l.take i).map f:=by
 intro hx
 have hl:=(List.getElem?_eq_some_iff.mp hi).1
 rw [<- List.take_append_drop i l,List.map_append] at h
 refine (List.nodup_append.mp h).2.2 (f a) hx (f a) ?_ rfl
 rw [List.drop_eq_getElem_cons hl,List.map_cons,(List.getElem?_eq_some_iff.mp hi).2]
 exact List.mem_cons_self ..
theorem take_one {α:Type} {l:List α} {i:Nat} {a:α} (hi:l[i]?=some a):l.take (i+1)=l.take i ++ [a]:=by rw [List.take_add_one,hi]; rfl
--CUT
theorem fine_free {ps:List Pl} {ms:List Mt} (F:Fine ps ms):∀ q∈ps.map (fun p=>Str.join B1 (pw p))++ms.map (fun m=>Str.join B1 (mws m)),59∉cl q/\q.length<=5000:=by
 have hks:∀ k∈ps.map (·.1),Nm k:=fun k hk=>by
  obtain ⟨p,hp,rfl⟩:=List.mem_map.mp hk
  exact (F.np p hp).1
 have key:∀ ws:List Str,(∀ w∈ws,Wd w)->ws.length<=450->59∉cl (Str.join B1 ws)/\(Str.join B1 ws).length<=5000:=fun ws h hl=>by
  refine ⟨join_free (by rw [cB1]; decide) ws fun w hw=>(h w hw).2.2,?_⟩
  have:=join_len (B:=10) B1 ws fun w hw=>(h w hw).1
  rw [lB1] at this
  omega
 intro q hq
 rcases List.mem_append.mp hq with hq | hq
 ·obtain ⟨p,hp,rfl⟩:=List.mem_map.mp hq
  have h:=F.np p hp
  refine key _ (fun w hw=>?_) (by show 3<=450; decide)
  rcases List.mem_cons.mp hw with rfl | hw
  ·exact wd_place
  rcases List.mem_cons.mp hw with rfl | hw
  ·exact nm_wd h.1
  rcases List.mem_cons.mp hw with rfl | hw
  ·exact num_wd h.2
  ·cases hw
 ·obtain ⟨m,hm,rfl⟩:=List.mem_map.mp hq
  have h:=F.nm m hm
  exact key _ (mw_wd hks h.1 h.2.1 h.2.2) (by rw [mw_len]; have:=h.2.1.2.2; have:=h.2.2.2.2; omega)
theorem split2 {ps:List Pl} {ms:List Mt} (F:Fine ps ms):spl1 (text ps ms) (.str B2)=.ok (lS (ps.map (fun p=>Str.join B1 (pw p))++ms.map fun m=>Str.join B1 (mws m))):=by
 have ff:=fine_free F
 have hlen:(ps.map (fun p=>Str.join B1 (pw p))++ms.map fun m=>Str.join B1 (mws m)).length<=14:=by
  rw [List.length_append,List.length_map,List.length_map]; have:=F.l2; have:=F.l3; omega
 have hne:(ps.map (fun p=>Str.join B1 (pw p))++ms.map fun m=>Str.join B1 (mws m)) ≠ []:=fun e=>by
  have h:=congrArg List.length e
  rw [List.length_append,List.length_map,List.length_map,List.length_nil] at h
  have:=F.l1
  omega
 unfold text
 generalize ps.map (fun p=>Str.join B1 (pw p))++ms.map (fun m=>Str.join B1 (mws m))=L at *
 cases L with
 | nil=>exact absurd rfl hne
 | cons p r=>
  have e:=split_join cB2 (by decide +kernel) p r fun q hq=>(ff q hq).1
  have l:=join_len (B:=5000) B2 (p::r) fun w hw=>(ff w hw).2
  rw [lB2] at l
  show (if _ then R.ok (W.lst ((Txt.split (Str.join B2 (p::r)) B2).map W.str)) else _)=_
  rw [if_pos ⟨by rw [lB2]; rfl,by omega,by rw [e]; omega⟩,e]
theorem ne_pm:decide (Str.ofString "place" = Str.ofString "move")=false:=by decide +kernel
theorem read_ok {ps:List Pl} {ms:List Mt} (F:Fine ps ms):f_read [.str (text ps ms)]=.ok (.tup [.tup [tI (ps.map (·.2)),.tup (ms.map (mvW (ps.map (·.1))))],lS (ps.map (·.1)),lS (ms.map (·.1))]):=by
 have fin:Ok (f_read [.str (text ps ms)]) fun v=>v=.tup [.tup [tI (ps.map (·.2)),.tup (ms.map (mvW (ps.map (·.1))))],lS (ps.map (·.1)),lS (ms.map (·.1))]:=by
  have hks:∀ k∈ps.map (·.1),Nm k:=fun k hk=>by
   obtain ⟨p,hp,rfl⟩:=List.mem_map.mp hk
   exact (F.np p hp).1
  have l1:=F.l1
  have l2:=F.l2
  have l3:=F.l3
  simp (disch:=first | with_reducible assumption | omega | (simp only [rp18]; omega)) only [List.getElem?_cons_zero,List.getElem?_cons_succ,List.set_cons_succ,List.set_cons_zero,rp19,rp16,rp17,rp18,mulB_L,mulB_R,mulB_b,rps1,rps2,rps3,vSlT_ap,Rst_I,decide_eq_true_eq,tyW,isN,Nat.reduceSub,Nat.reduceAdd,Nat.reduceEqDiff,Nat.reduceLeDiff,Nat.reduceLT,reduceIte,reduceCtorEq,Int.reduceLT,Int.reduceLE,Int.reduceEq,Int.reduceAdd,Int.reduceSub,Int.reduceMul,Int.reduceNeg,Int.reduceToNat,Int.reduceMod,Int.reducePow,Int.reduceDiv,Nat.reducePow,runB_1,runB_2,runB_3,runB_4,runB_5,m_read,split2 F]
  refine ok_end (po_fors (fun i ρ=>∃ a b:Sl,ρ = [.par (.str (text ps ms)),.dos ((ps.take i).map (fun p=>p.1),(ps.take i).map fun p=>W.int p.2),.dos ((ms.take (i-ps.length)).map (fun m=>m.1),(ms.take (i-ps.length)).map (mvW (ps.map (·.1)))),a,b,.un]/\noDk [a,b]=true) ⟨.un,.un,?_,rfl⟩ ?_ ?_)
  ·rw [Nat.zero_sub]; rfl
  ·rintro i w ρ hu ⟨a,b,rfl,hab⟩
   obtain ⟨x,hx,rfl⟩:=map_atT hu
   refine ⟨_,rfl,?_⟩
   by_cases hi:i<ps.length
   ·rw [List.getElem?_append_left (by rw [List.length_map]; exact hi),List.getElem?_map] at hx
    obtain ⟨p,hp,rfl⟩:=Option.map_eq_some_iff.mp hx
    have h:=F.np p (List.mem_of_getElem? hp)
    have sp:spl1 (Str.join B1 (pw p)) (.str B1)=.ok (lS (pw p)):=split1 (fun w hw=>by
     rcases List.mem_cons.mp hw with rfl | hw
     ·exact wd_place
     rcases List.mem_cons.mp hw with rfl | hw
     ·exact nm_wd h.1
     rcases List.mem_cons.mp hw with rfl | hw
     ·exact num_wd h.2
     ·cases hw) (by show 2<=900; decide)
    obtain ⟨ws,hws⟩:∃ ws,ws=pw p:=⟨_,rfl⟩
    replace sp:spl1 (Str.join B1 (pw p)) (.str B1)=.ok (lS ws):=by rw [hws]; exact sp
    have e0:L2.atI (ws.map W.str) 0=some (.str (Str.ofString "place")):=by rw [hws]; rfl
    have z:i-ps.length=0:=by omega
    have z2:i+1-ps.length=0:=by omega
    have nf:=fresh F.d1 hp
    have cp:=cp2_ok (i:=1) (f:=f_read_place) (m1:=mVar .B 4) (ρ:=[.par (.str (text ps ms)),.dos ((ps.take i).map (fun p=>p.1),(ps.take i).map fun p=>W.int p.2),.dos ([],[]),.par (.str (Str.join B1 (pw p))),.own (ws.map W.str),.un]) rfl rfl (fun q=>place_ok hws h.1 nf h.2) rfl nf (by show ((ps.take i).map _).length<1000; rw [List.length_map,List.length_take]; omega)
    have eL:Rln (some (([]:List Str),([]:List W)))=.ok (.int 0):=rfl
    simp (disch:=first | with_reducible assumption | omega | (simp only [rp18]; omega)) only [List.getElem?_cons_zero,List.getElem?_cons_succ,List.set_cons_succ,List.set_cons_zero,rp19,rp16,rp17,rp18,mulB_L,mulB_R,mulB_b,rps1,rps2,rps3,vSlT_ap,Rst_I,decide_eq_true_eq,tyW,isN,Nat.reduceSub,Nat.reduceAdd,Nat.reduceEqDiff,Nat.reduceLeDiff,Nat.reduceLT,reduceIte,reduceCtorEq,Int.reduceLT,Int.reduceLE,Int.reduceEq,Int.reduceAdd,Int.reduceSub,Int.reduceMul,Int.reduceNeg,Int.reduceToNat,Int.reduceMod,Int.reducePow,Int.reduceDiv,Nat.reducePow,sp,e0,z,ne_pm,cp,List.take_zero,eL]
    refine ⟨.par (.str (Str.join B1 (pw p))),.own (ws.map W.str),?_,rfl⟩
    rw [take_one hp,List.map_append,List.map_append,z2]
    rfl
   ·rw [List.getElem?_append_right (by rw [List.length_map]; omega),List.length_map,List.getElem?_map] at hx
    obtain ⟨m,hm,rfl⟩:=Option.map_eq_some_iff.mp hx
    have h:=F.nm m (List.mem_of_getElem? hm)
    have hT:ps.take i=ps:=List.take_of_length_le (by omega)
    have hT2:ps.take (i+1)=ps:=List.take_of_length_le (by omega)
    have sp:spl1 (Str.join B1 (mws m)) (.str B1)=.ok (lS (mws m)):=split1 (mw_wd hks h.1 h.2.1 h.2.2) (by
     have e:=mw_len m.1 m.2.1 m.2.2
     have:=h.2.1.2.2
     have:=h.2.2.2.2
     show (m.1::Str.ofString "takes" :: (fl m.2.1++Str.ofString "puts" :: fl m.2.2)).length<=900
     rw [show (mw m.1 m.2.1 m.2.2).length=(m.1::Str.ofString "takes" :: (fl m.2.1++Str.ofString "puts" :: fl m.2.2)).length+1 from rfl] at e
     omega)
    obtain ⟨ws,hws⟩:∃ ws,ws=mws m:=⟨_,rfl⟩
    replace sp:spl1 (Str.join B1 (mws m)) (.str B1)=.ok (lS ws):=by rw [hws]; exact sp
    have e0:L2.atI (ws.map W.str) 0=some (.str (Str.ofString "move")):=at_s (by decide) (by rw [hws]; rfl)
    have nf:=fresh F.d2 hm
    have cp:=cp3_ok (i:=1) (j:=2) (f:=f_read_move) (m1:=mVar .B 4) (ρ:=[.par (.str (text ps ms)),.dos (ps.map (fun p=>p.1),ps.map fun p=>W.int p.2),.dos ((ms.take (i-ps.length)).map (fun m=>m.1),(ms.take (i-ps.length)).map (mvW (ps.map (·.1)))),.par (.str (Str.join B1 (mws m))),.own (ws.map W.str),.un]) rfl rfl rfl (by decide) (fun q p=>move_ok hws h.1 nf h.2.1 h.2.2 (by show (ps.map _).length<=1000; rw [List.length_map]; omega)) rfl nf (by show ((ms.take _).map _).length<1000; rw [List.length_map,List.length_take]; omega)
    simp (disch:=first | with_reducible assumption | omega | (simp only [rp18]; omega)) only [List.getElem?_cons_zero,List.getElem?_cons_succ,List.set_cons_succ,List.set_cons_zero,rp19,rp16,rp17,rp18,mulB_L,mulB_R,mulB_b,rps1,rps2,rps3,vSlT_ap,Rst_I,decide_eq_true_eq,tyW,isN,Nat.reduceSub,Nat.reduceAdd,Nat.reduceEqDiff,Nat.reduceLeDiff,Nat.reduceLT,reduceIte,reduceCtorEq,Int.reduceLT,Int.reduceLE,Int.reduceEq,Int.reduceAdd,Int.reduceSub,Int.reduceMul,Int.reduceNeg,Int.reduceToNat,Int.reduceMod,Int.reducePow,Int.reduceDiv,Nat.reducePow,sp,e0,cp,hT]
    refine ⟨.par (.str (Str.join B1 (mws m))),.own (ws.map W.str),?_,rfl⟩
    rw [show i+1-ps.length=i-ps.length+1 by omega,take_one hm,List.map_append,List.map_append,hT2]
    rfl
  ·rintro ρ ⟨a,b,rfl,_⟩
   have hL:((ps.map (fun p=>Str.join B1 (pw p))++ms.map fun m=>Str.join B1 (mws m)).map W.str).length=ps.length+ms.length:=by rw [List.length_map,List.length_append,List.length_map,List.length_map]
   have hT:ps.take (ps.length+ms.length)=ps:=List.take_of_length_le (by omega)
   have hT2:ms.take (ps.length+ms.length-ps.length)=ms:=List.take_of_length_le (by omega)
   have c1:decide (1<=(ps.length:Int))=true:=decide_eq_true (by omega)
   have c2:decide ((ps.length:Int)<=6)=true:=decide_eq_true (by omega)
   have c3:decide (8<(ms.length:Int))=false:=decide_eq_false (by omega)
   rw [hL,hT,hT2]
   have r1:Rln (some (ps.map (fun p=>p.1),ps.map fun p=>W.int p.2))=.ok (.int ps.length):=by rw [Rln_ok _ (by show (ps.map _).length<=1000; rw [List.length_map]; omega)]; show R.ok (W.int ((ps.map _).length:Nat))=_; rw [List.length_map]
   have r2:Rln (some (ms.map (fun m=>m.1),ms.map (mvW (ps.map (·.1)))))=.ok (.int ms.length):=by rw [Rln_ok _ (by show (ms.map _).length<=1000; rw [List.length_map]; omega)]; show R.ok (W.int ((ms.map _).length:Nat))=_; rw [List.length_map]
   simp (disch:=first | with_reducible assumption | omega | (simp only [rp18]; omega)) only [List.getElem?_cons_zero,List.getElem?_cons_succ,List.set_cons_succ,List.set_cons_zero,rp19,rp16,rp17,rp18,mulB_L,mulB_R,mulB_b,rps1,rps2,rps3,vSlT_ap,Rst_I,decide_eq_true_eq,tyW,isN,Nat.reduceSub,Nat.reduceAdd,Nat.reduceEqDiff,Nat.reduceLeDiff,Nat.reduceLT,reduceIte,reduceCtorEq,Int.reduceLT,Int.reduceLE,Int.reduceEq,Int.reduceAdd,Int.reduceSub,Int.reduceMul,Int.reduceNeg,Int.reduceToNat,Int.reduceMod,Int.reducePow,Int.reduceDiv,Nat.reducePow,r1,r2,c1,c2,c3]
   rw [show tI (ps.map (·.2))=W.tup (ps.map fun p=>W.int p.2) by (show W.tup _=_; rw [List.map_map]; rfl)]
 obtain ⟨v,e,rfl⟩:=fin
 exact e
--CUT
theorem at_d {ts:List Str} {i:Int} (h:0<=i/\i<ts.length):L2.atI (ts.map W.str) i=some (.str (ts.getD i.toNat Str.empty)):=by
 refine at_s h.1 ?_
 have:i.toNat<ts.length:=by omega
 rw [List.getD_eq_getElem?_getD,List.getElem?_eq_getElem this]; rfl
def qs (t:Int) (n i:Nat):List Nat:=(List.range i).map fun p=>((((p:Nat):Int)+t)%(n:Int)).toNat
def tp (c:List Int) (ps:List Str) (t:Int) (i:Nat):List Pr:=((qs t ps.length i).filter fun q=>decide (0<c.getD q 0)).map fun q=>(c.getD q 0,ps.getD q Str.empty)
theorem qs_inj {t:Int} {n p q:Nat} (hp:p<n) (hq:q<n) (h:((((p:Nat):Int)+t)%(n:Int)).toNat=((((q:Nat):Int)+t)%(n:Int)).toNat):p=q:=by
 have n0:(n:Int)≠0:=by omega
 have a1:=Int.emod_nonneg ((p:Int)+t) n0
 have a2:=Int.emod_nonneg ((q:Int)+t) n0
 have e:((p:Int)+t)%(n:Int)=((q:Int)+t)%(n:Int):=by omega
 have d1:=Int.emod_add_mul_ediv ((p:Int)+t) n
 have d2:=Int.emod_add_mul_ediv ((q:Int)+t) n
 generalize ((p:Int)+t)/n=k1 at *
 generalize ((q:Int)+t)/n=k2 at *
 have hk:k1=k2:=by
  by_cases h1:k1<k2
  ·have:=Int.mul_le_mul_of_nonneg_left (show k1+1<=k2 by omega) (show 0<=(n:Int) by omega)
   rw [Int.mul_add,Int.mul_one] at this
   omega
  ·by_cases h2:k2<k1
   ·have:=Int.mul_le_mul_of_nonneg_left (show k2+1<=k1 by omega) (show 0<=(n:Int) by omega)
    rw [Int.mul_add,Int.mul_one] at this
    omega
   ·omega
 subst hk
 omega
theorem qs_lt {t:Int} {n i:Nat} (hn:0<n):∀ q∈qs t n i,q<n:=by
 intro q hq
 obtain ⟨p,_,rfl⟩:=List.mem_map.mp hq
 have a1:=Int.emod_nonneg ((p:Int)+t) (show (n:Int)≠0 by omega)
 have a2:=Int.emod_lt_of_pos ((p:Int)+t) (show (0:Int)<n by omega)
 omega
theorem qs_nd {t:Int} {n i:Nat} (hi:i<=n):(qs t n i).Nodup:=by
 refine List.pairwise_map.mpr ?_
 refine List.Pairwise.imp_of_mem ?_ List.nodup_range
 intro p q hp hq hne e
 exact hne (qs_inj (by have:=List.mem_range.mp hp; omega) (by have:=List.mem_range.mp hq; omega) e)
theorem qs_mem {t:Int} {n j:Nat} (hj:j<n):j∈qs t n n:=by
 have n0:(n:Int)≠0:=by omega
 have a1:=Int.emod_nonneg ((j:Int)-t) n0
 have a2:=Int.emod_lt_of_pos ((j:Int)-t) (show (0:Int)<n by omega)
 refine List.mem_map.mpr ⟨(((j:Int)-t)%n).toNat,List.mem_range.mpr (by omega),?_⟩
 have e:(((((j:Int)-t)%n).toNat:Nat):Int)=((j:Int)-t)%n:=by omega
 show (((((((j:Int)-t)%n).toNat:Nat):Int)+t)%(n:Int)).toNat=j
 rw [e,Int.emod_add_emod,Int.sub_add_cancel,Int.emod_eq_of_lt (by omega) (by omega)]
 omega
theorem getD_inj {ps:List Str} (h:ps.Nodup) {i j:Nat} (hi:i<ps.length) (hj:j<ps.length) (e:ps.getD i Str.empty=ps.getD j Str.empty):i=j:=by
 rw [List.getD_eq_getElem?_getD,List.getD_eq_getElem?_getD,List.getElem?_eq_getElem hi,List.getElem?_eq_getElem hj] at e
 have hp:=List.pairwise_iff_getElem.mp h
 by_cases h1:i<j
 ·exact absurd e (hp i j hi hj h1)
 ·by_cases h2:j<i
  ·exact absurd e.symm (hp j i hj hi h2)
  ·omega
theorem getD_mem {ps:List Str} {i:Nat} (hi:i<ps.length):ps.getD i Str.empty∈ps:=by
 rw [List.getD_eq_getElem?_getD,List.getElem?_eq_getElem hi]
 exact List.getElem_mem hi
def cnt (n:Nat) (c:List Int):Prop:=c.length=n/\∀ x∈c,Cn x
theorem cnt_at {n:Nat} {c:List Int} (h:cnt n c) (i:Nat):Cn (c.getD i 0):=by
 by_cases hi:i<c.length
 ·rw [List.getD_eq_getElem?_getD,List.getElem?_eq_getElem hi]; exact h.2 _ (List.getElem_mem hi)
 ·rw [List.getD_eq_getElem?_getD,List.getElem?_eq_none (by omega)]; exact ⟨by decide,by decide⟩
theorem tp_told {c:List Int} {ps:List Str} {t:Int} (h:cnt ps.length c) (hd:ps.Nodup) (h1:1<=ps.length) (h6:ps.length<=6):Told ps (tp c ps t ps.length):=by
 have hq:=qs_lt (t:=t) (i:=ps.length) (show 0<ps.length by omega)
 refine ⟨fun p hp=>?_,?_,?_⟩
 ·obtain ⟨q,hq2,rfl⟩:=List.mem_map.mp hp
  have hf:=List.mem_filter.mp hq2
  have:=of_decide_eq_true hf.2
  exact ⟨by show 1<=c.getD q 0; omega,cnt_at h q,getD_mem (hq q hf.1)⟩
 ·unfold tp
  rw [List.map_map]
  refine List.pairwise_map.mpr ?_
  refine List.Pairwise.imp_of_mem ?_ (List.Pairwise.filter _ (qs_nd (Nat.le_refl _)))
  intro a b ha hb hne e
  exact hne (getD_inj hd (hq a (List.mem_filter.mp ha).1) (hq b (List.mem_filter.mp hb).1) e)
 ·unfold tp
  rw [List.length_map]
  have:=List.length_filter_le (fun q=>decide (0<c.getD q 0)) (qs t ps.length ps.length)
  have e:(qs t ps.length ps.length).length=ps.length:=by unfold qs; rw [List.length_map,List.length_range]
  omega
theorem lk_in {k:Str} {c:Int}:∀ {l:List Pr},(c,k)∈l->(∀ p∈l,p.2=k->p.1=c)->lk l k=c
 | [],h,_=>by cases h
 | p::r,h,hu=>by
  show (if p.2=k then p.1 else lk r k)=c
  by_cases e:p.2=k
  ·rw [if_pos e]; exact hu p (List.mem_cons_self ..) e
  ·rw [if_neg e]
   rcases List.mem_cons.mp h with h | h
   ·exact absurd (by rw [<- h]) e
   ·exact lk_in h fun q hq=>hu q (List.mem_cons_of_mem _ hq)
theorem lk_out {k:Str}:∀ {l:List Pr},(∀ p∈l,p.2≠k)->lk l k=0
 | [],_=>rfl
 | p::r,h=>by
  show (if p.2=k then p.1 else lk r k)=0
  rw [if_neg (h p (List.mem_cons_self ..))]
  exact lk_out fun q hq=>h q (List.mem_cons_of_mem _ hq)
theorem lk_tp {c:List Int} {ps:List Str} {t:Int} (h:cnt ps.length c) (hd:ps.Nodup) (h1:1<=ps.length):ps.map (lk (tp c ps t ps.length))=c:=by
 have hq:=qs_lt (t:=t) (i:=ps.length) (show 0<ps.length by omega)
 have key:∀ j,j<ps.length->lk (tp c ps t ps.length) (ps.getD j Str.empty)=c.getD j 0:=by
  intro j hj
  have un:∀ p∈tp c ps t ps.length,p.2=ps.getD j Str.empty->p.1=c.getD j 0/\0<c.getD j 0:=by
   intro p hp e
   obtain ⟨q,hq2,rfl⟩:=List.mem_map.mp hp
   have hf:=List.mem_filter.mp hq2
   have:=getD_inj hd (hq q hf.1) hj e
   subst this
   exact ⟨rfl,of_decide_eq_true hf.2⟩
  by_cases h0:0<c.getD j 0
  ·refine lk_in (List.mem_map.mpr ⟨j,List.mem_filter.mpr ⟨qs_mem hj,decide_eq_true h0⟩,rfl⟩) fun p hp e=>(un p hp e).1
  ·rw [lk_out fun p hp e=>h0 (un p hp e).2]
   have:=(cnt_at h j).1
   omega
 apply List.ext_getElem
 ·rw [List.length_map,h.1]
 ·intro j h2 h3
  have hj:j<ps.length:=by rw [List.length_map] at h2; exact h2
  have:=key j hj
  rw [List.getD_eq_getElem?_getD,List.getD_eq_getElem?_getD,List.getElem?_eq_getElem hj,List.getElem?_eq_getElem h3] at this
  rw [List.getElem_map]
  exact this
--CUT
abbrev Mv:=List Int×List Int
abbrev mW (m:Mv):W:=.tup [tI m.1,tI m.2]
def pc (p:Pr):Str:=B1++num p.1++B1++p.2
theorem strsW_map:∀ ts:List Str,strsW (ts.map W.str)=some ts
 | []=>rfl
 | x::r=>by
  show (match strW (.str x),strsW (r.map W.str) with | some x,some xs=>some (x::xs) | _,_=>none)=_
  rw [strsW_map r]; rfl
theorem joi_ok {a:Str} {ts:List Str} {B:Nat} (h:∀ y∈ts,y.length<=B) (hb:ts.length*B+ts.length*a.length<=16777216):joi1 a (lS ts)=.ok (.str (Str.join a ts)):=by
 unfold joi1
 dsimp only
 rw [strsW_map]
 dsimp only
 rw [if_pos (by unfold JoinOk; rw [StrLaws.joinFits h hb]; rfl)]
 unfold Txt.join
 rw [StrLaws.glued_eq_join]
theorem tp_succ (c:List Int) (ps:List Str) (t:Int) (i:Nat):tp c ps t (i+1)=tp c ps t i++(if 0<c.getD (((i:Int)+t)%(ps.length:Int)).toNat 0 then [(c.getD (((i:Int)+t)%(ps.length:Int)).toNat 0,ps.getD (((i:Int)+t)%(ps.length:Int)).toNat Str.empty)] else []):=by
 unfold tp qs
 rw [List.range_succ,List.map_append,List.filter_append,List.map_append]
 congr 1
 show List.map _ (List.filter _ [_])=_
 by_cases h:0<c.getD (((i:Int)+t)%(ps.length:Int)).toNat 0
 ·rw [if_pos h,List.filter_cons_of_pos (by exact decide_eq_true h)]; rfl
 ·rw [if_neg h,List.filter_cons_of_neg (by rw [decide_eq_false h]; decide)]; rfl
theorem tp_len (c:List Int) (ps:List Str) (t:Int) (i:Nat):(tp c ps t i).length<=i:=by
 unfold tp
 rw [List.length_map]
 have:=List.length_filter_le (fun q=>decide (0<c.getD q 0)) (qs t ps.length i)
 have e:(qs t ps.length i).length=i:=by unfold qs; rw [List.length_map,List.length_range]
 omega
theorem cn_log {c:Int} (h:Cn c):c.natAbs.log2<1920:=log_of (Nat.lt_of_le_of_lt (show c.natAbs<=1000000000 by have:=h.1; have:=h.2; omega) (by decide +kernel))
theorem pc_len {ks:List Str} (hks:∀ k∈ks,Nm k) {p:Pr} (h:1<=p.1/\Cn p.1/\p.2∈ks):(pc p).length<=20:=by
 unfold pc
 rw [Str.length_append,Str.length_append,Str.length_append,lB1]
 have:=(num_wd h.2.1).1
 have:=(hks _ h.2.2).2.1
 omega
theorem told_ok {c:List Int} {ps:List Str} {t:Int} (h:cnt ps.length c) (hn:∀ k∈ps,Nm k) (hd:ps.Nodup) (h1:1<=ps.length) (h6:ps.length<=6):f__law_told [tI c,lS ps,.int t]=.ok (.str (cat ((tp c ps t ps.length).map pc))):=by
 have fin:Ok (f__law_told [tI c,lS ps,.int t]) fun v=>v=.str (cat ((tp c ps t ps.length).map pc)):=by
  have hc:=h.1
  simp (disch:=first | with_reducible assumption | omega | (simp only [rp18]; omega)) only [List.getElem?_cons_zero,List.getElem?_cons_succ,List.set_cons_succ,List.set_cons_zero,rp19,rp16,rp17,rp18,mulB_L,mulB_R,mulB_b,rps1,rps2,rps3,vSlT_ap,Rst_I,decide_eq_true_eq,tyW,isN,Nat.reduceSub,Nat.reduceAdd,Nat.reduceEqDiff,Nat.reduceLeDiff,Nat.reduceLT,reduceIte,reduceCtorEq,Int.reduceLT,Int.reduceLE,Int.reduceEq,Int.reduceAdd,Int.reduceSub,Int.reduceMul,Int.reduceNeg,Int.reduceToNat,Int.reduceMod,Int.reducePow,Int.reduceDiv,Nat.reducePow,runB_1,runB_2,runB_3,runB_4,runB_5,m__law_told]
  refine ok_end (po_fors (fun i ρ=>∃ a b:Sl,ρ = [.par (tI c),.par (lS ps),.par (.int t),.own (((tp c ps t i).map pc).map W.str),a,b]) ⟨_,_,rfl⟩ ?_ ?_)
  ·rintro i w ρ hu ⟨a,b,rfl⟩
   obtain ⟨hi,rfl⟩:=rng_at hu
   have m0:=Int.emod_nonneg ((i:Int)+t) (show (ps.length:Int)≠0 by omega)
   have m1:=Int.emod_lt_of_pos ((i:Int)+t) (show (0:Int)<ps.length by omega)
   have ta:=at_d (ts:=ps) ⟨m0,m1⟩
   have ca:=cnt_at h (((i:Int)+t)%(ps.length:Int)).toNat
   have hl:(((tp c ps t i).map pc).map W.str).length<1000:=by rw [List.length_map,List.length_map]; have:=tp_len c ps t i; omega
   have sc:=tp_succ c ps t i
   have nk:=(nm_wd (hn _ (getD_mem (i:=(((i:Int)+t)%(ps.length:Int)).toNat) (by omega)))).1
   refine ⟨_,rfl,?_⟩
   by_cases h0:0<c.getD (((i:Int)+t)%(ps.length:Int)).toNat 0
   ·rw [if_pos h0] at sc
    have lg:=cn_log ca
    have nl:=(num_wd ca).1
    have f1:B1.length+(num (c.getD (((i:Int)+t)%(ps.length:Int)).toNat 0)).length<=100000:=by rw [lB1]; omega
    have f2:(B1++num (c.getD (((i:Int)+t)%(ps.length:Int)).toNat 0)).length+B1.length<=100000:=by rw [Str.length_append,lB1]; omega
    have f3:(B1++num (c.getD (((i:Int)+t)%(ps.length:Int)).toNat 0)++B1).length+(ps.getD (((i:Int)+t)%(ps.length:Int)).toNat Str.empty).length<=100000:=by rw [Str.length_append,Str.length_append,lB1]; omega
    simp (disch:=first | with_reducible assumption | omega | (simp only [rp18]; omega)) only [List.getElem?_cons_zero,List.getElem?_cons_succ,List.set_cons_succ,List.set_cons_zero,rp19,rp16,rp17,rp18,mulB_L,mulB_R,mulB_b,rps1,rps2,rps3,vSlT_ap,Rst_I,decide_eq_true_eq,tyW,isN,Nat.reduceSub,Nat.reduceAdd,Nat.reduceEqDiff,Nat.reduceLeDiff,Nat.reduceLT,reduceIte,reduceCtorEq,Int.reduceLT,Int.reduceLE,Int.reduceEq,Int.reduceAdd,Int.reduceSub,Int.reduceMul,Int.reduceNeg,Int.reduceToNat,Int.reduceMod,Int.reducePow,Int.reduceDiv,Nat.reducePow,ta,decide_eq_true h0]
    refine ⟨.par (.int (i:Nat)),.val (.int (((i:Int)+t)%(ps.length:Int))),?_⟩
    rw [sc,List.map_append,List.map_append]
    rfl
   ·rw [if_neg h0,List.append_nil] at sc
    simp (disch:=first | with_reducible assumption | omega | (simp only [rp18]; omega)) only [List.getElem?_cons_zero,List.getElem?_cons_succ,List.set_cons_succ,List.set_cons_zero,rp19,rp16,rp17,rp18,mulB_L,mulB_R,mulB_b,rps1,rps2,rps3,vSlT_ap,Rst_I,decide_eq_true_eq,tyW,isN,Nat.reduceSub,Nat.reduceAdd,Nat.reduceEqDiff,Nat.reduceLeDiff,Nat.reduceLT,reduceIte,reduceCtorEq,Int.reduceLT,Int.reduceLE,Int.reduceEq,Int.reduceAdd,Int.reduceSub,Int.reduceMul,Int.reduceNeg,Int.reduceToNat,Int.reduceMod,Int.reducePow,Int.reduceDiv,Nat.reducePow,ta,decide_eq_false h0]
    refine ⟨.par (.int (i:Nat)),.val (.int (((i:Int)+t)%(ps.length:Int))),?_⟩
    rw [sc]
  ·rintro ρ ⟨a,b,rfl⟩
   rw [List.length_map,List.length_range]
   have tt:=tp_told (t:=t) h hd h1 h6
   have j:=joi_ok (a:=Str.ofString "") (ts:=(tp c ps t ps.length).map pc) (B:=20) (fun y hy=>by
    obtain ⟨p,hp,rfl⟩:=List.mem_map.mp hy
    exact pc_len hn (tt.1 p hp)) (by
    have e:(Str.ofString "").length=0:=by decide +kernel
    rw [e,List.length_map]
    have:=tp_len c ps t ps.length
    omega)
   simp (disch:=first | with_reducible assumption | omega | (simp only [rp18]; omega)) only [List.getElem?_cons_zero,List.getElem?_cons_succ,List.set_cons_succ,List.set_cons_zero,rp19,rp16,rp17,rp18,mulB_L,mulB_R,mulB_b,rps1,rps2,rps3,vSlT_ap,Rst_I,decide_eq_true_eq,tyW,isN,Nat.reduceSub,Nat.reduceAdd,Nat.reduceEqDiff,Nat.reduceLeDiff,Nat.reduceLT,reduceIte,reduceCtorEq,Int.reduceLT,Int.reduceLE,Int.reduceEq,Int.reduceAdd,Int.reduceSub,Int.reduceMul,Int.reduceNeg,Int.reduceToNat,Int.reduceMod,Int.reducePow,Int.reduceDiv,Nat.reducePow,j]
   rw [show Str.ofString "" = Str.empty by decide +kernel,join_e]
 obtain ⟨v,e,rfl⟩:=fin
 exact e
theorem cat_fl:∀ l:List Pr,cat ((fl l).map fun q=>B1++q)=cat (l.map pc)
 | []=>rfl
 | p::r=>by
  show B1++num p.1++(B1++p.2++cat ((fl r).map _))=pc p++cat (r.map pc)
  rw [cat_fl r]
  unfold pc
  simp only [Str.append_assoc]
theorem mv_text (n:Str) (T P:List Pr):Str.join B1 (mw n T P)=Str.ofString "move " ++ n++Str.ofString " takes" ++ cat (T.map pc)++Str.ofString " puts" ++ cat (P.map pc):=by
 unfold mw
 rw [join_cat]
 show Str.ofString "move" ++ (B1++n++(B1++Str.ofString "takes" ++ cat ((fl T++Str.ofString "puts" :: fl P).map _)))=_
 rw [List.map_append,cat_app,cat_fl]
 show Str.ofString "move" ++ (B1++n++(B1++Str.ofString "takes" ++ (cat (T.map pc)++(B1++Str.ofString "puts" ++ cat ((fl P).map _)))))=_
 rw [cat_fl,show Str.ofString "move " = Str.ofString "move" ++ B1 by decide +kernel,show Str.ofString " takes" = B1++Str.ofString "takes" by decide +kernel,show Str.ofString " puts" = B1++Str.ofString "puts" by decide +kernel]
 simp only [Str.append_assoc]
theorem pl_text (n:Str) (c:Int):Str.join B1 (pw (n,c))=Str.ofString "place " ++ n++B1++num c:=by
 show Str.ofString "place" ++ B1++(n++B1++num c)=_
 rw [show Str.ofString "place " = Str.ofString "place" ++ B1 by decide +kernel]
 simp only [Str.append_assoc]
--CUT
def pls (ps:List Str) (b:List Int):List Pl:=(List.range ps.length).map fun i=>(ps.getD i Str.empty,b.getD i 0)
def mts (ps ns:List Str) (ms:List Mv) (t u:Int):List Mt:=(List.range ms.length).map fun k=>(ns.getD k Str.empty,tp (ms.getD k ([],[])).1 ps t ps.length,tp (ms.getD k ([],[])).2 ps u ps.length)
theorem cat_len {B:Nat}:∀ l:List Str,(∀ y∈l,y.length<=B)->(cat l).length<=l.length*B
 | [],_=>Nat.zero_le _
 | x::r,h=>by
  show (x++cat r).length<=(r.length+1)*B
  rw [Str.length_append,Nat.succ_mul]
  have:=h x (List.mem_cons_self ..)
  have:=cat_len r fun y hy=>h y (List.mem_cons_of_mem _ hy)
  omega
structure Dr (ps ns:List Str) (ms:List Mv):Prop where
 l1:1<=ps.length
 l2:ps.length<=6
 l3:ms.length<=8
 l4:ns.length=ms.length
 np:∀ k∈ps,Nm k
 nn:∀ k∈ns,Nm k
 dp:ps.Nodup
 dn:ns.Nodup
 mv:∀ m∈ms,cnt ps.length m.1/\cnt ps.length m.2
def big (b:List Int):Prop:=∀ x∈b,0<=x/\x<10^41
theorem big_at {b:List Int} (h:big b) (i:Nat):0<=b.getD i 0/\b.getD i 0<10^41:=by
 by_cases hi:i<b.length
 ·rw [List.getD_eq_getElem?_getD,List.getElem?_eq_getElem hi]; exact h _ (List.getElem_mem hi)
 ·rw [List.getD_eq_getElem?_getD,List.getElem?_eq_none (by omega)]; exact ⟨by decide,by decide⟩
theorem big_log {c:Int} (h:0<=c/\c<10^41):c.natAbs.log2<1920:=by
 have h2:=h.2
 have h1:=h.1
 exact log_of (Nat.lt_of_lt_of_le (show c.natAbs<10^41 by omega) (by decide +kernel))
theorem big_len {c:Int} (h:0<=c/\c<10^41):(num c).length<=41:=PyProof.Rows.toString_length_le h.1 (by decide) h.2
theorem mv_at {ps ns:List Str} {ms:List Mv} (D:Dr ps ns ms) {k:Nat} (hk:k<ms.length):cnt ps.length (ms.getD k ([],[])).1/\cnt ps.length (ms.getD k ([],[])).2:=by
 rw [List.getD_eq_getElem?_getD,List.getElem?_eq_getElem hk]
 exact D.mv _ (List.getElem_mem hk)
theorem tp_cat {c:List Int} {ps:List Str} {t:Int} (h:cnt ps.length c) (hn:∀ k∈ps,Nm k) (hd:ps.Nodup) (h1:1<=ps.length) (h6:ps.length<=6):(cat ((tp c ps t ps.length).map pc)).length<=120:=by
 have:=cat_len (B:=20) ((tp c ps t ps.length).map pc) (fun y hy=>by
  obtain ⟨p,hp,rfl⟩:=List.mem_map.mp hy
  exact pc_len hn ((tp_told h hd h1 h6).1 p hp))
 rw [List.length_map] at this
 have:=tp_len c ps t ps.length
 omega
theorem lPl:(Str.ofString "place ").length=6:=by decide +kernel
theorem lMv:(Str.ofString "move ").length=5:=by decide +kernel
theorem lTk:(Str.ofString " takes").length=6:=by decide +kernel
theorem lPu:(Str.ofString " puts").length=5:=by decide +kernel
theorem parts_len {ps ns:List Str} {ms:List Mv} {b:List Int} {t u:Int} (D:Dr ps ns ms) (hb:big b):∀ y∈(pls ps b).map (fun p=>Str.join B1 (pw p))++(mts ps ns ms t u).map (fun m=>Str.join B1 (mws m)),y.length<=1000:=by
 intro y hy
 have nl:∀ k:Nat,k<ps.length->(ps.getD k Str.empty).length<=10:=fun k hk=>(nm_wd (D.np _ (getD_mem hk))).1
 rcases List.mem_append.mp hy with hy | hy
 ·obtain ⟨p,hp,rfl⟩:=List.mem_map.mp hy
  obtain ⟨k,hk,rfl⟩:=List.mem_map.mp hp
  rw [pl_text,Str.length_append,Str.length_append,Str.length_append,lPl,lB1]
  have:=big_len (big_at hb k)
  have:=nl k (List.mem_range.mp hk)
  omega
 ·obtain ⟨m,hm,rfl⟩:=List.mem_map.mp hy
  obtain ⟨k,hk,rfl⟩:=List.mem_map.mp hm
  have hk:=List.mem_range.mp hk
  show (Str.join B1 (mw (ns.getD k Str.empty) (tp (ms.getD k ([],[])).1 ps t ps.length) (tp (ms.getD k ([],[])).2 ps u ps.length))).length<=1000
  rw [mv_text,Str.length_append,Str.length_append,Str.length_append,Str.length_append,Str.length_append,lMv,lTk,lPu]
  have:=(nm_wd (D.nn _ (getD_mem (ps:=ns) (i:=k) (by rw [D.l4]; exact hk)))).1
  have:=tp_cat (t:=t) (mv_at D hk).1 D.np D.dp D.l1 D.l2
  have:=tp_cat (t:=u) (mv_at D hk).2 D.np D.dp D.l1 D.l2
  omega
theorem text_join {ps ns:List Str} {ms:List Mv} {b:List Int} {t u:Int} (D:Dr ps ns ms) (hb:big b):joi1 B2 (lS ((pls ps b).map (fun p=>Str.join B1 (pw p))++(mts ps ns ms t u).map (fun m=>Str.join B1 (mws m))))=.ok (.str (text (pls ps b) (mts ps ns ms t u))):=by
 refine joi_ok (parts_len D hb) ?_
 have e:((pls ps b).map (fun p=>Str.join B1 (pw p))++(mts ps ns ms t u).map (fun m=>Str.join B1 (mws m))).length=ps.length+ms.length:=by
  rw [List.length_append,List.length_map,List.length_map]; unfold pls mts; rw [List.length_map,List.length_map,List.length_range,List.length_range]
 rw [e,lB2]
 have:=D.l2
 have:=D.l3
 omega
theorem ltext_ok {ps ns:List Str} {ms:List Mv} {b:List Int} {t:Int} (D:Dr ps ns ms) (hb:big b) (hl:b.length=ps.length):f__law_text [tI b,.tup (ms.map mW),lS ps,lS ns,.int t]=.ok (.str (text (pls ps b) (mts ps ns ms t (2*t)))):=by
 have fin:Ok (f__law_text [tI b,.tup (ms.map mW),lS ps,lS ns,.int t]) fun v=>v=.str (text (pls ps b) (mts ps ns ms t (2*t))):=by
  have d1:=D.l1
  have d2:=D.l2
  have d3:=D.l3
  have d4:=D.l4
  simp (disch:=first | with_reducible assumption | omega | (simp only [rp18]; omega)) only [List.getElem?_cons_zero,List.getElem?_cons_succ,List.set_cons_succ,List.set_cons_zero,rp19,rp16,rp17,rp18,mulB_L,mulB_R,mulB_b,rps1,rps2,rps3,vSlT_ap,Rst_I,decide_eq_true_eq,tyW,isN,Nat.reduceSub,Nat.reduceAdd,Nat.reduceEqDiff,Nat.reduceLeDiff,Nat.reduceLT,reduceIte,reduceCtorEq,Int.reduceLT,Int.reduceLE,Int.reduceEq,Int.reduceAdd,Int.reduceSub,Int.reduceMul,Int.reduceNeg,Int.reduceToNat,Int.reduceMod,Int.reducePow,Int.reduceDiv,Nat.reducePow,runB_1,runB_2,runB_3,runB_4,runB_5,m__law_text]
  rw [mComp_all (fun k:Nat=>W.str (Str.join B1 (pw (ps.getD k Str.empty,b.getD k 0)))) (fun k:Nat=>W.int (k:Nat)) (List.range ps.length) _ (by rw [List.length_range]; omega) ?_]
  ·have e0:(List.range ps.length).map (fun k:Nat=>W.str (Str.join B1 (pw (ps.getD k Str.empty,b.getD k 0))))=((pls ps b).map (fun p=>Str.join B1 (pw p))).map W.str:=by
    unfold pls; rw [List.map_map,List.map_map]; rfl
   rw [e0]
   simp (disch:=first | with_reducible assumption | omega | (simp only [rp18]; omega)) only [List.getElem?_cons_zero,List.getElem?_cons_succ,List.set_cons_succ,List.set_cons_zero,rp19,rp16,rp17,rp18,mulB_L,mulB_R,mulB_b,rps1,rps2,rps3,vSlT_ap,Rst_I,decide_eq_true_eq,tyW,isN,Nat.reduceSub,Nat.reduceAdd,Nat.reduceEqDiff,Nat.reduceLeDiff,Nat.reduceLT,reduceIte,reduceCtorEq,Int.reduceLT,Int.reduceLE,Int.reduceEq,Int.reduceAdd,Int.reduceSub,Int.reduceMul,Int.reduceNeg,Int.reduceToNat,Int.reduceMod,Int.reducePow,Int.reduceDiv,Nat.reducePow]
   refine ok_end (po_fors (fun i ρ=>∃ x y z:Sl,ρ = [.par (tI b),.par (.tup (ms.map mW)),.par (lS ps),.par (lS ns),.par (.int t),.own (((pls ps b).map (fun p=>Str.join B1 (pw p))++((mts ps ns ms t (2*t)).take i).map (fun m=>Str.join B1 (mws m))).map W.str),x,y,z]) ⟨_,_,_,by rw [List.take_zero,List.map_nil,List.append_nil]⟩ ?_ ?_)
   ·rintro i w ρ hu ⟨x,y,z,rfl⟩
    obtain ⟨hi,rfl⟩:=rng_at hu
    have ha:L2.atI (ms.map mW) (i:Int)=some (mW (ms.getD i ([],[]))):=by
     have:=at_map mW (as:=ms) (d:=([],[])) (i:=(i:Int)) ⟨by omega,by omega⟩
     rw [Int.toNat_natCast] at this; exact this
    have ta:=at_d (ts:=ns) (i:=(i:Int)) ⟨by omega,by omega⟩
    rw [Int.toNat_natCast] at ta
    have mi:=mv_at D hi
    have hm:(mts ps ns ms t (2*t))[i]?=some (ns.getD i Str.empty,tp (ms.getD i ([],[])).1 ps t ps.length,tp (ms.getD i ([],[])).2 ps (2*t) ps.length):=by
     unfold mts; rw [List.getElem?_map,List.getElem?_range hi]; rfl
    have to1:=told_ok (t:=t) mi.1 D.np D.dp d1 d2
    have to2:=told_ok (t:=2*t) mi.2 D.np D.dp d1 d2
    have c1:=tp_cat (t:=t) mi.1 D.np D.dp d1 d2
    have c2:=tp_cat (t:=2*t) mi.2 D.np D.dp d1 d2
    have nk:=(nm_wd (D.nn _ (getD_mem (ps:=ns) (i:=i) (by omega)))).1
    have mt:=mv_text (ns.getD i Str.empty) (tp (ms.getD i ([],[])).1 ps t ps.length) (tp (ms.getD i ([],[])).2 ps (2*t) ps.length)
    have ll:(((pls ps b).map (fun p=>Str.join B1 (pw p))++((mts ps ns ms t (2*t)).take i).map (fun m=>Str.join B1 (mws m))).map W.str).length<1000:=by
     rw [List.length_map,List.length_append,List.length_map,List.length_map,List.length_take]; unfold pls; rw [List.length_map,List.length_range]; omega
    generalize tp (ms.getD i ([],[])).1 ps t ps.length=T at *
    generalize tp (ms.getD i ([],[])).2 ps (2*t) ps.length=P at *
    generalize ns.getD i Str.empty=n at *
    have f1:(Str.ofString "move ").length+n.length<=100000:=by rw [lMv]; omega
    have f2:(Str.ofString "move " ++ n).length+(Str.ofString " takes").length<=100000:=by rw [Str.length_append,lMv,lTk]; omega
    have f3:(Str.ofString "move " ++ n++Str.ofString " takes").length+(cat (T.map pc)).length<=100000:=by rw [Str.length_append,Str.length_append,lMv,lTk]; omega
    have f4:(Str.ofString "move " ++ n++Str.ofString " takes" ++ cat (T.map pc)).length+(Str.ofString " puts").length<=100000:=by rw [Str.length_append,Str.length_append,Str.length_append,lMv,lTk,lPu]; omega
    have f5:(Str.ofString "move " ++ n++Str.ofString " takes" ++ cat (T.map pc)++Str.ofString " puts").length+(cat (P.map pc)).length<=100000:=by rw [Str.length_append,Str.length_append,Str.length_append,Str.length_append,lMv,lTk,lPu]; omega
    refine ⟨_,rfl,?_⟩
    simp (disch:=first | with_reducible assumption | omega | (simp only [rp18]; omega)) only [List.getElem?_cons_zero,List.getElem?_cons_succ,List.set_cons_succ,List.set_cons_zero,rp19,rp16,rp17,rp18,mulB_L,mulB_R,mulB_b,rps1,rps2,rps3,vSlT_ap,Rst_I,decide_eq_true_eq,tyW,isN,Nat.reduceSub,Nat.reduceAdd,Nat.reduceEqDiff,Nat.reduceLeDiff,Nat.reduceLT,reduceIte,reduceCtorEq,Int.reduceLT,Int.reduceLE,Int.reduceEq,Int.reduceAdd,Int.reduceSub,Int.reduceMul,Int.reduceNeg,Int.reduceToNat,Int.reduceMod,Int.reducePow,Int.reduceDiv,Nat.reducePow,ha,to1,to2,ta]
    rw [<- mt]
    refine ⟨.par (.int (i:Nat)),.val (.str (cat (T.map pc))),.val (.str (cat (P.map pc))),?_⟩
    rw [take_one hm]
    simp only [List.map_append,List.append_assoc]
    rfl
   ·rintro ρ ⟨x,y,z,rfl⟩
    rw [List.length_map,List.length_range,show (mts ps ns ms t (2*t)).take ms.length=mts ps ns ms t (2*t) from List.take_of_length_le (by unfold mts; rw [List.length_map,List.length_range]; exact Nat.le_refl _)]
    simp (disch:=first | with_reducible assumption | omega | (simp only [rp18]; omega)) only [List.getElem?_cons_zero,List.getElem?_cons_succ,List.set_cons_succ,List.set_cons_zero,rp19,rp16,rp17,rp18,mulB_L,mulB_R,mulB_b,rps1,rps2,rps3,vSlT_ap,Rst_I,decide_eq_true_eq,tyW,isN,Nat.reduceSub,Nat.reduceAdd,Nat.reduceEqDiff,Nat.reduceLeDiff,Nat.reduceLT,reduceIte,reduceCtorEq,Int.reduceLT,Int.reduceLE,Int.reduceEq,Int.reduceAdd,Int.reduceSub,Int.reduceMul,Int.reduceNeg,Int.reduceToNat,Int.reduceMod,Int.reducePow,Int.reduceDiv,Nat.reducePow,text_join D hb]
  ·intro k hk
   have hk:=List.mem_range.mp hk
   have ta:=at_d (ts:=ps) (i:=(k:Int)) ⟨by omega,by omega⟩
   rw [Int.toNat_natCast] at ta
   have bk:=big_at hb k
   have lg:=big_log bk
   have bl:=big_len bk
   have nk:=(nm_wd (D.np _ (getD_mem hk))).1
   have ba:L2.atI (b.map W.int) (k:Int)=some (.int (b.getD k 0)):=atW_nat (by omega)
   refine ⟨_,rfl,?_⟩
   rw [pl_text]
   generalize ps.getD k Str.empty=n at *
   generalize b.getD k 0=c at *
   have f1:(Str.ofString "place ").length+n.length<=100000:=by rw [lPl]; omega
   have f2:(Str.ofString "place " ++ n).length+B1.length<=100000:=by rw [Str.length_append,lPl,lB1]; omega
   have f3:(Str.ofString "place " ++ n++B1).length+(num c).length<=100000:=by rw [Str.length_append,Str.length_append,lPl,lB1]; omega
   simp (disch:=first | with_reducible assumption | omega | (simp only [rp18]; omega)) only [List.getElem?_cons_zero,List.getElem?_cons_succ,List.set_cons_succ,List.set_cons_zero,rp19,rp16,rp17,rp18,mulB_L,mulB_R,mulB_b,rps1,rps2,rps3,vSlT_ap,Rst_I,decide_eq_true_eq,tyW,isN,Nat.reduceSub,Nat.reduceAdd,Nat.reduceEqDiff,Nat.reduceLeDiff,Nat.reduceLT,reduceIte,reduceCtorEq,Int.reduceLT,Int.reduceLE,Int.reduceEq,Int.reduceAdd,Int.reduceSub,Int.reduceMul,Int.reduceNeg,Int.reduceToNat,Int.reduceMod,Int.reducePow,Int.reduceDiv,Nat.reducePow,ta,ba]
 obtain ⟨v,e,rfl⟩:=fin
 exact e
--CUT
def sc1 (p:Pr):Str:=num p.1++B1++p.2
theorem fp4 {a x y:Str} {i:Int} (h:a.length+x.length+y.length+(num i).length<=100000) (hi:i.natAbs.log2<1920):fpR [.ok (.str a),.ok (.str x),.ok (.str y),.ok (.int i)] Str.empty=.ok (.str (a++x++y++num i)):=by
 have t:∀ z:Str,z.length<=100000->txtW (.str z)=some z:=fun z hz=>if_pos hz
 have ti:txtW (.int i)=some (num i):=if_pos hi
 have e1:(Str.empty++a).length=a.length:=by rw [Str.empty_append]
 simp only [fpR,R.ok_bind,t a (by omega),t x (by omega),t y (by omega),ti,Str.empty_append,Str.length_append]
 rw [if_pos (by omega),if_pos (by omega),if_pos (by omega),if_pos (by omega),if_pos (by omega)]
theorem fp3 {x y:Str} {i:Int} (h:(num i).length+x.length+y.length<=100000) (hi:i.natAbs.log2<1920):fpR [.ok (.int i),.ok (.str x),.ok (.str y)] Str.empty=.ok (.str (num i++x++y)):=by
 have t:∀ z:Str,z.length<=100000->txtW (.str z)=some z:=fun z hz=>if_pos hz
 have ti:txtW (.int i)=some (num i):=if_pos hi
 simp only [fpR,R.ok_bind,t x (by omega),t y (by omega),ti,Str.empty_append,Str.length_append]
 rw [if_pos (by omega),if_pos (by omega),if_pos (by omega),if_pos (by omega)]
theorem tp_zero (c:List Int) (ps:List Str):tp c ps 0 ps.length=((List.range ps.length).filter fun q=>decide (0<c.getD q 0)).map fun q=>(c.getD q 0,ps.getD q Str.empty):=by
 have e:qs 0 ps.length ps.length=List.range ps.length:=by
  unfold qs
  have:(List.range ps.length).map (fun p=>((((p:Nat):Int)+0)%(ps.length:Int)).toNat)=(List.range ps.length).map id:=by
   refine List.map_congr_left fun p hp=>?_
   have hp:=List.mem_range.mp hp
   rw [Int.add_zero,Int.emod_eq_of_lt (by omega) (by omega)]
   simp
  rw [this,List.map_id]
 unfold tp
 rw [e]
theorem scount_ok {c:List Int} {ps:List Str} (h:cnt ps.length c) (hn:∀ k∈ps,Nm k) (h6:ps.length<=6):f_shown_counts [tI c,lS ps]=.ok (lS ((tp c ps 0 ps.length).map sc1)):=by
 have hz:zipR [lS ps,tI c]=.ok ((List.range ps.length).map fun k=>W.tup [.str (ps.getD k Str.empty),.int (c.getD k 0)]):=by
  rw [zipR_2 _ _ _ _ rfl rfl,zipW_M2 W.str W.int h.1 Str.empty 0]
 simp (disch:=first | with_reducible assumption | omega | (simp only [rp18]; omega)) only [List.getElem?_cons_zero,List.getElem?_cons_succ,List.set_cons_succ,List.set_cons_zero,rp19,rp16,rp17,rp18,mulB_L,mulB_R,mulB_b,rps1,rps2,rps3,vSlT_ap,Rst_I,decide_eq_true_eq,tyW,isN,Nat.reduceSub,Nat.reduceAdd,Nat.reduceEqDiff,Nat.reduceLeDiff,Nat.reduceLT,reduceIte,reduceCtorEq,Int.reduceLT,Int.reduceLE,Int.reduceEq,Int.reduceAdd,Int.reduceSub,Int.reduceMul,Int.reduceNeg,Int.reduceToNat,Int.reduceMod,Int.reducePow,Int.reduceDiv,Nat.reducePow,runB_1,runB_2,runB_3,runB_4,runB_5,m_shown_counts,hz]
 rw [mComp_filter (fun k:Nat=>W.str (sc1 (c.getD k 0,ps.getD k Str.empty))) (fun k:Nat=>W.tup [.str (ps.getD k Str.empty),.int (c.getD k 0)]) (fun k=>decide (0<c.getD k 0)) (List.range ps.length) _ (by rw [List.length_range]; omega) ?_]
 ·simp (disch:=first | with_reducible assumption | omega | (simp only [rp18]; omega)) only [List.getElem?_cons_zero,List.getElem?_cons_succ,List.set_cons_succ,List.set_cons_zero,rp19,rp16,rp17,rp18,mulB_L,mulB_R,mulB_b,rps1,rps2,rps3,vSlT_ap,Rst_I,decide_eq_true_eq,tyW,isN,Nat.reduceSub,Nat.reduceAdd,Nat.reduceEqDiff,Nat.reduceLeDiff,Nat.reduceLT,reduceIte,reduceCtorEq,Int.reduceLT,Int.reduceLE,Int.reduceEq,Int.reduceAdd,Int.reduceSub,Int.reduceMul,Int.reduceNeg,Int.reduceToNat,Int.reduceMod,Int.reducePow,Int.reduceDiv,Nat.reducePow]
  rw [tp_zero,List.map_map]
  show _=R.ok (W.lst (List.map W.str (List.map _ _)))
  rw [List.map_map]
  rfl
 ·intro k hk
  have hk:=List.mem_range.mp hk
  have ck:=cnt_at h k
  have lg:=cn_log ck
  have nl:=(num_wd ck).1
  have nk:=(nm_wd (hn _ (getD_mem hk))).1
  refine ⟨_,rfl,?_,fun _=>?_⟩
  ·simp (disch:=first | with_reducible assumption | omega | (simp only [rp18]; omega)) only [List.getElem?_cons_zero,List.getElem?_cons_succ,List.set_cons_succ,List.set_cons_zero,rp19,rp16,rp17,rp18,mulB_L,mulB_R,mulB_b,rps1,rps2,rps3,vSlT_ap,Rst_I,decide_eq_true_eq,tyW,isN,Nat.reduceSub,Nat.reduceAdd,Nat.reduceEqDiff,Nat.reduceLeDiff,Nat.reduceLT,reduceIte,reduceCtorEq,Int.reduceLT,Int.reduceLE,Int.reduceEq,Int.reduceAdd,Int.reduceSub,Int.reduceMul,Int.reduceNeg,Int.reduceToNat,Int.reduceMod,Int.reducePow,Int.reduceDiv,Nat.reducePow]
  ·simp (disch:=first | with_reducible assumption | omega | (simp only [rp18]; omega)) only [List.getElem?_cons_zero,List.getElem?_cons_succ,List.set_cons_succ,List.set_cons_zero,rp19,rp16,rp17,rp18,mulB_L,mulB_R,mulB_b,rps1,rps2,rps3,vSlT_ap,Rst_I,decide_eq_true_eq,tyW,isN,Nat.reduceSub,Nat.reduceAdd,Nat.reduceEqDiff,Nat.reduceLeDiff,Nat.reduceLT,reduceIte,reduceCtorEq,Int.reduceLT,Int.reduceLE,Int.reduceEq,Int.reduceAdd,Int.reduceSub,Int.reduceMul,Int.reduceNeg,Int.reduceToNat,Int.reduceMod,Int.reducePow,Int.reduceDiv,Nat.reducePow]
   rw [fp3 (by rw [lB1]; omega) lg]
   rfl
theorem cat_sc:∀ l:List Pr,cat ((l.map sc1).map fun q=>B1++q)=cat (l.map pc)
 | []=>rfl
 | p::r=>by
  show B1++sc1 p++cat ((r.map sc1).map _)=pc p++cat (r.map pc)
  rw [cat_sc r]
  unfold pc sc1
  simp only [Str.append_assoc]
def sw (n:Str) (T P:List Pr):List Str:=Str.ofString "move" :: n::Str.ofString "takes" :: (T.map sc1++Str.ofString "puts" :: P.map sc1)
theorem sw_text (n:Str) (T P:List Pr):Str.join B1 (sw n T P)=Str.join B1 (mw n T P):=by
 rw [mv_text]
 unfold sw
 rw [join_cat]
 show Str.ofString "move" ++ (B1++n++(B1++Str.ofString "takes" ++ cat ((T.map sc1++Str.ofString "puts" :: P.map sc1).map _)))=_
 rw [List.map_append,cat_app,cat_sc]
 show Str.ofString "move" ++ (B1++n++(B1++Str.ofString "takes" ++ (cat (T.map pc)++(B1++Str.ofString "puts" ++ cat ((P.map sc1).map _)))))=_
 rw [cat_sc,show Str.ofString "move " = Str.ofString "move" ++ B1 by decide +kernel,show Str.ofString " takes" = B1++Str.ofString "takes" by decide +kernel,show Str.ofString " puts" = B1++Str.ofString "puts" by decide +kernel]
 simp only [Str.append_assoc]
theorem shown_ok {ps ns:List Str} {ms:List Mv} {b:List Int} (D:Dr ps ns ms) (hb:big b) (hl:b.length=ps.length):f_shown [.tup [tI b,.tup (ms.map mW)],lS ps,lS ns]=.ok (.str (text (pls ps b) (mts ps ns ms 0 0))):=by
 have fin:Ok (f_shown [.tup [tI b,.tup (ms.map mW)],lS ps,lS ns]) fun v=>v=.str (text (pls ps b) (mts ps ns ms 0 0)):=by
  have d1:=D.l1
  have d2:=D.l2
  have d3:=D.l3
  have d4:=D.l4
  have hz:zipR [lS ps,tI b]=.ok ((List.range ps.length).map fun k=>W.tup [.str (ps.getD k Str.empty),.int (b.getD k 0)]):=by
   rw [zipR_2 _ _ _ _ rfl rfl,zipW_M2 W.str W.int hl Str.empty 0]
  have hz2:zipR [lS ns,.tup (ms.map mW)]=.ok ((List.range ns.length).map fun k=>W.tup [.str (ns.getD k Str.empty),mW (ms.getD k ([],[]))]):=by
   rw [zipR_2 _ _ _ _ rfl rfl,zipW_M2 W.str mW d4.symm Str.empty ([],[])]
  simp (disch:=first | with_reducible assumption | omega | (simp only [rp18]; omega)) only [List.getElem?_cons_zero,List.getElem?_cons_succ,List.set_cons_succ,List.set_cons_zero,rp19,rp16,rp17,rp18,mulB_L,mulB_R,mulB_b,rps1,rps2,rps3,vSlT_ap,Rst_I,decide_eq_true_eq,tyW,isN,Nat.reduceSub,Nat.reduceAdd,Nat.reduceEqDiff,Nat.reduceLeDiff,Nat.reduceLT,reduceIte,reduceCtorEq,Int.reduceLT,Int.reduceLE,Int.reduceEq,Int.reduceAdd,Int.reduceSub,Int.reduceMul,Int.reduceNeg,Int.reduceToNat,Int.reduceMod,Int.reducePow,Int.reduceDiv,Nat.reducePow,runB_1,runB_2,runB_3,runB_4,runB_5,m_shown,hz]
  rw [mComp_all (fun k:Nat=>W.str (Str.join B1 (pw (ps.getD k Str.empty,b.getD k 0)))) (fun k:Nat=>W.tup [.str (ps.getD k Str.empty),.int (b.getD k 0)]) (List.range ps.length) _ (by rw [List.length_range]; omega) ?_]
  ·have e0:(List.range ps.length).map (fun k:Nat=>W.str (Str.join B1 (pw (ps.getD k Str.empty,b.getD k 0))))=((pls ps b).map (fun p=>Str.join B1 (pw p))).map W.str:=by
    unfold pls; rw [List.map_map,List.map_map]; rfl
   rw [e0]
   simp (disch:=first | with_reducible assumption | omega | (simp only [rp18]; omega)) only [List.getElem?_cons_zero,List.getElem?_cons_succ,List.set_cons_succ,List.set_cons_zero,rp19,rp16,rp17,rp18,mulB_L,mulB_R,mulB_b,rps1,rps2,rps3,vSlT_ap,Rst_I,decide_eq_true_eq,tyW,isN,Nat.reduceSub,Nat.reduceAdd,Nat.reduceEqDiff,Nat.reduceLeDiff,Nat.reduceLT,reduceIte,reduceCtorEq,Int.reduceLT,Int.reduceLE,Int.reduceEq,Int.reduceAdd,Int.reduceSub,Int.reduceMul,Int.reduceNeg,Int.reduceToNat,Int.reduceMod,Int.reducePow,Int.reduceDiv,Nat.reducePow,hz2]
   refine ok_end (po_fors (fun i ρ=>∃ x y z:Sl,ρ = [.par (.tup [tI b,.tup (ms.map mW)]),.par (lS ps),.par (lS ns),.own (((pls ps b).map (fun p=>Str.join B1 (pw p))++((mts ps ns ms 0 0).take i).map (fun m=>Str.join B1 (mws m))).map W.str),x,y,z]) ⟨_,_,_,by rw [List.take_zero,List.map_nil,List.append_nil]⟩ ?_ ?_)
   ·rintro i w ρ hu ⟨x,y,z,rfl⟩
    rw [List.getElem?_map] at hu
    obtain ⟨k,hk,rfl⟩:=Option.map_eq_some_iff.mp hu
    have hi:i<ns.length:=by
     have:=(List.getElem?_eq_some_iff.mp hk).1
     rw [List.length_range] at this; exact this
    have hk2:k=i:=by
     have:=(List.getElem?_eq_some_iff.mp hk).2
     rw [List.getElem_range] at this
     exact this.symm
    subst hk2
    have mi:=mv_at D (k:=k) (by omega)
    have hm:(mts ps ns ms 0 0)[k]?=some (ns.getD k Str.empty,tp (ms.getD k ([],[])).1 ps 0 ps.length,tp (ms.getD k ([],[])).2 ps 0 ps.length):=by
     unfold mts; rw [List.getElem?_map,List.getElem?_range (by omega)]; rfl
    have s1:=scount_ok mi.1 D.np d2
    have s2:=scount_ok mi.2 D.np d2
    have t1:=tp_told (t:=0) mi.1 D.dp d1 d2
    have t2:=tp_told (t:=0) mi.2 D.dp d1 d2
    have nk:=nm_wd (D.nn _ (getD_mem (ps:=ns) hi))
    have ll:(((pls ps b).map (fun p=>Str.join B1 (pw p))++((mts ps ns ms 0 0).take k).map (fun m=>Str.join B1 (mws m))).map W.str).length<1000:=by
     rw [List.length_map,List.length_append,List.length_map,List.length_map,List.length_take]; unfold pls; rw [List.length_map,List.length_range]; omega
    generalize tp (ms.getD k ([],[])).1 ps 0 ps.length=T at *
    generalize tp (ms.getD k ([],[])).2 ps 0 ps.length=P at *
    generalize ns.getD k Str.empty=n at *
    have lT:=t1.2.2
    have lP:=t2.2.2
    have l1:((T.map sc1).map W.str).length<=100:=by rw [List.length_map,List.length_map]; exact lT
    have l2:((P.map sc1).map W.str).length<=100:=by rw [List.length_map,List.length_map]; exact lP
    have scl:∀ {L:List Pr},(∀ p∈L,1<=p.1/\Cn p.1/\p.2∈ps)->∀ y∈L.map sc1,y.length<=100:=fun hL y hy=>by
     obtain ⟨p,hp,rfl⟩:=List.mem_map.mp hy
     unfold sc1
     rw [Str.length_append,Str.length_append,lB1]
     have:=(num_wd (hL p hp).2.1).1
     have:=(D.np _ (hL p hp).2.2).2.1
     omega
    have jo:=joi_ok (a:=B1) (ts:=sw n T P) (B:=100) (fun y hy=>by
     rcases List.mem_cons.mp hy with rfl | hy
     ·have:=wd_move.1; omega
     rcases List.mem_cons.mp hy with rfl | hy
     ·have:=nk.1; omega
     rcases List.mem_cons.mp hy with rfl | hy
     ·have:=wd_takes.1; omega
     rcases List.mem_append.mp hy with hy | hy
     ·exact scl t1.1 y hy
     rcases List.mem_cons.mp hy with rfl | hy
     ·have:=wd_puts.1; omega
     ·exact scl t2.1 y hy) (by
     have e:(sw n T P).length=4+T.length+P.length:=by
      show (T.map sc1++Str.ofString "puts" :: P.map sc1).length+1+1+1=_
      rw [List.length_append,List.length_cons,List.length_map,List.length_map]; omega
     rw [e,lB1]
     omega)
    rw [sw_text] at jo
    refine ⟨_,rfl,?_⟩
    have es:W.str (Str.ofString "move")::W.str n::W.str (Str.ofString "takes")::((T.map sc1).map W.str ++ [W.str (Str.ofString "puts")]++(P.map sc1).map W.str)=(sw n T P).map W.str:=by
     unfold sw
     rw [List.map_cons,List.map_cons,List.map_cons,List.map_append,List.map_cons,List.append_assoc]
     rfl
    simp (disch:=first | with_reducible assumption | omega | (simp only [rp18]; omega)) only [List.getElem?_cons_zero,List.getElem?_cons_succ,List.set_cons_succ,List.set_cons_zero,rp19,rp16,rp17,rp18,mulB_L,mulB_R,mulB_b,rps1,rps2,rps3,vSlT_ap,Rst_I,decide_eq_true_eq,tyW,isN,Nat.reduceSub,Nat.reduceAdd,Nat.reduceEqDiff,Nat.reduceLeDiff,Nat.reduceLT,reduceIte,reduceCtorEq,Int.reduceLT,Int.reduceLE,Int.reduceEq,Int.reduceAdd,Int.reduceSub,Int.reduceMul,Int.reduceNeg,Int.reduceToNat,Int.reduceMod,Int.reducePow,Int.reduceDiv,Nat.reducePow,s1,s2]
    rw [es,show joi1 (Str.ofString " ") (W.lst ((sw n T P).map W.str))=_ from jo]
    simp (disch:=first | with_reducible assumption | omega | (simp only [rp18]; omega)) only [List.getElem?_cons_zero,List.getElem?_cons_succ,List.set_cons_succ,List.set_cons_zero,rp19,rp16,rp17,rp18,mulB_L,mulB_R,mulB_b,rps1,rps2,rps3,vSlT_ap,Rst_I,decide_eq_true_eq,tyW,isN,Nat.reduceSub,Nat.reduceAdd,Nat.reduceEqDiff,Nat.reduceLeDiff,Nat.reduceLT,reduceIte,reduceCtorEq,Int.reduceLT,Int.reduceLE,Int.reduceEq,Int.reduceAdd,Int.reduceSub,Int.reduceMul,Int.reduceNeg,Int.reduceToNat,Int.reduceMod,Int.reducePow,Int.reduceDiv,Nat.reducePow]
    refine ⟨.par (.str n),.par (mW (ms.getD k ([],[]))),.own ((sw n T P).map W.str),?_⟩
    rw [take_one hm]
    simp only [List.map_append,List.append_assoc]
    rfl
   ·rintro ρ ⟨x,y,z,rfl⟩
    rw [List.length_map,List.length_range,d4,show (mts ps ns ms 0 0).take ms.length=mts ps ns ms 0 0 from List.take_of_length_le (by unfold mts; rw [List.length_map,List.length_range]; exact Nat.le_refl _)]
    simp (disch:=first | with_reducible assumption | omega | (simp only [rp18]; omega)) only [List.getElem?_cons_zero,List.getElem?_cons_succ,List.set_cons_succ,List.set_cons_zero,rp19,rp16,rp17,rp18,mulB_L,mulB_R,mulB_b,rps1,rps2,rps3,vSlT_ap,Rst_I,decide_eq_true_eq,tyW,isN,Nat.reduceSub,Nat.reduceAdd,Nat.reduceEqDiff,Nat.reduceLeDiff,Nat.reduceLT,reduceIte,reduceCtorEq,Int.reduceLT,Int.reduceLE,Int.reduceEq,Int.reduceAdd,Int.reduceSub,Int.reduceMul,Int.reduceNeg,Int.reduceToNat,Int.reduceMod,Int.reducePow,Int.reduceDiv,Nat.reducePow,text_join D hb]
  ·intro k hk
   have hk:=List.mem_range.mp hk
   have bk:=big_at hb k
   have lg:=big_log bk
   have bl:=big_len bk
   have nk:=(nm_wd (D.np _ (getD_mem hk))).1
   refine ⟨_,rfl,?_⟩
   simp (disch:=first | with_reducible assumption | omega | (simp only [rp18]; omega)) only [List.getElem?_cons_zero,List.getElem?_cons_succ,List.set_cons_succ,List.set_cons_zero,rp19,rp16,rp17,rp18,mulB_L,mulB_R,mulB_b,rps1,rps2,rps3,vSlT_ap,Rst_I,decide_eq_true_eq,tyW,isN,Nat.reduceSub,Nat.reduceAdd,Nat.reduceEqDiff,Nat.reduceLeDiff,Nat.reduceLT,reduceIte,reduceCtorEq,Int.reduceLT,Int.reduceLE,Int.reduceEq,Int.reduceAdd,Int.reduceSub,Int.reduceMul,Int.reduceNeg,Int.reduceToNat,Int.reduceMod,Int.reducePow,Int.reduceDiv,Nat.reducePow]
   rw [fp4 (by rw [lPl,lB1]; omega) lg,pl_text]
 obtain ⟨v,e,rfl⟩:=fin
 exact e
--CUT
theorem memD {ns:List Int} {P:Int->Prop} (h:∀ x∈ns,P x) {i:Nat} (hi:i<ns.length):P (ns.getD i 0):=mem_getD h hi
theorem sq_le {k:Int} (h0:0<=k) (h1:k<=1000):0<=k*k/\k*k<=1000000:=⟨Int.mul_nonneg h0 h0,Int.le_trans (Int.mul_le_mul h1 h1 h0 (by omega)) (by omega)⟩
theorem small {z:Int} (h:-18446744073709551616<z/\z<18446744073709551616):Builtin.Int.intBits z<=64:=intBits_le_64 (by omega) (by omega)
theorem cell_ok {ns:List Int} (hb:∀ x∈ns,Builtin.Int.intBits x<=1048576) {k:Int} (h0:0<=k) (h1:k<=1000):∃ z:Int,f__law_cell [.scr (ns.map W.int),.int k]=.ok (.int z):=by
 have hk2:=sq_le h0 h1
 by_cases h:k<(ns.length:Int)
 ·simp (disch:=first | with_reducible assumption | omega | (simp only [rp18]; omega)) only [List.getElem?_cons_zero,List.getElem?_cons_succ,List.set_cons_succ,List.set_cons_zero,rp19,rp16,rp17,rp18,mulB_L,mulB_R,mulB_b,rps1,rps2,rps3,vSlT_ap,Rst_I,decide_eq_true_eq,tyW,isN,Nat.reduceSub,Nat.reduceAdd,Nat.reduceEqDiff,Nat.reduceLeDiff,Nat.reduceLT,reduceIte,reduceCtorEq,Int.reduceLT,Int.reduceLE,Int.reduceEq,Int.reduceAdd,Int.reduceSub,Int.reduceMul,Int.reduceNeg,Int.reduceToNat,Int.reduceMod,Int.reducePow,Int.reduceDiv,Nat.reducePow,runB_1,runB_2,runB_3,runB_4,runB_5,m__law_cell,decide_eq_true h]
  exact ⟨_,rfl⟩
 ·by_cases hl:0<(ns.length:Int)
  ·have m0:0<=k*29%(ns.length:Int):=Int.emod_nonneg _ (by omega)
   have m1:k*29%(ns.length:Int)<(ns.length:Int):=Int.emod_lt_of_pos _ hl
   have hz:=memD (P:=fun x=>Builtin.Int.intBits x<=1048576) hb (i:=(k*29%(ns.length:Int)).toNat) (by omega)
   simp (disch:=first | with_reducible assumption | omega | (simp only [rp18]; omega)) only [List.getElem?_cons_zero,List.getElem?_cons_succ,List.set_cons_succ,List.set_cons_zero,rp19,rp16,rp17,rp18,mulB_L,mulB_R,mulB_b,rps1,rps2,rps3,vSlT_ap,Rst_I,decide_eq_true_eq,tyW,isN,Nat.reduceSub,Nat.reduceAdd,Nat.reduceEqDiff,Nat.reduceLeDiff,Nat.reduceLT,reduceIte,reduceCtorEq,Int.reduceLT,Int.reduceLE,Int.reduceEq,Int.reduceAdd,Int.reduceSub,Int.reduceMul,Int.reduceNeg,Int.reduceToNat,Int.reduceMod,Int.reducePow,Int.reduceDiv,Nat.reducePow,runB_1,runB_2,runB_3,runB_4,runB_5,m__law_cell,decide_eq_false h,decide_eq_true hl]
   generalize ns.getD (k*29%(ns.length:Int)).toNat 0=z at *
   have b1:=intBits_mul_le hz (small (z:=48271) (by omega))
   have b2:Builtin.Int.intBits (k*k*1009)<=64:=small (by omega)
   have b3:=intBits_add_le b1 b2
   have b4:=intBits_add_le b3 (small (z:=7) (by omega))
   have b5:Builtin.Int.intBits (z*48271+k*k*1009+7)+Builtin.Int.intBits (z*48271+k*k*1009+7)<=134217728:=by omega
   simp (disch:=first | with_reducible assumption | omega | (simp only [rp18]; omega)) only [List.getElem?_cons_zero,List.getElem?_cons_succ,List.set_cons_succ,List.set_cons_zero,rp19,rp16,rp17,rp18,mulB_L,mulB_R,mulB_b,rps1,rps2,rps3,vSlT_ap,Rst_I,decide_eq_true_eq,tyW,isN,Nat.reduceSub,Nat.reduceAdd,Nat.reduceEqDiff,Nat.reduceLeDiff,Nat.reduceLT,reduceIte,reduceCtorEq,Int.reduceLT,Int.reduceLE,Int.reduceEq,Int.reduceAdd,Int.reduceSub,Int.reduceMul,Int.reduceNeg,Int.reduceToNat,Int.reduceMod,Int.reducePow,Int.reduceDiv,Nat.reducePow]
   exact ⟨_,rfl⟩
  ·simp (disch:=first | with_reducible assumption | omega | (simp only [rp18]; omega)) only [List.getElem?_cons_zero,List.getElem?_cons_succ,List.set_cons_succ,List.set_cons_zero,rp19,rp16,rp17,rp18,mulB_L,mulB_R,mulB_b,rps1,rps2,rps3,vSlT_ap,Rst_I,decide_eq_true_eq,tyW,isN,Nat.reduceSub,Nat.reduceAdd,Nat.reduceEqDiff,Nat.reduceLeDiff,Nat.reduceLT,reduceIte,reduceCtorEq,Int.reduceLT,Int.reduceLE,Int.reduceEq,Int.reduceAdd,Int.reduceSub,Int.reduceMul,Int.reduceNeg,Int.reduceToNat,Int.reduceMod,Int.reducePow,Int.reduceDiv,Nat.reducePow,runB_1,runB_2,runB_3,runB_4,runB_5,m__law_cell,decide_eq_false h,decide_eq_false hl]
   exact ⟨_,rfl⟩
theorem p9:(10:Int)^(9:Int).toNat=1000000000:=by decide
theorem p15:(10:Int)^(15:Int).toNat=1000000000000000:=by decide
theorem p18:(10:Int)^(18:Int).toNat=1000000000000000000:=by decide
theorem p40:(10:Int)^(40:Int).toNat=10000000000000000000000000000000000000000:=by decide
theorem lcount_ok (z:Int):∃ y:Int,f__law_count [.int z]=.ok (.int y)/\Cn y:=by
 have m:0<=z/21*48271%1000000001/\z/21*48271%1000000001<1000000001:=by omega
 by_cases h:z%3=0
 ·simp (disch:=first | with_reducible assumption | omega | (simp only [rp18]; omega)) only [List.getElem?_cons_zero,List.getElem?_cons_succ,List.set_cons_succ,List.set_cons_zero,rp19,rp16,rp17,rp18,mulB_L,mulB_R,mulB_b,rps1,rps2,rps3,vSlT_ap,Rst_I,decide_eq_true_eq,tyW,isN,Nat.reduceSub,Nat.reduceAdd,Nat.reduceEqDiff,Nat.reduceLeDiff,Nat.reduceLT,reduceIte,reduceCtorEq,Int.reduceLT,Int.reduceLE,Int.reduceEq,Int.reduceAdd,Int.reduceSub,Int.reduceMul,Int.reduceNeg,Int.reduceToNat,Int.reduceMod,Int.reducePow,Int.reduceDiv,Nat.reducePow,runB_1,runB_2,runB_3,runB_4,runB_5,m__law_count,decide_eq_true h]
  exact ⟨_,rfl,by decide,by decide⟩
 ·by_cases h2:z/3%7=4
  ·simp (disch:=first | with_reducible assumption | omega | (simp only [rp18]; omega)) only [List.getElem?_cons_zero,List.getElem?_cons_succ,List.set_cons_succ,List.set_cons_zero,rp19,rp16,rp17,rp18,mulB_L,mulB_R,mulB_b,rps1,rps2,rps3,vSlT_ap,Rst_I,decide_eq_true_eq,tyW,isN,Nat.reduceSub,Nat.reduceAdd,Nat.reduceEqDiff,Nat.reduceLeDiff,Nat.reduceLT,reduceIte,reduceCtorEq,Int.reduceLT,Int.reduceLE,Int.reduceEq,Int.reduceAdd,Int.reduceSub,Int.reduceMul,Int.reduceNeg,Int.reduceToNat,Int.reduceMod,Int.reducePow,Int.reduceDiv,Nat.reducePow,runB_1,runB_2,runB_3,runB_4,runB_5,m__law_count,decide_eq_false h,decide_eq_true h2,p9]
   exact ⟨_,rfl,by omega,by omega⟩
  ·simp (disch:=first | with_reducible assumption | omega | (simp only [rp18]; omega)) only [List.getElem?_cons_zero,List.getElem?_cons_succ,List.set_cons_succ,List.set_cons_zero,rp19,rp16,rp17,rp18,mulB_L,mulB_R,mulB_b,rps1,rps2,rps3,vSlT_ap,Rst_I,decide_eq_true_eq,tyW,isN,Nat.reduceSub,Nat.reduceAdd,Nat.reduceEqDiff,Nat.reduceLeDiff,Nat.reduceLT,reduceIte,reduceCtorEq,Int.reduceLT,Int.reduceLE,Int.reduceEq,Int.reduceAdd,Int.reduceSub,Int.reduceMul,Int.reduceNeg,Int.reduceToNat,Int.reduceMod,Int.reducePow,Int.reduceDiv,Nat.reducePow,runB_1,runB_2,runB_3,runB_4,runB_5,m__law_count,decide_eq_false h,decide_eq_false h2]
   exact ⟨_,rfl,by omega,by omega⟩
def Lt (w:Str):Prop:=∀ c∈cl w,97<=c/\c<=122
theorem ixS_ok {x:Str} {L:List Nat} (hx:cl x=L) {j:Int} {c:Nat} (h0:0<=j) (h:L[j.toNat]?=some c) (hl:x.length<=100000):fIxS (.str x) (.int j)=.ok (.str ⟨#[c]⟩):=by
 have e:L2.atI x.cps.toList j=some c:=by
  have hlt:=(List.getElem?_eq_some_iff.mp h).1
  show L2.atI (cl x) j=_
  rw [hx]
  unfold L2.atI
  rw [ixN_int h0 (by omega)]
  exact h
 show (if x.length<=100000 then _ else _)=_
 rw [if_pos hl,e]
theorem ix_let {j:Int} (h0:0<=j) (h:j<26):fIxS (.str (Str.ofString "abcdefghijklmnopqrstuvwxyz")) (.int j)=.ok (.str ⟨#[j.toNat+97]⟩):=by
 refine ixS_ok sLet h0 ?_ (by decide +kernel)
 rw [List.getElem?_map,List.getElem?_range (by omega)]; rfl
theorem cl_one (c:Nat):cl (⟨#[c]⟩:Str) = [c]:=rfl
theorem letters_ok {z:Int} {k:Nat} (hk:k<=8):∃ w,f__law_letters [.int z,.int (k:Nat)]=.ok (.str w)/\w.length=k/\Lt w:=by
 have fin:Ok (f__law_letters [.int z,.int (k:Nat)]) fun v=>∃ w,v=.str w/\w.length=k/\Lt w:=by
  simp (disch:=first | with_reducible assumption | omega | (simp only [rp18]; omega)) only [List.getElem?_cons_zero,List.getElem?_cons_succ,List.set_cons_succ,List.set_cons_zero,rp19,rp16,rp17,rp18,mulB_L,mulB_R,mulB_b,rps1,rps2,rps3,vSlT_ap,Rst_I,decide_eq_true_eq,tyW,isN,Nat.reduceSub,Nat.reduceAdd,Nat.reduceEqDiff,Nat.reduceLeDiff,Nat.reduceLT,reduceIte,reduceCtorEq,Int.reduceLT,Int.reduceLE,Int.reduceEq,Int.reduceAdd,Int.reduceSub,Int.reduceMul,Int.reduceNeg,Int.reduceToNat,Int.reduceMod,Int.reducePow,Int.reduceDiv,Nat.reducePow,runB_1,runB_2,runB_3,runB_4,runB_5,m__law_letters]
  refine ok_end (po_fors (fun i ρ=>∃ (a b:Sl) (y:Int) (w:Str),ρ = [a,.par (.int (k:Nat)),.val (.str w),b]/\(a=.par (.int y)\/a=.val (.int y))/\w.length=i/\Lt w) ⟨_,_,z,Str.empty,by rw [show Str.ofString "" = Str.empty by decide +kernel],.inl rfl,rfl,fun c hc=>by cases hc⟩ ?_ ?_)
  ·rintro i u ρ hu ⟨a,b,y,w,rfl,ha,hw,hL⟩
   obtain ⟨hi,rfl⟩:=rng_at hu
   have m0:0<=y%26:=by omega
   have m1:y%26<26:=by omega
   have ix:=ix_let m0 m1
   have f1:w.length+(⟨#[(y%26).toNat+97]⟩:Str).length<=100000:=by show w.length+1<=100000; omega
   have st:(w++⟨#[(y%26).toNat+97]⟩:Str).length=i+1/\Lt (w++⟨#[(y%26).toNat+97]⟩):=by
    refine ⟨by rw [Str.length_append,hw]; rfl,fun c hc=>?_⟩
    rw [cl_app] at hc
    rcases List.mem_append.mp hc with hc | hc
    ·exact hL c hc
    ·rw [cl_one] at hc
     have:=List.mem_singleton.mp hc
     omega
   refine ⟨_,rfl,?_⟩
   rcases ha with rfl | rfl
   ·simp (disch:=first | with_reducible assumption | omega | (simp only [rp18]; omega)) only [List.getElem?_cons_zero,List.getElem?_cons_succ,List.set_cons_succ,List.set_cons_zero,rp19,rp16,rp17,rp18,mulB_L,mulB_R,mulB_b,rps1,rps2,rps3,vSlT_ap,Rst_I,decide_eq_true_eq,tyW,isN,Nat.reduceSub,Nat.reduceAdd,Nat.reduceEqDiff,Nat.reduceLeDiff,Nat.reduceLT,reduceIte,reduceCtorEq,Int.reduceLT,Int.reduceLE,Int.reduceEq,Int.reduceAdd,Int.reduceSub,Int.reduceMul,Int.reduceNeg,Int.reduceToNat,Int.reduceMod,Int.reducePow,Int.reduceDiv,Nat.reducePow,ix]
    exact ⟨_,_,_,_,rfl,.inr rfl,st.1,st.2⟩
   ·simp (disch:=first | with_reducible assumption | omega | (simp only [rp18]; omega)) only [List.getElem?_cons_zero,List.getElem?_cons_succ,List.set_cons_succ,List.set_cons_zero,rp19,rp16,rp17,rp18,mulB_L,mulB_R,mulB_b,rps1,rps2,rps3,vSlT_ap,Rst_I,decide_eq_true_eq,tyW,isN,Nat.reduceSub,Nat.reduceAdd,Nat.reduceEqDiff,Nat.reduceLeDiff,Nat.reduceLT,reduceIte,reduceCtorEq,Int.reduceLT,Int.reduceLE,Int.reduceEq,Int.reduceAdd,Int.reduceSub,Int.reduceMul,Int.reduceNeg,Int.reduceToNat,Int.reduceMod,Int.reducePow,Int.reduceDiv,Nat.reducePow,ix]
    exact ⟨_,_,_,_,rfl,.inr rfl,st.1,st.2⟩
  ·rintro ρ ⟨a,b,y,w,rfl,ha,hw,hL⟩
   rw [List.length_map,List.length_range] at hw
   simp (disch:=first | with_reducible assumption | omega | (simp only [rp18]; omega)) only [List.getElem?_cons_zero,List.getElem?_cons_succ,List.set_cons_succ,List.set_cons_zero,rp19,rp16,rp17,rp18,mulB_L,mulB_R,mulB_b,rps1,rps2,rps3,vSlT_ap,Rst_I,decide_eq_true_eq,tyW,isN,Nat.reduceSub,Nat.reduceAdd,Nat.reduceEqDiff,Nat.reduceLeDiff,Nat.reduceLT,reduceIte,reduceCtorEq,Int.reduceLT,Int.reduceLE,Int.reduceEq,Int.reduceAdd,Int.reduceSub,Int.reduceMul,Int.reduceNeg,Int.reduceToNat,Int.reduceMod,Int.reducePow,Int.reduceDiv,Nat.reducePow]
   exact ⟨w,rfl,by omega,hL⟩
 obtain ⟨v,e,w,rfl,h⟩:=fin
 exact ⟨w,e,h⟩
def fix:List Str:=[Str.ofString "takes",Str.ofString "puts",Str.ofString "place",Str.ofString "move",Str.ofString "a",Str.ofString "aa",Str.ofString "z",Str.ofString "zzzzzzzz"]
theorem fix_nm:∀ w∈fix,Nm w:=by unfold fix Nm; decide +kernel
theorem fix_nd:fix.Nodup:=by decide +kernel
theorem lname_ok (z:Int):∃ w,f__law_name [.int z]=.ok (.str w)/\Nm w/\(z%6=1->w=fix.getD (z/6%8).toNat Str.empty):=by
 have m0:0<=z/6%8:=by omega
 have m1:z/6%8<8:=by omega
 by_cases h:z%6=1
 ·have e:=at_d (ts:=fix) (i:=z/6%8) ⟨m0,m1⟩
  have e2:L2.atI [W.str (Str.ofString "takes"),W.str (Str.ofString "puts"),W.str (Str.ofString "place"),W.str (Str.ofString "move"),W.str (Str.ofString "a"),W.str (Str.ofString "aa"),W.str (Str.ofString "z"),W.str (Str.ofString "zzzzzzzz")] (z/6%8)=some (.str (fix.getD (z/6%8).toNat Str.empty)):=e
  simp (disch:=first | with_reducible assumption | omega | (simp only [rp18]; omega)) only [List.getElem?_cons_zero,List.getElem?_cons_succ,List.set_cons_succ,List.set_cons_zero,rp19,rp16,rp17,rp18,mulB_L,mulB_R,mulB_b,rps1,rps2,rps3,vSlT_ap,Rst_I,decide_eq_true_eq,tyW,isN,Nat.reduceSub,Nat.reduceAdd,Nat.reduceEqDiff,Nat.reduceLeDiff,Nat.reduceLT,reduceIte,reduceCtorEq,Int.reduceLT,Int.reduceLE,Int.reduceEq,Int.reduceAdd,Int.reduceSub,Int.reduceMul,Int.reduceNeg,Int.reduceToNat,Int.reduceMod,Int.reducePow,Int.reduceDiv,Nat.reducePow,runB_1,runB_2,runB_3,runB_4,runB_5,m__law_name,decide_eq_true h,e2]
  exact ⟨_,rfl,fix_nm _ (getD_mem (by show _<8; omega)),fun _=>rfl⟩
 ·obtain ⟨w,e,hl,hL⟩:=letters_ok (z:=z/48*69621%208827064573) (k:=(1+z/6%8).toNat) (by omega)
  rw [show (((1+z/6%8).toNat:Nat):Int)=1+z/6%8 by omega] at e
  simp (disch:=first | with_reducible assumption | omega | (simp only [rp18]; omega)) only [List.getElem?_cons_zero,List.getElem?_cons_succ,List.set_cons_succ,List.set_cons_zero,rp19,rp16,rp17,rp18,mulB_L,mulB_R,mulB_b,rps1,rps2,rps3,vSlT_ap,Rst_I,decide_eq_true_eq,tyW,isN,Nat.reduceSub,Nat.reduceAdd,Nat.reduceEqDiff,Nat.reduceLeDiff,Nat.reduceLT,reduceIte,reduceCtorEq,Int.reduceLT,Int.reduceLE,Int.reduceEq,Int.reduceAdd,Int.reduceSub,Int.reduceMul,Int.reduceNeg,Int.reduceToNat,Int.reduceMod,Int.reducePow,Int.reduceDiv,Nat.reducePow,runB_1,runB_2,runB_3,runB_4,runB_5,m__law_name,decide_eq_false h,e]
  exact ⟨w,rfl,⟨by omega,by omega,hL⟩,fun c=>absurd c h⟩
theorem sub_len:∀ {l m:List Str},l.Nodup->(∀ x∈l,x∈m)->l.length<=m.length
 | [],_,_,_=>Nat.zero_le _
 | a::l,m,hd,h=>by
  have ha:=h a (List.mem_cons_self ..)
  have hd2:=List.nodup_cons.mp hd
  have ih:=sub_len (l:=l) (m:=m.erase a) hd2.2 fun x hx=>(List.mem_erase_of_ne (fun e=>hd2.1 (by rw [<- e]; exact hx))).mpr (h x (List.mem_cons_of_mem _ hx))
  have e:=List.length_erase_of_mem ha
  have:=List.length_pos_of_mem ha
  rw [List.length_cons]
  omega
theorem some_fix {ws:List Str} (h:ws.length<=7):∃ j:Nat,j<8/\fix.getD j Str.empty∉ws:=by
 refine Classical.byContradiction fun hn=>?_
 have:=sub_len fix_nd (m:=ws) fun x hx=>Classical.byContradiction fun hx2=>by
  obtain ⟨j,hj,e⟩:=List.mem_iff_getElem.mp hx
  refine hn ⟨j,hj,?_⟩
  rw [List.getD_eq_getElem?_getD,List.getElem?_eq_getElem hj]
  show fix[j]∉ws
  rw [e]; exact hx2
 have e:fix.length=8:=rfl
 omega
theorem nm_shp {n:Nat} {w:Str} (h:Nm w):shp n (.str w)=true:=shp_str fun c hc=>by have:=h.2.2 c hc; omega
theorem shps_nm {n:Nat}:∀ {ws:List Str},(∀ w∈ws,Nm w)->shps n (ws.map W.str)=true
 | [],_=>rfl
 | w::r,h=>by
  show (shp n (.str w)&&shps n (r.map W.str))=true
  rw [nm_shp (h w (List.mem_cons_self ..)),shps_nm fun x hx=>h x (List.mem_cons_of_mem _ hx)]; rfl
theorem any_in (w:Str):∀ ws:List Str,((pds (ws.map W.str)).any fun y=>PyData.eqv y (pd (.str w)))=decide (w∈ws)
 | []=>by simp [pds]
 | q::r=>by
  have g:=any_in w r
  have e:PyData.eqv (pd (.str q)) (pd (.str w))=decide (q=w):=by
   show (q == w)=decide (q=w)
   by_cases h:q=w
   ·subst h; simp
   ·rw [decide_eq_false h]; exact beq_eq_false_iff_ne.mpr h
  simp only [List.map_cons,pds,List.any_cons,g,e]
  by_cases h:q=w
  ·subst h; simp
  ·have h':¬ w=q:=fun e=>h e.symm
   simp [h,h']
theorem fIn_T {neg:Bool} {w:Str} {ws:List Str} (h:Nm w) (hs:∀ x∈ws,Nm x):fIn neg (.str w) (lS ws)=.ok (.bl (if neg then !decide (w∈ws) else decide (w∈ws))):=by
 have e:inW (.str w) (lS ws)=some (decide (w∈ws)):=congrArg some (any_in w ws)
 unfold fIn
 rw [nm_shp h,show shp 8 (lS ws)=true from shps_nm (n:=7) hs,Bool.and_self,if_pos rfl,e]
def Nms (n:Nat) (ws:List Str):Prop:=ws.length=n/\(∀ w∈ws,Nm w)/\ws.Nodup
theorem Nms.snoc {n:Nat} {ws:List Str} {w:Str} (h:Nms n ws) (hw:Nm w) (hn:w∉ws):Nms (n+1) (ws ++ [w]):=by
 refine ⟨by rw [List.length_append,h.1]; rfl,fun x hx=>?_,List.nodup_append.mpr ⟨h.2.2,by simp,fun a ha b hb e=>?_⟩⟩
 ·rcases List.mem_append.mp hx with hx | hx
  ·exact h.2.1 x hx
  ·rw [List.mem_singleton.mp hx]; exact hw
 ·rw [List.mem_singleton.mp hb] at e
  exact hn (by rw [<- e]; exact ha)
theorem t48 {z j Z:Int} (h0:0<=j) (h8:j<8) (hZ:z+(6*j+1-z)%48=Z):Z%6=1/\Z/6%8=j:=by
 obtain ⟨k,hk⟩:∃ k,Z=6*j+1+48*k:=⟨-((6*j+1-z)/48),by omega⟩
 clear hZ
 subst hk
 have e:(6*j+1+48*k)/6=j+8*k:=by omega
 refine ⟨by omega,?_⟩
 rw [e]
 omega
theorem lnames_ok {ns:List Int} (hb:∀ x∈ns,Builtin.Int.intBits x<=1048576) {a:Int} {n:Nat} (h0:0<=a) (h1:a<=100) (hn:n<=8):∃ ws,f__law_names [.scr (ns.map W.int),.int a,.int (n:Nat)]=.ok (lS ws)/\Nms n ws:=by
 have fin:Ok (f__law_names [.scr (ns.map W.int),.int a,.int (n:Nat)]) fun v=>∃ ws,v=lS ws/\Nms n ws:=by
  simp (disch:=first | with_reducible assumption | omega | (simp only [rp18]; omega)) only [List.getElem?_cons_zero,List.getElem?_cons_succ,List.set_cons_succ,List.set_cons_zero,rp19,rp16,rp17,rp18,mulB_L,mulB_R,mulB_b,rps1,rps2,rps3,vSlT_ap,Rst_I,decide_eq_true_eq,tyW,isN,Nat.reduceSub,Nat.reduceAdd,Nat.reduceEqDiff,Nat.reduceLeDiff,Nat.reduceLT,reduceIte,reduceCtorEq,Int.reduceLT,Int.reduceLE,Int.reduceEq,Int.reduceAdd,Int.reduceSub,Int.reduceMul,Int.reduceNeg,Int.reduceToNat,Int.reduceMod,Int.reducePow,Int.reduceDiv,Nat.reducePow,runB_1,runB_2,runB_3,runB_4,runB_5,m__law_names]
  refine ok_end (po_fors (fun i ρ=>∃ (ws:List Str) (x y:Sl),ρ = [.par (.scr (ns.map W.int)),.par (.int a),.par (.int (n:Nat)),.own (ws.map W.str),x,y]/\Nms i ws) ⟨[],_,_,rfl,rfl,by simp,by simp⟩ ?_ ?_)
  ·rintro i u ρ hu ⟨ws,x,y,rfl,hw⟩
   obtain ⟨hi,rfl⟩:=rng_at hu
   obtain ⟨z0,e0⟩:=cell_ok hb (k:=a+(i:Int)) (by omega) (by omega)
   refine ⟨_,rfl,?_⟩
   simp (disch:=first | with_reducible assumption | omega | (simp only [rp18]; omega)) only [List.getElem?_cons_zero,List.getElem?_cons_succ,List.set_cons_succ,List.set_cons_zero,rp19,rp16,rp17,rp18,mulB_L,mulB_R,mulB_b,rps1,rps2,rps3,vSlT_ap,Rst_I,decide_eq_true_eq,tyW,isN,Nat.reduceSub,Nat.reduceAdd,Nat.reduceEqDiff,Nat.reduceLeDiff,Nat.reduceLT,reduceIte,reduceCtorEq,Int.reduceLT,Int.reduceLE,Int.reduceEq,Int.reduceAdd,Int.reduceSub,Int.reduceMul,Int.reduceNeg,Int.reduceToNat,Int.reduceMod,Int.reducePow,Int.reduceDiv,Nat.reducePow,e0,p18]
   generalize z0%1000000000000000000=z
   obtain ⟨j,hj,hj2⟩:=some_fix (ws:=ws) (by have:=hw.1; omega)
   have ll:(ws.map W.str).length<1000:=by rw [List.length_map,hw.1]; omega
   refine po_seq (po_while (fun m ρ=>ρ = [.par (.scr (ns.map W.int)),.par (.int a),.par (.int (n:Nat)),.own (ws.map W.str),.par (.int (i:Nat)),.val (.int (z+(6*(j:Int)+1-z)%48-(m:Int)))]) ?_ ((6*(j:Int)+1-z)%48).toNat _ ?_)
   ·rintro m ρ rfl
    generalize hZ:z+(6*(j:Int)+1-z)%48-(m:Int)=Z
    obtain ⟨w,e,hN,hf⟩:=lname_ok Z
    have fi:=fIn_T (neg:=false) hN hw.2.1
    by_cases hin:w∈ws
    ·refine ⟨true,?_,?_⟩
     ·simp (disch:=first | with_reducible assumption | omega | (simp only [rp18]; omega)) only [List.getElem?_cons_zero,List.getElem?_cons_succ,List.set_cons_succ,List.set_cons_zero,rp19,rp16,rp17,rp18,mulB_L,mulB_R,mulB_b,rps1,rps2,rps3,vSlT_ap,Rst_I,decide_eq_true_eq,tyW,isN,Nat.reduceSub,Nat.reduceAdd,Nat.reduceEqDiff,Nat.reduceLeDiff,Nat.reduceLT,reduceIte,reduceCtorEq,Int.reduceLT,Int.reduceLE,Int.reduceEq,Int.reduceAdd,Int.reduceSub,Int.reduceMul,Int.reduceNeg,Int.reduceToNat,Int.reduceMod,Int.reducePow,Int.reduceDiv,Nat.reducePow,e,fi,decide_eq_true hin]
     ·rw [if_pos rfl]
      simp (disch:=first | with_reducible assumption | omega | (simp only [rp18]; omega)) only [List.getElem?_cons_zero,List.getElem?_cons_succ,List.set_cons_succ,List.set_cons_zero,rp19,rp16,rp17,rp18,mulB_L,mulB_R,mulB_b,rps1,rps2,rps3,vSlT_ap,Rst_I,decide_eq_true_eq,tyW,isN,Nat.reduceSub,Nat.reduceAdd,Nat.reduceEqDiff,Nat.reduceLeDiff,Nat.reduceLT,reduceIte,reduceCtorEq,Int.reduceLT,Int.reduceLE,Int.reduceEq,Int.reduceAdd,Int.reduceSub,Int.reduceMul,Int.reduceNeg,Int.reduceToNat,Int.reduceMod,Int.reducePow,Int.reduceDiv,Nat.reducePow]
      cases m with
      | zero=>
       exfalso
       obtain ⟨e6,e8⟩:=t48 (z:=z) (j:=(j:Int)) (Z:=Z) (by omega) (by omega) (by rw [<- hZ]; simp)
       rw [hf e6,e8] at hin
       exact hj2 (by simpa using hin)
      | succ m=>
       refine ⟨m,by omega,?_⟩
       rw [show Z+1=z+(6*(j:Int)+1-z)%48-(m:Int) by omega]
    ·refine ⟨false,?_,?_⟩
     ·simp (disch:=first | with_reducible assumption | omega | (simp only [rp18]; omega)) only [List.getElem?_cons_zero,List.getElem?_cons_succ,List.set_cons_succ,List.set_cons_zero,rp19,rp16,rp17,rp18,mulB_L,mulB_R,mulB_b,rps1,rps2,rps3,vSlT_ap,Rst_I,decide_eq_true_eq,tyW,isN,Nat.reduceSub,Nat.reduceAdd,Nat.reduceEqDiff,Nat.reduceLeDiff,Nat.reduceLT,reduceIte,reduceCtorEq,Int.reduceLT,Int.reduceLE,Int.reduceEq,Int.reduceAdd,Int.reduceSub,Int.reduceMul,Int.reduceNeg,Int.reduceToNat,Int.reduceMod,Int.reducePow,Int.reduceDiv,Nat.reducePow,e,fi,decide_eq_false hin]
     ·rw [if_neg (by decide)]
      simp (disch:=first | with_reducible assumption | omega | (simp only [rp18]; omega)) only [List.getElem?_cons_zero,List.getElem?_cons_succ,List.set_cons_succ,List.set_cons_zero,rp19,rp16,rp17,rp18,mulB_L,mulB_R,mulB_b,rps1,rps2,rps3,vSlT_ap,Rst_I,decide_eq_true_eq,tyW,isN,Nat.reduceSub,Nat.reduceAdd,Nat.reduceEqDiff,Nat.reduceLeDiff,Nat.reduceLT,reduceIte,reduceCtorEq,Int.reduceLT,Int.reduceLE,Int.reduceEq,Int.reduceAdd,Int.reduceSub,Int.reduceMul,Int.reduceNeg,Int.reduceToNat,Int.reduceMod,Int.reducePow,Int.reduceDiv,Nat.reducePow,e]
      exact ⟨ws ++ [w],_,_,by rw [List.map_append]; rfl,hw.snoc hN hin⟩
   ·rw [show z+(6*(j:Int)+1-z)%48-((((6*(j:Int)+1-z)%48).toNat:Nat):Int)=z by omega]
  ·rintro ρ ⟨ws,x,y,rfl,hw⟩
   rw [List.length_map,List.length_range] at hw
   simp (disch:=first | with_reducible assumption | omega | (simp only [rp18]; omega)) only [List.getElem?_cons_zero,List.getElem?_cons_succ,List.set_cons_succ,List.set_cons_zero,rp19,rp16,rp17,rp18,mulB_L,mulB_R,mulB_b,rps1,rps2,rps3,vSlT_ap,Rst_I,decide_eq_true_eq,tyW,isN,Nat.reduceSub,Nat.reduceAdd,Nat.reduceEqDiff,Nat.reduceLeDiff,Nat.reduceLT,reduceIte,reduceCtorEq,Int.reduceLT,Int.reduceLE,Int.reduceEq,Int.reduceAdd,Int.reduceSub,Int.reduceMul,Int.reduceNeg,Int.reduceToNat,Int.reduceMod,Int.reducePow,Int.reduceDiv,Nat.reducePow]
   exact ⟨ws,rfl,hw⟩
 obtain ⟨v,e,ws,rfl,h⟩:=fin
 exact ⟨ws,e,h⟩
--CUT
abbrev qwS:Str:=Str.ofString "qwertyuiopasdfghjklzxcvbnm"
theorem qw_len:(cl qwS).length=26:=by decide +kernel
theorem qw_lt:∀ c∈cl qwS,97<=c/\c<=122:=by decide +kernel
theorem qw_nd:(cl qwS).Nodup:=by decide +kernel
theorem sl_to {x:Str} {p:Nat} (h:p<=x.length):cl (Txt.slice x none (some (p:Int)))=(cl x).take p:=by
 have hl:x.cps.toList.length=x.length:=cl_len x
 show cl (StrLaws.sliceText x none (some (p:Int)))=_
 rw [StrLaws.sliceText_to ⟨by omega,by omega⟩]
 show ((x.cps.toList.drop 0).take ((p:Int)-0).toNat).toArray.toList=_
 rw [List.drop_zero,show ((p:Int)-0).toNat=p by omega]
theorem sl_from {x:Str} {p:Nat} (h:p<=x.length):cl (Txt.slice x (some (p:Int)) none)=(cl x).drop p:=by
 have hl:x.cps.toList.length=x.length:=cl_len x
 show cl (StrLaws.sliceText x (some (p:Int)) none)=_
 rw [StrLaws.sliceText_from ⟨by omega,by omega⟩]
 show ((x.cps.toList.drop (p:Int).toNat).take ((x.cps.toList.length:Int)-p).toNat).toArray.toList=_
 rw [Int.toNat_natCast]
 exact List.take_of_length_le (by rw [List.length_drop]; omega)
theorem alike_ok {z:Int} {n:Nat} (hn:n<=8):∃ ws,f__law_alike_names [.int z,.int (n:Nat)]=.ok (lS ws)/\Nms n ws:=by
 have fin:Ok (f__law_alike_names [.int z,.int (n:Nat)]) fun v=>∃ ws,v=lS ws/\Nms n ws:=by
  obtain ⟨base,eb,hl,hL⟩:=letters_ok (z:=z/8%1000000000000000) (k:=(1+z%8).toNat) (by omega)
  rw [show (((1+z%8).toNat:Nat):Int)=1+z%8 by omega] at eb
  have s0:0<1+z%8:=by omega
  have q0:=Int.emod_nonneg (z/64) (show 1+z%8≠0 by omega)
  have q1:=Int.emod_lt_of_pos (z/64) s0
  obtain ⟨p,hp⟩:∃ p:Nat,z/64%(1+z%8)=(p:Int):=⟨(z/64%(1+z%8)).toNat,by omega⟩
  rw [hp] at q1
  have hpl:p<base.length:=by omega
  have ha:=sl_to (x:=base) (p:=p) (by omega)
  have hd:=sl_from (x:=base) (p:=p+1) (by omega)
  rw [show ((p+1:Nat):Int)=(p:Int)+1 by omega] at hd
  have la:(Txt.slice base none (some (p:Int))).length=p:=by rw [<- cl_len,ha,List.length_take,cl_len]; omega
  have ld:(Txt.slice base (some ((p:Int)+1)) none).length=base.length-(p+1):=by rw [<- cl_len,hd,List.length_drop,cl_len]
  have sa:slS (.str base) none (some (p:Int))=.ok (.str (Txt.slice base none (some (p:Int)))):=if_pos (by omega)
  have sd:slS (.str base) (some ((p:Int)+1)) none=.ok (.str (Txt.slice base (some ((p:Int)+1)) none)):=if_pos (by omega)
  generalize Txt.slice base none (some (p:Int))=A at *
  generalize Txt.slice base (some ((p:Int)+1)) none=E at *
  simp (disch:=first | with_reducible assumption | omega | (simp only [rp18]; omega)) only [List.getElem?_cons_zero,List.getElem?_cons_succ,List.set_cons_succ,List.set_cons_zero,rp19,rp16,rp17,rp18,mulB_L,mulB_R,mulB_b,rps1,rps2,rps3,vSlT_ap,Rst_I,decide_eq_true_eq,tyW,isN,Nat.reduceSub,Nat.reduceAdd,Nat.reduceEqDiff,Nat.reduceLeDiff,Nat.reduceLT,reduceIte,reduceCtorEq,Int.reduceLT,Int.reduceLE,Int.reduceEq,Int.reduceAdd,Int.reduceSub,Int.reduceMul,Int.reduceNeg,Int.reduceToNat,Int.reduceMod,Int.reducePow,Int.reduceDiv,Nat.reducePow,runB_1,runB_2,runB_3,runB_4,runB_5,m__law_alike_names,p15,eb,hp]
  let c:Nat->Nat:=fun k=>(cl qwS).getD ((z/512+5*(k:Int))%26).toNat 0
  have cm:∀ k,((z/512+5*(k:Int))%26).toNat<26:=fun k=>by omega
  have cat:∀ k:Nat,(cl qwS)[((z/512+5*(k:Int))%26).toNat]?=some (c k):=fun k=>by
   show _=some ((cl qwS).getD _ 0)
   rw [List.getD_eq_getElem?_getD,List.getElem?_eq_getElem (by rw [qw_len]; exact cm k)]; rfl
  let g:Nat->Str:=fun k=>A++⟨#[c k]⟩++E
  have gc:∀ k,cl (g k)=cl A ++ [c k]++cl E:=fun k=>by show cl (A++⟨#[c k]⟩++E)=_; rw [cl_app,cl_app]
  have gn:∀ k,Nm (g k):=fun k=>by
   have hlen:(g k).length=base.length:=by
    show (A++⟨#[c k]⟩++E).length=_
    rw [Str.length_append,Str.length_append,la,ld]
    show p+1+_=_
    omega
   refine ⟨by omega,by omega,fun x hx=>?_⟩
   rw [gc] at hx
   rcases List.mem_append.mp hx with hx | hx
   ·rcases List.mem_append.mp hx with hx | hx
    ·rw [ha] at hx; exact hL x (List.mem_of_mem_take hx)
    ·rw [List.mem_singleton.mp hx]; exact qw_lt _ (List.mem_of_getElem? (cat k))
   ·rw [hd] at hx; exact hL x (List.mem_of_mem_drop hx)
  have gi:∀ j k:Nat,j<8->k<8->g j=g k->j=k:=fun j k hj hk e=>by
   have e2:cl A ++ [c j]++cl E=cl A ++ [c k]++cl E:=by rw [<- gc,<- gc,e]
   have e3:c j=c k:=by
    have:=List.append_cancel_right e2
    have:=List.append_cancel_left this
    exact List.singleton_inj.mp this
   have e4:((z/512+5*(j:Int))%26).toNat=((z/512+5*(k:Int))%26).toNat:=by
    have h1:=cat j
    have h2:=cat k
    rw [<- e3] at h2
    obtain ⟨i1,v1⟩:=List.getElem?_eq_some_iff.mp h1
    obtain ⟨i2,v2⟩:=List.getElem?_eq_some_iff.mp h2
    have hp:=List.pairwise_iff_getElem.mp qw_nd
    by_cases h3:((z/512+5*(j:Int))%26).toNat<((z/512+5*(k:Int))%26).toNat
    ·exact absurd (v1.trans v2.symm) (hp _ _ i1 i2 h3)
    ·by_cases h4:((z/512+5*(k:Int))%26).toNat<((z/512+5*(j:Int))%26).toNat
     ·exact absurd (v2.trans v1.symm) (hp _ _ i2 i1 h4)
     ·omega
   omega
  refine ok_end (po_fors (fun i ρ=>∃ x y:Sl,ρ = [.par (.int z),.par (.int (n:Nat)),.val (.int (1+z%8)),.val (.str base),.val (.int (p:Int)),.own (((List.range i).map g).map W.str),x,y]) ⟨_,_,rfl⟩ ?_ ?_)
  ·rintro i u ρ hu ⟨x,y,rfl⟩
   obtain ⟨hi,rfl⟩:=rng_at hu
   have ix:=ixS_ok (x:=qwS) rfl (j:=(z/512+5*(i:Int))%26) (by omega) (cat i) (by decide +kernel)
   have f1:A.length+(⟨#[c i]⟩:Str).length<=100000:=by rw [la]; show p+1<=_; omega
   have f2:(A++⟨#[c i]⟩:Str).length+E.length<=100000:=by rw [Str.length_append,la,ld]; show p+1+_<=_; omega
   have ll:(((List.range i).map g).map W.str).length<1000:=by rw [List.length_map,List.length_map,List.length_range]; omega
   refine ⟨_,rfl,?_⟩
   simp (disch:=first | with_reducible assumption | omega | (simp only [rp18]; omega)) only [List.getElem?_cons_zero,List.getElem?_cons_succ,List.set_cons_succ,List.set_cons_zero,rp19,rp16,rp17,rp18,mulB_L,mulB_R,mulB_b,rps1,rps2,rps3,vSlT_ap,Rst_I,decide_eq_true_eq,tyW,isN,Nat.reduceSub,Nat.reduceAdd,Nat.reduceEqDiff,Nat.reduceLeDiff,Nat.reduceLT,reduceIte,reduceCtorEq,Int.reduceLT,Int.reduceLE,Int.reduceEq,Int.reduceAdd,Int.reduceSub,Int.reduceMul,Int.reduceNeg,Int.reduceToNat,Int.reduceMod,Int.reducePow,Int.reduceDiv,Nat.reducePow,ix,sa,sd]
   refine ⟨.par (.int (i:Nat)),.val (.str ⟨#[c i]⟩),?_⟩
   rw [List.range_succ,List.map_append,List.map_append]
   rfl
  ·rintro ρ ⟨x,y,rfl⟩
   rw [List.length_map,List.length_range]
   simp (disch:=first | with_reducible assumption | omega | (simp only [rp18]; omega)) only [List.getElem?_cons_zero,List.getElem?_cons_succ,List.set_cons_succ,List.set_cons_zero,rp19,rp16,rp17,rp18,mulB_L,mulB_R,mulB_b,rps1,rps2,rps3,vSlT_ap,Rst_I,decide_eq_true_eq,tyW,isN,Nat.reduceSub,Nat.reduceAdd,Nat.reduceEqDiff,Nat.reduceLeDiff,Nat.reduceLT,reduceIte,reduceCtorEq,Int.reduceLT,Int.reduceLE,Int.reduceEq,Int.reduceAdd,Int.reduceSub,Int.reduceMul,Int.reduceNeg,Int.reduceToNat,Int.reduceMod,Int.reducePow,Int.reduceDiv,Nat.reducePow]
   refine ⟨(List.range n).map g,rfl,by rw [List.length_map,List.length_range],fun w hw=>?_,?_⟩
   ·obtain ⟨k,_,rfl⟩:=List.mem_map.mp hw; exact gn k
   ·refine List.pairwise_map.mpr ?_
    refine List.Pairwise.imp_of_mem ?_ List.nodup_range
    intro j k hj hk hne e
    exact hne (gi j k (by have:=List.mem_range.mp hj; omega) (by have:=List.mem_range.mp hk; omega) e)
 obtain ⟨v,e,ws,rfl,h⟩:=fin
 exact ⟨ws,e,h⟩
theorem dd0:decide (((0:Nat):Int)=0)=true:=rfl
theorem dd2:decide (((2:Nat):Int)=2)=true:=rfl
theorem dd3:decide (((3:Nat):Int)=3)=true:=rfl
theorem whole_ok {c:List Int} {n:Nat} (h:c.length=n) (hn:n<=1000):f__law_whole_counts [tI c,.int (n:Nat)]=.ok (.bl true):=by
 have hi:(c.length:Int)=(n:Int):=by omega
 simp (disch:=first | with_reducible assumption | omega | (simp only [rp18]; omega)) only [List.getElem?_cons_zero,List.getElem?_cons_succ,List.set_cons_succ,List.set_cons_zero,rp19,rp16,rp17,rp18,mulB_L,mulB_R,mulB_b,rps1,rps2,rps3,vSlT_ap,Rst_I,decide_eq_true_eq,tyW,isN,Nat.reduceSub,Nat.reduceAdd,Nat.reduceEqDiff,Nat.reduceLeDiff,Nat.reduceLT,reduceIte,reduceCtorEq,Int.reduceLT,Int.reduceLE,Int.reduceEq,Int.reduceAdd,Int.reduceSub,Int.reduceMul,Int.reduceNeg,Int.reduceToNat,Int.reduceMod,Int.reducePow,Int.reduceDiv,Nat.reducePow,runB_1,runB_2,runB_3,runB_4,runB_5,m__law_whole_counts,hi]
 rw [mComp_filter (fun x:Int=>W.int x) W.int (fun _=>false) c _ (by omega) ?_]
 ·rw [show c.filter (fun _=>false) = [] from List.filter_eq_nil_iff.mpr (fun _ _ h=>by cases h)]
  simp (disch:=first | with_reducible assumption | omega | (simp only [rp18]; omega)) only [List.getElem?_cons_zero,List.getElem?_cons_succ,List.set_cons_succ,List.set_cons_zero,rp19,rp16,rp17,rp18,mulB_L,mulB_R,mulB_b,rps1,rps2,rps3,vSlT_ap,Rst_I,decide_eq_true_eq,tyW,isN,Nat.reduceSub,Nat.reduceAdd,Nat.reduceEqDiff,Nat.reduceLeDiff,Nat.reduceLT,reduceIte,reduceCtorEq,Int.reduceLT,Int.reduceLE,Int.reduceEq,Int.reduceAdd,Int.reduceSub,Int.reduceMul,Int.reduceNeg,Int.reduceToNat,Int.reduceMod,Int.reducePow,Int.reduceDiv,Nat.reducePow,dd0]
 ·intro x _
  refine ⟨_,rfl,?_,fun h=>by cases h⟩
  simp (disch:=first | with_reducible assumption | omega | (simp only [rp18]; omega)) only [List.getElem?_cons_zero,List.getElem?_cons_succ,List.set_cons_succ,List.set_cons_zero,rp19,rp16,rp17,rp18,mulB_L,mulB_R,mulB_b,rps1,rps2,rps3,vSlT_ap,Rst_I,decide_eq_true_eq,tyW,isN,Nat.reduceSub,Nat.reduceAdd,Nat.reduceEqDiff,Nat.reduceLeDiff,Nat.reduceLT,reduceIte,reduceCtorEq,Int.reduceLT,Int.reduceLE,Int.reduceEq,Int.reduceAdd,Int.reduceSub,Int.reduceMul,Int.reduceNeg,Int.reduceToNat,Int.reduceMod,Int.reducePow,Int.reduceDiv,Nat.reducePow]
theorem moort_ok {n:Nat} {b:List Int} {ms:List Mv} (hb:b.length=n) (hn:n<=6) (hm:∀ m∈ms,m.1.length=n/\m.2.length=n):f__law_moor_told [.tup [tI b,.tup (ms.map mW)],tI b,.tup (ms.map mW)]=.ok (.bl true):=by
 have fin:Ok (f__law_moor_told [.tup [tI b,.tup (ms.map mW)],tI b,.tup (ms.map mW)]) fun v=>v=.bl true:=by
  have wb:=whole_ok (c:=b) (n:=b.length) rfl (by omega)
  have sh:shp 8 (.tup [tI b,.tup (ms.map mW)])=true:=by
   show (shp 7 (tI b)&&(shp 7 (.tup (ms.map mW))&&true))=true
   rw [shp_tI,show shp 7 (.tup (ms.map mW))=true from shps_map mW 6 (fun m=>by show (shp 5 (tI m.1)&&(shp 5 (tI m.2)&&true))=true; rw [shp_tI,shp_tI]; rfl) ms]; rfl
  have fe:=fEq_self (neg:=false) sh
  simp (disch:=first | with_reducible assumption | omega | (simp only [rp18]; omega)) only [List.getElem?_cons_zero,List.getElem?_cons_succ,List.set_cons_succ,List.set_cons_zero,rp19,rp16,rp17,rp18,mulB_L,mulB_R,mulB_b,rps1,rps2,rps3,vSlT_ap,Rst_I,decide_eq_true_eq,tyW,isN,Nat.reduceSub,Nat.reduceAdd,Nat.reduceEqDiff,Nat.reduceLeDiff,Nat.reduceLT,reduceIte,reduceCtorEq,Int.reduceLT,Int.reduceLE,Int.reduceEq,Int.reduceAdd,Int.reduceSub,Int.reduceMul,Int.reduceNeg,Int.reduceToNat,Int.reduceMod,Int.reducePow,Int.reduceDiv,Nat.reducePow,runB_1,runB_2,runB_3,runB_4,runB_5,m__law_moor_told,wb,dd2]
  refine ok_end (po_fors (fun i ρ=>∃ x:Sl,ρ = [.par (.tup [tI b,.tup (ms.map mW)]),.par (tI b),.par (.tup (ms.map mW)),x]) ⟨_,rfl⟩ ?_ ?_)
  ·rintro i u ρ hu ⟨x,rfl⟩
   rw [List.getElem?_map] at hu
   obtain ⟨m,hm2,rfl⟩:=Option.map_eq_some_iff.mp hu
   have hh:=hm m (List.mem_of_getElem? hm2)
   have w1:=whole_ok (c:=m.1) (n:=b.length) (by omega) (by omega)
   have w2:=whole_ok (c:=m.2) (n:=b.length) (by omega) (by omega)
   refine ⟨_,rfl,?_⟩
   simp (disch:=first | with_reducible assumption | omega | (simp only [rp18]; omega)) only [List.getElem?_cons_zero,List.getElem?_cons_succ,List.set_cons_succ,List.set_cons_zero,rp19,rp16,rp17,rp18,mulB_L,mulB_R,mulB_b,rps1,rps2,rps3,vSlT_ap,Rst_I,decide_eq_true_eq,tyW,isN,Nat.reduceSub,Nat.reduceAdd,Nat.reduceEqDiff,Nat.reduceLeDiff,Nat.reduceLT,reduceIte,reduceCtorEq,Int.reduceLT,Int.reduceLE,Int.reduceEq,Int.reduceAdd,Int.reduceSub,Int.reduceMul,Int.reduceNeg,Int.reduceToNat,Int.reduceMod,Int.reducePow,Int.reduceDiv,Nat.reducePow,w1,w2,dd2]
   exact ⟨_,rfl⟩
  ·rintro ρ ⟨x,rfl⟩
   simp (disch:=first | with_reducible assumption | omega | (simp only [rp18]; omega)) only [List.getElem?_cons_zero,List.getElem?_cons_succ,List.set_cons_succ,List.set_cons_zero,rp19,rp16,rp17,rp18,mulB_L,mulB_R,mulB_b,rps1,rps2,rps3,vSlT_ap,Rst_I,decide_eq_true_eq,tyW,isN,Nat.reduceSub,Nat.reduceAdd,Nat.reduceEqDiff,Nat.reduceLeDiff,Nat.reduceLT,reduceIte,reduceCtorEq,Int.reduceLT,Int.reduceLE,Int.reduceEq,Int.reduceAdd,Int.reduceSub,Int.reduceMul,Int.reduceNeg,Int.reduceToNat,Int.reduceMod,Int.reducePow,Int.reduceDiv,Nat.reducePow,fe]
 obtain ⟨v,e,rfl⟩:=fin
 exact e
theorem lread_ok {n:Nat} {b:List Int} {ms:List Mv} {ps ns:List Str} (hb:b.length=n) (hn:n<=6) (hm:∀ m∈ms,m.1.length=n/\m.2.length=n) (hp:∀ w∈ps,Nm w) (hs:∀ w∈ns,Nm w):f__law_read [.tup [.tup [tI b,.tup (ms.map mW)],lS ps,lS ns],tI b,.tup (ms.map mW),lS ps,lS ns]=.ok (.bl true):=by
 have e1:=moort_ok hb hn hm
 have e2:=fEq_self (neg:=false) (w:=lS ps) (shps_nm (n:=7) hp)
 have e3:=fEq_self (neg:=false) (w:=lS ns) (shps_nm (n:=7) hs)
 simp (disch:=first | with_reducible assumption | omega | (simp only [rp18]; omega)) only [List.getElem?_cons_zero,List.getElem?_cons_succ,List.set_cons_succ,List.set_cons_zero,rp19,rp16,rp17,rp18,mulB_L,mulB_R,mulB_b,rps1,rps2,rps3,vSlT_ap,Rst_I,decide_eq_true_eq,tyW,isN,Nat.reduceSub,Nat.reduceAdd,Nat.reduceEqDiff,Nat.reduceLeDiff,Nat.reduceLT,reduceIte,reduceCtorEq,Int.reduceLT,Int.reduceLE,Int.reduceEq,Int.reduceAdd,Int.reduceSub,Int.reduceMul,Int.reduceNeg,Int.reduceToNat,Int.reduceMod,Int.reducePow,Int.reduceDiv,Nat.reducePow,runB_1,runB_2,runB_3,runB_4,runB_5,m__law_read,e1,e2,e3,dd3]
--CUT
theorem map_getD (ps:List Str):(List.range ps.length).map (fun i=>ps.getD i Str.empty)=ps:=by
 apply List.ext_getElem
 ·simp
 ·intro i h1 h2
  rw [List.getElem_map,List.getElem_range,List.getD_eq_getElem?_getD,List.getElem?_eq_getElem h2]; rfl
theorem map_getI (b:List Int):(List.range b.length).map (fun i=>b.getD i 0)=b:=by
 apply List.ext_getElem
 ·simp
 ·intro i h1 h2
  rw [List.getElem_map,List.getElem_range,List.getD_eq_getElem?_getD,List.getElem?_eq_getElem h2]; rfl
theorem map_getM (ms:List Mv):(List.range ms.length).map (fun i=>ms.getD i ([],[]))=ms:=by
 apply List.ext_getElem
 ·simp
 ·intro i h1 h2
  rw [List.getElem_map,List.getElem_range,List.getD_eq_getElem?_getD,List.getElem?_eq_getElem h2]; rfl
theorem pls_1 (ps:List Str) (b:List Int):(pls ps b).map (fun p=>p.1)=ps:=by
 unfold pls; rw [List.map_map]; exact map_getD ps
theorem pls_2 {ps:List Str} {b:List Int} (h:b.length=ps.length):(pls ps b).map (fun p=>p.2)=b:=by
 unfold pls; rw [List.map_map,<- h]; exact map_getI b
theorem mts_1 {ps ns:List Str} {ms:List Mv} {t u:Int} (h:ns.length=ms.length):(mts ps ns ms t u).map (fun m=>m.1)=ns:=by
 unfold mts; rw [List.map_map,<- h]; exact map_getD ns
theorem mts_2 {ps ns:List Str} {ms:List Mv} {t u:Int} (D:Dr ps ns ms):(mts ps ns ms t u).map (mvW ps)=ms.map mW:=by
 unfold mts
 rw [List.map_map]
 have e:(List.range ms.length).map (mvW ps∘fun k=>(ns.getD k Str.empty,tp (ms.getD k ([],[])).1 ps t ps.length,tp (ms.getD k ([],[])).2 ps u ps.length))=(List.range ms.length).map (mW∘fun k=>ms.getD k ([],[])):=by
  refine List.map_congr_left fun k hk=>?_
  have hm:=mv_at D (List.mem_range.mp hk)
  show W.tup [tI (ps.map (lk (tp (ms.getD k ([],[])).1 ps t ps.length))),tI (ps.map (lk (tp (ms.getD k ([],[])).2 ps u ps.length)))]=mW (ms.getD k ([],[]))
  rw [lk_tp hm.1 D.dp D.l1,lk_tp hm.2 D.dp D.l1]
 rw [e,<- List.map_map,map_getM]
theorem fine_of {ps ns:List Str} {ms:List Mv} {b:List Int} {t u:Int} (D:Dr ps ns ms) (hb:cnt ps.length b):Fine (pls ps b) (mts ps ns ms t u) where
 l1:=by unfold pls; rw [List.length_map,List.length_range]; exact D.l1
 l2:=by unfold pls; rw [List.length_map,List.length_range]; exact D.l2
 l3:=by unfold mts; rw [List.length_map,List.length_range]; exact D.l3
 np:=fun p hp=>by
  obtain ⟨k,hk,rfl⟩:=List.mem_map.mp hp
  exact ⟨D.np _ (getD_mem (List.mem_range.mp hk)),cnt_at hb k⟩
 nm:=fun m hm=>by
  obtain ⟨k,hk,rfl⟩:=List.mem_map.mp hm
  have hk:=List.mem_range.mp hk
  have mi:=mv_at D hk
  rw [pls_1]
  exact ⟨D.nn _ (getD_mem (by rw [D.l4]; exact hk)),tp_told mi.1 D.dp D.l1 D.l2,tp_told mi.2 D.dp D.l1 D.l2⟩
 d1:=by rw [pls_1]; exact D.dp
 d2:=by rw [mts_1 D.l4]; exact D.dn
theorem read_it {ps ns:List Str} {ms:List Mv} {b:List Int} {t u:Int} (D:Dr ps ns ms) (hb:cnt ps.length b):f_read [.str (text (pls ps b) (mts ps ns ms t u))]=.ok (.tup [.tup [tI b,.tup (ms.map mW)],lS ps,lS ns]):=by
 have h:=read_ok (fine_of (t:=t) (u:=u) D hb)
 rw [pls_1,pls_2 hb.1,mts_1 D.l4,mts_2 D] at h
 exact h
theorem mK_ok {i:Nat} {f:List W->R W} {ma:Rho->R (List W)} {mt:Rho->R Bool} {ρ:Rho} {ws:List W} {u:W} {ys zs:List W} (hi:i<ρ.length) (h1:ma ρ=.ok ws) (h2:f ws=.ok (.tup [u,.lst ys,.lst zs])) (h3:mt (ρ.set i (.val (.tup [u,.lst ys,.lst zs])))=.ok false) (h4:ys.length<1000):mK i f ma mt ρ=.ok (.nx (ρ.set i .un)):=by
 unfold mK mK1
 rw [if_pos hi,h1,R.ok_bind,h2,R.ok_bind]
 show (mt _>>=_)=_
 rw [h3,R.ok_bind,if_neg (by decide),if_pos h4]
theorem po_cut {r:R Fl} {n:Rho->R Fl} {Jn:Rho->Prop} {Jr:W->Prop} (J:Rho->Prop) (h:Po r J Jr) (hn:∀ ρ,J ρ->Po (n ρ) Jn Jr):Po (andThen r n) Jn Jr:=po_seq (h.mono hn fun _ h=>h)
theorem po_app {r:R W} {ws:List W} {i:Nat} {ρ:Rho} {Jn:Rho->Prop} {Jr:W->Prop} (hl:ws.length<1000) (h:Ok r fun w=>Jn (ρ.set i (.own (ws ++ [w])))):Po (appS (some (.own ws)) r i ρ) Jn Jr:=by
 obtain ⟨w,rfl,q⟩:=h
 rw [appS_c hl]
 exact q
theorem cn_all {n:Nat} {zs:List Int} (hl:zs.length=n) (h:∀ k,k<n->Cn (zs.getD k 0)):cnt n zs:=⟨hl,all_of_getD fun k hk=>h k (by omega)⟩
theorem fCatT_I {xs ys:List Int} (h:xs.length+ys.length<=1000):fCatT (tI xs) (tI ys)=.ok (tI (xs++ys)):=by
 show (if _ then _ else _)=_
 rw [if_pos ⟨by simpa using h,noLs_ints xs,noLs_ints ys⟩,<- List.map_append]
theorem Nms.take {n k:Nat} {ws:List Str} (h:Nms n ws) (hk:k<=n):Nms k (ws.take k):=⟨by rw [List.length_take,h.1]; omega,fun w hw=>h.2.1 w (List.mem_of_mem_take hw),List.Pairwise.sublist (List.take_sublist k ws) h.2.2⟩
--CUT
theorem law_pure (ns:List Int) (hl:ns.length<=63) (hb:∀ x∈ns,Builtin.Int.intBits x<=1048576):f_law [.scr (ns.map W.int)]=.ok (.bl true):=by
 have fin:Ok (f_law [.scr (ns.map W.int)]) fun v=>v=.bl true:=by
  obtain ⟨c0,e0⟩:=cell_ok hb (k:=0) (by decide) (by decide)
  obtain ⟨c1,e1⟩:=cell_ok hb (k:=1) (by decide) (by decide)
  obtain ⟨c6,e6⟩:=cell_ok hb (k:=6) (by decide) (by decide)
  obtain ⟨c7,e7⟩:=cell_ok hb (k:=7) (by decide) (by decide)
  obtain ⟨c20,e20⟩:=cell_ok hb (k:=20) (by decide) (by decide)
  obtain ⟨c21,e21⟩:=cell_ok hb (k:=21) (by decide) (by decide)
  obtain ⟨n,hn⟩:∃ n:Nat,1+c0%6=(n:Int):=⟨(1+c0%6).toNat,by omega⟩
  have n1:1<=n:=by omega
  have n6:n<=6:=by omega
  obtain ⟨K,hK⟩:∃ K:Nat,c1%9=(K:Int):=⟨(c1%9).toNat,by omega⟩
  have k8:K<=8:=by omega
  simp (disch:=first | with_reducible assumption | omega | (simp only [rp18]; omega)) only [List.getElem?_cons_zero,List.getElem?_cons_succ,List.set_cons_succ,List.set_cons_zero,rp19,rp16,rp17,rp18,mulB_L,mulB_R,mulB_b,rps1,rps2,rps3,vSlT_ap,Rst_I,decide_eq_true_eq,tyW,isN,Nat.reduceSub,Nat.reduceAdd,Nat.reduceEqDiff,Nat.reduceLeDiff,Nat.reduceLT,reduceIte,reduceCtorEq,Int.reduceLT,Int.reduceLE,Int.reduceEq,Int.reduceAdd,Int.reduceSub,Int.reduceMul,Int.reduceNeg,Int.reduceToNat,Int.reduceMod,Int.reducePow,Int.reduceDiv,Nat.reducePow,runB_1,runB_2,runB_3,runB_4,runB_5,m_law,e0,hn,e1,hK]
  refine ok_end (po_fors (fun i ρ=>∃ (ms:List Mv) (x y z:Sl),ρ = [.par (.scr (ns.map W.int)),.val (.int (n:Nat)),.own (ms.map mW),x,y,z,.un,.un,.un,.un,.un,.un,.un,.un,.un]/\ms.length=i/\∀ m∈ms,cnt n m.1/\cnt n m.2) ⟨[],_,_,_,rfl,rfl,by simp⟩ ?_ ?_)
  ·rintro i u ρ hu ⟨ms,x,y,z,rfl,hm,hms⟩
   obtain ⟨hi,rfl⟩:=rng_at hu
   have ib:=Int.mul_le_mul (show 2*(n:Int)<=12 by omega) (show (i:Int)<=8 by omega) (by omega) (by omega)
   have ic:=Int.mul_nonneg (show 0<=2*(n:Int) by omega) (show 0<=(i:Int) by omega)
   refine ⟨_,rfl,?_⟩
   simp (disch:=first | with_reducible assumption | omega | (simp only [rp18]; omega)) only [List.getElem?_cons_zero,List.getElem?_cons_succ,List.set_cons_succ,List.set_cons_zero,rp19,rp16,rp17,rp18,mulB_L,mulB_R,mulB_b,rps1,rps2,rps3,vSlT_ap,Rst_I,decide_eq_true_eq,tyW,isN,Nat.reduceSub,Nat.reduceAdd,Nat.reduceEqDiff,Nat.reduceLeDiff,Nat.reduceLT,reduceIte,reduceCtorEq,Int.reduceLT,Int.reduceLE,Int.reduceEq,Int.reduceAdd,Int.reduceSub,Int.reduceMul,Int.reduceNeg,Int.reduceToNat,Int.reduceMod,Int.reducePow,Int.reduceDiv,Nat.reducePow]
   refine po_sets (ok_rtcomp (fun _ z=>Cn z) (by omega) ?_ ?_)
   ·intro k hk
    obtain ⟨z,ez⟩:=cell_ok hb (k:=22+2*(n:Int)*(i:Int)+2*(k:Int)) (by omega) (by omega)
    obtain ⟨y,ey,hy⟩:=lcount_ok z
    refine ⟨_,rfl,?_⟩
    simp (disch:=first | with_reducible assumption | omega | (simp only [rp18]; omega)) only [List.getElem?_cons_zero,List.getElem?_cons_succ,List.set_cons_succ,List.set_cons_zero,rp19,rp16,rp17,rp18,mulB_L,mulB_R,mulB_b,rps1,rps2,rps3,vSlT_ap,Rst_I,decide_eq_true_eq,tyW,isN,Nat.reduceSub,Nat.reduceAdd,Nat.reduceEqDiff,Nat.reduceLeDiff,Nat.reduceLT,reduceIte,reduceCtorEq,Int.reduceLT,Int.reduceLE,Int.reduceEq,Int.reduceAdd,Int.reduceSub,Int.reduceMul,Int.reduceNeg,Int.reduceToNat,Int.reduceMod,Int.reducePow,Int.reduceDiv,Nat.reducePow]
    rw [ez,Rcons_ok,R.ok_bind]
    simp (disch:=first | with_reducible assumption | omega | (simp only [rp18]; omega)) only [List.getElem?_cons_zero,List.getElem?_cons_succ,List.set_cons_succ,List.set_cons_zero,rp19,rp16,rp17,rp18,mulB_L,mulB_R,mulB_b,rps1,rps2,rps3,vSlT_ap,Rst_I,decide_eq_true_eq,tyW,isN,Nat.reduceSub,Nat.reduceAdd,Nat.reduceEqDiff,Nat.reduceLeDiff,Nat.reduceLT,reduceIte,reduceCtorEq,Int.reduceLT,Int.reduceLE,Int.reduceEq,Int.reduceAdd,Int.reduceSub,Int.reduceMul,Int.reduceNeg,Int.reduceToNat,Int.reduceMod,Int.reducePow,Int.reduceDiv,Nat.reducePow,ey]
    exact ⟨_,rfl,_,rfl,hy⟩
   ·intro a ha1 ha2
    simp (disch:=first | with_reducible assumption | omega | (simp only [rp18]; omega)) only [List.getElem?_cons_zero,List.getElem?_cons_succ,List.set_cons_succ,List.set_cons_zero,rp19,rp16,rp17,rp18,mulB_L,mulB_R,mulB_b,rps1,rps2,rps3,vSlT_ap,Rst_I,decide_eq_true_eq,tyW,isN,Nat.reduceSub,Nat.reduceAdd,Nat.reduceEqDiff,Nat.reduceLeDiff,Nat.reduceLT,reduceIte,reduceCtorEq,Int.reduceLT,Int.reduceLE,Int.reduceEq,Int.reduceAdd,Int.reduceSub,Int.reduceMul,Int.reduceNeg,Int.reduceToNat,Int.reduceMod,Int.reducePow,Int.reduceDiv,Nat.reducePow]
    refine po_app (by rw [List.length_map]; omega) (ok_bindL (okL_2 ⟨_,rfl,okL_1 (ok_rtcomp (fun _ z=>Cn z) (by omega) ?_ ?_)⟩))
    ·intro k hk
     obtain ⟨z,ez⟩:=cell_ok hb (k:=22+2*(n:Int)*(i:Int)+2*(k:Int)+1) (by omega) (by omega)
     obtain ⟨y,ey,hy⟩:=lcount_ok z
     refine ⟨_,rfl,?_⟩
     simp (disch:=first | with_reducible assumption | omega | (simp only [rp18]; omega)) only [List.getElem?_cons_zero,List.getElem?_cons_succ,List.set_cons_succ,List.set_cons_zero,rp19,rp16,rp17,rp18,mulB_L,mulB_R,mulB_b,rps1,rps2,rps3,vSlT_ap,Rst_I,decide_eq_true_eq,tyW,isN,Nat.reduceSub,Nat.reduceAdd,Nat.reduceEqDiff,Nat.reduceLeDiff,Nat.reduceLT,reduceIte,reduceCtorEq,Int.reduceLT,Int.reduceLE,Int.reduceEq,Int.reduceAdd,Int.reduceSub,Int.reduceMul,Int.reduceNeg,Int.reduceToNat,Int.reduceMod,Int.reducePow,Int.reduceDiv,Nat.reducePow]
     rw [ez,Rcons_ok,R.ok_bind]
     simp (disch:=first | with_reducible assumption | omega | (simp only [rp18]; omega)) only [List.getElem?_cons_zero,List.getElem?_cons_succ,List.set_cons_succ,List.set_cons_zero,rp19,rp16,rp17,rp18,mulB_L,mulB_R,mulB_b,rps1,rps2,rps3,vSlT_ap,Rst_I,decide_eq_true_eq,tyW,isN,Nat.reduceSub,Nat.reduceAdd,Nat.reduceEqDiff,Nat.reduceLeDiff,Nat.reduceLT,reduceIte,reduceCtorEq,Int.reduceLT,Int.reduceLE,Int.reduceEq,Int.reduceAdd,Int.reduceSub,Int.reduceMul,Int.reduceNeg,Int.reduceToNat,Int.reduceMod,Int.reducePow,Int.reduceDiv,Nat.reducePow,ey]
     exact ⟨_,rfl,_,rfl,hy⟩
    ·intro c hc1 hc2
     simp (disch:=first | with_reducible assumption | omega | (simp only [rp18]; omega)) only [List.getElem?_cons_zero,List.getElem?_cons_succ,List.set_cons_succ,List.set_cons_zero,rp19,rp16,rp17,rp18,mulB_L,mulB_R,mulB_b,rps1,rps2,rps3,vSlT_ap,Rst_I,decide_eq_true_eq,tyW,isN,Nat.reduceSub,Nat.reduceAdd,Nat.reduceEqDiff,Nat.reduceLeDiff,Nat.reduceLT,reduceIte,reduceCtorEq,Int.reduceLT,Int.reduceLE,Int.reduceEq,Int.reduceAdd,Int.reduceSub,Int.reduceMul,Int.reduceNeg,Int.reduceToNat,Int.reduceMod,Int.reducePow,Int.reduceDiv,Nat.reducePow]
     refine ⟨_,rfl,ms ++ [(a,c)],_,_,_,by rw [List.map_append]; rfl,by rw [List.length_append,hm]; rfl,fun m hm=>?_⟩
     rcases List.mem_append.mp hm with hm | hm
     ·exact hms m hm
     ·rw [List.mem_singleton.mp hm]; exact ⟨cn_all ha1 ha2,cn_all hc1 hc2⟩
  ·rintro ρ ⟨ms,x,y,z,rfl,hm,hms⟩
   rw [List.length_map,List.length_range] at hm
   subst hm
   simp (disch:=first | with_reducible assumption | omega | (simp only [rp18]; omega)) only [List.getElem?_cons_zero,List.getElem?_cons_succ,List.set_cons_succ,List.set_cons_zero,rp19,rp16,rp17,rp18,mulB_L,mulB_R,mulB_b,rps1,rps2,rps3,vSlT_ap,Rst_I,decide_eq_true_eq,tyW,isN,Nat.reduceSub,Nat.reduceAdd,Nat.reduceEqDiff,Nat.reduceLeDiff,Nat.reduceLT,reduceIte,reduceCtorEq,Int.reduceLT,Int.reduceLE,Int.reduceEq,Int.reduceAdd,Int.reduceSub,Int.reduceMul,Int.reduceNeg,Int.reduceToNat,Int.reduceMod,Int.reducePow,Int.reduceDiv,Nat.reducePow]
   refine po_sets (ok_rtcomp (fun _ z=>Cn z) (by omega) ?_ ?_)
   ·intro k hk
    obtain ⟨z,ez⟩:=cell_ok hb (k:=2+(k:Int)) (by omega) (by omega)
    obtain ⟨y,ey,hy⟩:=lcount_ok z
    refine ⟨_,rfl,?_⟩
    simp (disch:=first | with_reducible assumption | omega | (simp only [rp18]; omega)) only [List.getElem?_cons_zero,List.getElem?_cons_succ,List.set_cons_succ,List.set_cons_zero,rp19,rp16,rp17,rp18,mulB_L,mulB_R,mulB_b,rps1,rps2,rps3,vSlT_ap,Rst_I,decide_eq_true_eq,tyW,isN,Nat.reduceSub,Nat.reduceAdd,Nat.reduceEqDiff,Nat.reduceLeDiff,Nat.reduceLT,reduceIte,reduceCtorEq,Int.reduceLT,Int.reduceLE,Int.reduceEq,Int.reduceAdd,Int.reduceSub,Int.reduceMul,Int.reduceNeg,Int.reduceToNat,Int.reduceMod,Int.reducePow,Int.reduceDiv,Nat.reducePow]
    rw [ez,Rcons_ok,R.ok_bind]
    simp (disch:=first | with_reducible assumption | omega | (simp only [rp18]; omega)) only [List.getElem?_cons_zero,List.getElem?_cons_succ,List.set_cons_succ,List.set_cons_zero,rp19,rp16,rp17,rp18,mulB_L,mulB_R,mulB_b,rps1,rps2,rps3,vSlT_ap,Rst_I,decide_eq_true_eq,tyW,isN,Nat.reduceSub,Nat.reduceAdd,Nat.reduceEqDiff,Nat.reduceLeDiff,Nat.reduceLT,reduceIte,reduceCtorEq,Int.reduceLT,Int.reduceLE,Int.reduceEq,Int.reduceAdd,Int.reduceSub,Int.reduceMul,Int.reduceNeg,Int.reduceToNat,Int.reduceMod,Int.reducePow,Int.reduceDiv,Nat.reducePow,ey]
    exact ⟨_,rfl,_,rfl,hy⟩
   intro b hb1 hb2
   have cb:=cn_all hb1 hb2
   obtain ⟨p0,ep0,np0⟩:=lnames_ok hb (a:=8) (n:=n) (by decide) (by decide) (by omega)
   obtain ⟨p1,ep1,np1⟩:=alike_ok (z:=c20/2) (n:=n) (by omega)
   obtain ⟨q0,eq0,nq0⟩:=lnames_ok hb (a:=13) (n:=ms.length) (by decide) (by decide) (by omega)
   obtain ⟨q1,eq1,nq1⟩:=alike_ok (z:=c21/3) (n:=ms.length) (by omega)
   simp (disch:=first | with_reducible assumption | omega | (simp only [rp18]; omega)) only [List.getElem?_cons_zero,List.getElem?_cons_succ,List.set_cons_succ,List.set_cons_zero,rp19,rp16,rp17,rp18,mulB_L,mulB_R,mulB_b,rps1,rps2,rps3,vSlT_ap,Rst_I,decide_eq_true_eq,tyW,isN,Nat.reduceSub,Nat.reduceAdd,Nat.reduceEqDiff,Nat.reduceLeDiff,Nat.reduceLT,reduceIte,reduceCtorEq,Int.reduceLT,Int.reduceLE,Int.reduceEq,Int.reduceAdd,Int.reduceSub,Int.reduceMul,Int.reduceNeg,Int.reduceToNat,Int.reduceMod,Int.reducePow,Int.reduceDiv,Nat.reducePow,ep0,e20]
   refine po_cut (fun ρ=>∃ ps,Nms n ps/\ρ = [.par (.scr (ns.map W.int)),.val (.int (n:Nat)),.val (.tup (ms.map mW)),x,y,z,.val (tI b),.own (ps.map W.str),.un,.un,.un,.un,.un,.un,.un]) (po_if (fun _=>?_) (fun _=>?_)) ?_
   ·simp (disch:=first | with_reducible assumption | omega | (simp only [rp18]; omega)) only [List.getElem?_cons_zero,List.getElem?_cons_succ,List.set_cons_succ,List.set_cons_zero,rp19,rp16,rp17,rp18,mulB_L,mulB_R,mulB_b,rps1,rps2,rps3,vSlT_ap,Rst_I,decide_eq_true_eq,tyW,isN,Nat.reduceSub,Nat.reduceAdd,Nat.reduceEqDiff,Nat.reduceLeDiff,Nat.reduceLT,reduceIte,reduceCtorEq,Int.reduceLT,Int.reduceLE,Int.reduceEq,Int.reduceAdd,Int.reduceSub,Int.reduceMul,Int.reduceNeg,Int.reduceToNat,Int.reduceMod,Int.reducePow,Int.reduceDiv,Nat.reducePow,e20,ep1]
    exact ⟨p1,np1,rfl⟩
   ·simp (disch:=first | with_reducible assumption | omega | (simp only [rp18]; omega)) only [List.getElem?_cons_zero,List.getElem?_cons_succ,List.set_cons_succ,List.set_cons_zero,rp19,rp16,rp17,rp18,mulB_L,mulB_R,mulB_b,rps1,rps2,rps3,vSlT_ap,Rst_I,decide_eq_true_eq,tyW,isN,Nat.reduceSub,Nat.reduceAdd,Nat.reduceEqDiff,Nat.reduceLeDiff,Nat.reduceLT,reduceIte,reduceCtorEq,Int.reduceLT,Int.reduceLE,Int.reduceEq,Int.reduceAdd,Int.reduceSub,Int.reduceMul,Int.reduceNeg,Int.reduceToNat,Int.reduceMod,Int.reducePow,Int.reduceDiv,Nat.reducePow]
    exact ⟨p0,np0,rfl⟩
   rintro ρ ⟨ps,np,rfl⟩
   simp (disch:=first | with_reducible assumption | omega | (simp only [rp18]; omega)) only [List.getElem?_cons_zero,List.getElem?_cons_succ,List.set_cons_succ,List.set_cons_zero,rp19,rp16,rp17,rp18,mulB_L,mulB_R,mulB_b,rps1,rps2,rps3,vSlT_ap,Rst_I,decide_eq_true_eq,tyW,isN,Nat.reduceSub,Nat.reduceAdd,Nat.reduceEqDiff,Nat.reduceLeDiff,Nat.reduceLT,reduceIte,reduceCtorEq,Int.reduceLT,Int.reduceLE,Int.reduceEq,Int.reduceAdd,Int.reduceSub,Int.reduceMul,Int.reduceNeg,Int.reduceToNat,Int.reduceMod,Int.reducePow,Int.reduceDiv,Nat.reducePow,eq0,e21]
   refine po_cut (fun ρ=>∃ qs,Nms ms.length qs/\ρ = [.par (.scr (ns.map W.int)),.val (.int (n:Nat)),.val (.tup (ms.map mW)),x,y,z,.val (tI b),.own (ps.map W.str),.own (qs.map W.str),.un,.un,.un,.un,.un,.un]) (po_if (fun _=>?_) (fun _=>?_)) ?_
   ·simp (disch:=first | with_reducible assumption | omega | (simp only [rp18]; omega)) only [List.getElem?_cons_zero,List.getElem?_cons_succ,List.set_cons_succ,List.set_cons_zero,rp19,rp16,rp17,rp18,mulB_L,mulB_R,mulB_b,rps1,rps2,rps3,vSlT_ap,Rst_I,decide_eq_true_eq,tyW,isN,Nat.reduceSub,Nat.reduceAdd,Nat.reduceEqDiff,Nat.reduceLeDiff,Nat.reduceLT,reduceIte,reduceCtorEq,Int.reduceLT,Int.reduceLE,Int.reduceEq,Int.reduceAdd,Int.reduceSub,Int.reduceMul,Int.reduceNeg,Int.reduceToNat,Int.reduceMod,Int.reducePow,Int.reduceDiv,Nat.reducePow,e21,eq1]
    exact ⟨q1,nq1,rfl⟩
   ·simp (disch:=first | with_reducible assumption | omega | (simp only [rp18]; omega)) only [List.getElem?_cons_zero,List.getElem?_cons_succ,List.set_cons_succ,List.set_cons_zero,rp19,rp16,rp17,rp18,mulB_L,mulB_R,mulB_b,rps1,rps2,rps3,vSlT_ap,Rst_I,decide_eq_true_eq,tyW,isN,Nat.reduceSub,Nat.reduceAdd,Nat.reduceEqDiff,Nat.reduceLeDiff,Nat.reduceLT,reduceIte,reduceCtorEq,Int.reduceLT,Int.reduceLE,Int.reduceEq,Int.reduceAdd,Int.reduceSub,Int.reduceMul,Int.reduceNeg,Int.reduceToNat,Int.reduceMod,Int.reducePow,Int.reduceDiv,Nat.reducePow]
    exact ⟨q0,nq0,rfl⟩
   rintro ρ ⟨qs0,nqs0,rfl⟩
   simp (disch:=first | with_reducible assumption | omega | (simp only [rp18]; omega)) only [List.getElem?_cons_zero,List.getElem?_cons_succ,List.set_cons_succ,List.set_cons_zero,rp19,rp16,rp17,rp18,mulB_L,mulB_R,mulB_b,rps1,rps2,rps3,vSlT_ap,Rst_I,decide_eq_true_eq,tyW,isN,Nat.reduceSub,Nat.reduceAdd,Nat.reduceEqDiff,Nat.reduceLeDiff,Nat.reduceLT,reduceIte,reduceCtorEq,Int.reduceLT,Int.reduceLE,Int.reduceEq,Int.reduceAdd,Int.reduceSub,Int.reduceMul,Int.reduceNeg,Int.reduceToNat,Int.reduceMod,Int.reducePow,Int.reduceDiv,Nat.reducePow,e21]
   refine po_cut (fun ρ=>∃ qs,Nms ms.length qs/\ρ = [.par (.scr (ns.map W.int)),.val (.int (n:Nat)),.val (.tup (ms.map mW)),x,y,z,.val (tI b),.own (ps.map W.str),.own (qs.map W.str),.un,.un,.un,.un,.un,.un]) (po_if (fun hh=>?_) (fun _=>?_)) ?_
   ·have hle:ms.length<=n:=by
     have:=of_decide_eq_true ((Bool.and_eq_true _ _).mp hh).2
     omega
    have cc:cutW (ps.map W.str) none (some (ms.length:Int))=(ps.take ms.length).map W.str:=by
     rw [cutW_map]
     congr 1
     unfold cutL
     rw [HT.sIx_nat,HT.sIx_none,np.1,Nat.min_eq_left hle]
     rfl
    simp (disch:=first | with_reducible assumption | omega | (simp only [rp18]; omega)) only [List.getElem?_cons_zero,List.getElem?_cons_succ,List.set_cons_succ,List.set_cons_zero,rp19,rp16,rp17,rp18,mulB_L,mulB_R,mulB_b,rps1,rps2,rps3,vSlT_ap,Rst_I,decide_eq_true_eq,tyW,isN,Nat.reduceSub,Nat.reduceAdd,Nat.reduceEqDiff,Nat.reduceLeDiff,Nat.reduceLT,reduceIte,reduceCtorEq,Int.reduceLT,Int.reduceLE,Int.reduceEq,Int.reduceAdd,Int.reduceSub,Int.reduceMul,Int.reduceNeg,Int.reduceToNat,Int.reduceMod,Int.reducePow,Int.reduceDiv,Nat.reducePow,cc]
    exact ⟨ps.take ms.length,np.take hle,rfl⟩
   ·simp (disch:=first | with_reducible assumption | omega | (simp only [rp18]; omega)) only [List.getElem?_cons_zero,List.getElem?_cons_succ,List.set_cons_succ,List.set_cons_zero,rp19,rp16,rp17,rp18,mulB_L,mulB_R,mulB_b,rps1,rps2,rps3,vSlT_ap,Rst_I,decide_eq_true_eq,tyW,isN,Nat.reduceSub,Nat.reduceAdd,Nat.reduceEqDiff,Nat.reduceLeDiff,Nat.reduceLT,reduceIte,reduceCtorEq,Int.reduceLT,Int.reduceLE,Int.reduceEq,Int.reduceAdd,Int.reduceSub,Int.reduceMul,Int.reduceNeg,Int.reduceToNat,Int.reduceMod,Int.reducePow,Int.reduceDiv,Nat.reducePow]
    exact ⟨qs0,nqs0,rfl⟩
   rintro ρ ⟨qs,nq,rfl⟩
   have D:Dr ps qs ms:=⟨by rw [np.1]; omega,by rw [np.1]; omega,k8,nq.1,np.2.1,nq.2.1,np.2.2,nq.2.2,fun m hm=>by rw [np.1]; exact hms m hm⟩
   have hbl:b.length=ps.length:=by rw [np.1]; exact hb1
   have cb2:cnt ps.length b:=by rw [np.1]; exact cb
   have bb:big b:=fun v hv=>by
    have:=cb.2 v hv
    exact ⟨this.1,Int.lt_of_le_of_lt this.2 (by decide)⟩
   have t0:=ltext_ok (t:=0) D bb hbl
   have t1:=ltext_ok (t:=c7%6) D bb hbl
   rw [show (2:Int)*0=0 by decide] at t0
   simp (disch:=first | with_reducible assumption | omega | (simp only [rp18]; omega)) only [List.getElem?_cons_zero,List.getElem?_cons_succ,List.set_cons_succ,List.set_cons_zero,rp19,rp16,rp17,rp18,mulB_L,mulB_R,mulB_b,rps1,rps2,rps3,vSlT_ap,Rst_I,decide_eq_true_eq,tyW,isN,Nat.reduceSub,Nat.reduceAdd,Nat.reduceEqDiff,Nat.reduceLeDiff,Nat.reduceLT,reduceIte,reduceCtorEq,Int.reduceLT,Int.reduceLE,Int.reduceEq,Int.reduceAdd,Int.reduceSub,Int.reduceMul,Int.reduceNeg,Int.reduceToNat,Int.reduceMod,Int.reducePow,Int.reduceDiv,Nat.reducePow,t0,e7,t1]
   refine po_fors (fun i ρ=>∃ v:Sl,ρ = [.par (.scr (ns.map W.int)),.val (.int (n:Nat)),.val (.tup (ms.map mW)),x,y,z,.val (tI b),.own (ps.map W.str),.own (qs.map W.str),.val (.str (text (pls ps b) (mts ps qs ms 0 0))),.val (.str (text (pls ps b) (mts ps qs ms (c7%6) (2*(c7%6))))),v,.un,.un,.un]) ⟨_,rfl⟩ ?_ ?_
   ·rintro i w ρ hu ⟨v,rfl⟩
    obtain ⟨t,u,rfl⟩:∃ t u,w=.str (text (pls ps b) (mts ps qs ms t u)):=by
     match i,hu with
     | 0,hu=>cases hu; exact ⟨_,_,rfl⟩
     | 1,hu=>cases hu; exact ⟨_,_,rfl⟩
     | 2,hu=>cases hu; exact ⟨_,_,rfl⟩
     | i+3,hu=>cases hu
    have rd:=read_it (t:=t) (u:=u) D cb2
    have lr:=lread_ok (n:=ps.length) (ms:=ms) (ps:=ps) (ns:=qs) hbl D.l2 (fun m hm=>⟨(D.mv m hm).1.1,(D.mv m hm).2.1⟩) D.np D.nn
    have m0:(tNot' (bTest (bA f__law_read (aC (mVar .B 12) (aC (mVar .B 6) (aC (mVar .B 2) (aC (mVar .B 7) (aC (mVar .B 8) aN)))))))) [.par (.scr (ns.map W.int)),.val (.int (n:Nat)),.val (.tup (ms.map mW)),x,y,z,.val (tI b),.own (ps.map W.str),.own (qs.map W.str),.val (.str (text (pls ps b) (mts ps qs ms 0 0))),.val (.str (text (pls ps b) (mts ps qs ms (c7%6) (2*(c7%6))))),.par (.str (text (pls ps b) (mts ps qs ms t u))),.val (.tup [.tup [tI b,.tup (ms.map mW)],lS ps,lS qs]),.un,.un]=.ok false:=by
     simp (disch:=first | with_reducible assumption | omega | (simp only [rp18]; omega)) only [List.getElem?_cons_zero,List.getElem?_cons_succ,List.set_cons_succ,List.set_cons_zero,rp19,rp16,rp17,rp18,mulB_L,mulB_R,mulB_b,rps1,rps2,rps3,vSlT_ap,Rst_I,decide_eq_true_eq,tyW,isN,Nat.reduceSub,Nat.reduceAdd,Nat.reduceEqDiff,Nat.reduceLeDiff,Nat.reduceLT,reduceIte,reduceCtorEq,Int.reduceLT,Int.reduceLE,Int.reduceEq,Int.reduceAdd,Int.reduceSub,Int.reduceMul,Int.reduceNeg,Int.reduceToNat,Int.reduceMod,Int.reducePow,Int.reduceDiv,Nat.reducePow,lr]
    have mk:=mK_ok (i:=12) (f:=f_read) (ma:=aC (mVar .B 11) aN) (mt:=(tNot' (bTest (bA f__law_read (aC (mVar .B 12) (aC (mVar .B 6) (aC (mVar .B 2) (aC (mVar .B 7) (aC (mVar .B 8) aN))))))))) (ρ:=[.par (.scr (ns.map W.int)),.val (.int (n:Nat)),.val (.tup (ms.map mW)),x,y,z,.val (tI b),.own (ps.map W.str),.own (qs.map W.str),.val (.str (text (pls ps b) (mts ps qs ms 0 0))),.val (.str (text (pls ps b) (mts ps qs ms (c7%6) (2*(c7%6))))),.par (.str (text (pls ps b) (mts ps qs ms t u))),.un,.un,.un]) (by show 12<15; decide) rfl rd m0 (by rw [List.length_map,np.1]; omega)
    refine ⟨_,rfl,?_⟩
    refine Eq.mpr (congrArg (fun r=>TP.Po r _ _) mk) ?_
    exact ⟨_,rfl⟩
   ·rintro ρ ⟨v,rfl⟩
    have s0:=shown_ok D bb hbl
    have sh:shp 8 (.lst [lS ps,lS qs])=true:=by
     show (shp 7 (lS ps)&&(shp 7 (lS qs)&&true))=true
     rw [show shp 7 (lS ps)=true from shps_nm (n:=6) D.np,show shp 7 (lS qs)=true from shps_nm (n:=6) D.nn]; rfl
    have fe:=fEq_self (neg:=true) sh
    have b0:=memD cb.2 (i:=0) (by omega)
    have ba:L2.atI (b.map W.int) 0=some (.int (b.getD 0 0)):=atW_nat (k:=0) (by omega)
    have cd:cutW (b.map W.int) (some 1) none=(b.drop 1).map W.int:=by
     rw [cutW_map]
     congr 1
     unfold cutL
     rw [show (1:Int)=((1:Nat):Int) from rfl,HT.sIx_nat,HT.sIx_none,Nat.min_eq_left (by omega)]
     exact List.take_of_length_le (by rw [List.length_drop]; exact Nat.le_refl _)
    have mz:fI cModZ gMz (.int c6) (.int 10000000000000000000000000000000000000000)=.ok (.int (c6.fmod 10000000000000000000000000000000000000000)):=modZ_ii (by decide)
    have f0:=Int.fmod_nonneg_of_pos c6 (show (0:Int)<10000000000000000000000000000000000000000 by decide)
    have f1:=Int.fmod_lt_of_pos c6 (show (0:Int)<10000000000000000000000000000000000000000 by decide)
    generalize c6.fmod 10000000000000000000000000000000000000000=r at *
    have ct:fCatT (.tup [.int (b.getD 0 0+1000000000+r)]) (.tup ((b.drop 1).map W.int))=.ok (tI ((b.getD 0 0+1000000000+r)::b.drop 1)):=fCatT_I (xs:=[b.getD 0 0+1000000000+r]) (ys:=b.drop 1) (by rw [List.length_drop]; show 1+_<=_; omega)
    have bf:big ((b.getD 0 0+1000000000+r)::b.drop 1):=fun v hv=>by
     rcases List.mem_cons.mp hv with rfl | hv
     ·have:=b0.1
      have:=b0.2
      exact ⟨by omega,by rw [show (10:Int)^41=100000000000000000000000000000000000000000 by decide]; omega⟩
     ·exact bb v (List.mem_of_mem_drop hv)
    have lf:((b.getD 0 0+1000000000+r)::b.drop 1).length=ps.length:=by
     rw [List.length_cons,List.length_drop]; omega
    have s1:=shown_ok D bf lf
    have t2:=ltext_ok (t:=0) D bf lf
    rw [show (2:Int)*0=0 by decide] at t2
    obtain ⟨far,hfar⟩:∃ far,far=(b.getD 0 0+1000000000+r)::b.drop 1:=⟨_,rfl⟩
    rw [<- hfar] at ct s1 t2
    simp (disch:=first | with_reducible assumption | omega | (simp only [rp18]; omega)) only [List.getElem?_cons_zero,List.getElem?_cons_succ,List.set_cons_succ,List.set_cons_zero,rp19,rp16,rp17,rp18,mulB_L,mulB_R,mulB_b,rps1,rps2,rps3,vSlT_ap,Rst_I,decide_eq_true_eq,tyW,isN,Nat.reduceSub,Nat.reduceAdd,Nat.reduceEqDiff,Nat.reduceLeDiff,Nat.reduceLT,reduceIte,reduceCtorEq,Int.reduceLT,Int.reduceLE,Int.reduceEq,Int.reduceAdd,Int.reduceSub,Int.reduceMul,Int.reduceNeg,Int.reduceToNat,Int.reduceMod,Int.reducePow,Int.reduceDiv,Nat.reducePow,s0,fe,e6,p9,p40,mz,ba,cd,ct,s1,t2]
 obtain ⟨v,e,rfl⟩:=fin
 exact e
end K90
set_option maxHeartbeats 4000000
open PySem L2 TP
namespace K90
def xAdd {K:Frag} {d:Mode}:=(o2_I0 (K:=K) (d:=d) (g:=gAdd) (fun _ _=>rfl) (fun _ _ _=>.int))
def xLt {K:Frag} {d:Mode}:=(o2_I0 (K:=K) (d:=d) (g:=gLt) (fun _ _=>rfl) (fun _ _ _=>.bl))
def xLe {K:Frag} {d:Mode}:=(o2_I0 (K:=K) (d:=d) (g:=gLe) (fun _ _=>rfl) (fun _ _ _=>.bl))
def xGt {K:Frag} {d:Mode}:=(o2_I0 (K:=K) (d:=d) (g:=gGt) (fun _ _=>rfl) (fun _ _ _=>.bl))
local macro_rules | `(tactic| trivial)=>`(tactic| first | exact Or.inl rfl | exact Or.inr rfl | exact Or.inr (Or.inl rfl) | exact Or.inr (Or.inr rfl) | assumption | exact ⟨rfl,rfl,rfl,by decide +kernel,rfl,by decide +kernel,by decide +kernel⟩ | exact Room.mono (by assumption) (by decide) | exact ⟨rfl,by decide +kernel,by decide +kernel,by decide +kernel,by decide +kernel,by decide,by decide +kernel,by decide +kernel⟩)
def top (i:Nat):Stmt:=PySem.Challenge.pw_tokenmoor_k90_texts_of_moors.main.body.getD i (.Pass ⟨0,0,0,0⟩)
abbrev hxS (s:String) (t:Nat):Value:=.str (Str.ofString s) t
abbrev hxI (i:Int):Value:=.int i 0
abbrev hxO (c:String) (d:Data):Obj:=⟨.type c,none,d,#[]⟩
abbrev hxE (P:Params) (s:String) (t:Nat) (v:Value):DictEntry:=⟨PyData.keyHash P (Str.ofString s),.str (Str.ofString s) t,v⟩
abbrev hxF (n q:String) (st:Stmt) (dV kV doc pm:Value) (an:Option Addr) (cd ct:Value):Data:=.func (PySem.W.fnOf (Str.ofString n) (Str.ofString q) (defArgs st) (defBody st) (defScope st) dV kV doc pm an cd ct)
abbrev hxG (n:String) (i:Nat) (pm:Value) (c:Nat):Obj:=hxO "function" (hxF n n (top i) .none .none .none pm none (.ref c) .none)
abbrev hxD (n:String) (t:Nat) (l a:Int) (r8:Nat) (r11:Nat) (v13 v14:Value) (r15:Nat) (x16:Int) (t18:Nat):Data:=.fields #[.str (Str.ofString n) t,.str (Str.ofString n) (t+1),.str (Str.ofString "/claim/cut.py") (t+2),hxI l,hxI a,hxI 0,hxI 0,hxI 3,.ref r8,.bool true,hxI 181,.ref r11,.none,v13,v14,.ref r15,hxI x16,hxI l,.str (Str.ofString "/claim/cut.py") t18]
abbrev hxM0:Value:=hxS "law_tokenmoor_k90_texts_of_moors" 324
abbrev hxM1:Value:=hxS "tokenmoor.texts" 229
@[irreducible] def hxheap:Params->Frag:=fun P=>
 (nat_lit 2,⟨.none,none,(.dict #[] 0),#[]⟩) ::
 (nat_lit 3,hxO "dict" (.dict #[hxE P "__name__" 165 (hxS "law_tokenmoor_k90_texts_of_moors" 324),hxE P "__doc__" 166 .none,hxE P "__package__" 167 .none,hxE P "__loader__" 168 (.builtin "__main__.__loader__#opaque"),hxE P "__spec__" 169 .none,hxE P "__annotations__" 170 (.ref 6),hxE P "__builtins__" 171 (.ref 4),hxE P "__file__" 173 (hxS "/claim/cut.py" 172),hxE P "__cached__" 174 .none,hxE P "MoorError" 206 (.ref 24),hxE P "NoText" 222 (.ref 37),hxE P "GREATEST_COUNT" 224 (.int 1000000000 223),hxE P "MOST_PLACES" 226 (.int 6 225),hxE P "MOST_MOVES" 228 (.int 8 227),hxE P "FIGURES" 232 (hxS "0123456789" 231),hxE P "LETTERS" 234 (hxS "abcdefghijklmnopqrstuvwxyz" 233),hxE P "LONGEST_NAME" 236 (.int 8 235),hxE P "read" 248 (.ref 46),hxE P "read_place" 256 (.ref 53),hxE P "read_move" 266 (.ref 60),hxE P "place_of_puts" 274 (.ref 67),hxE P "read_counts" 280 (.ref 72),hxE P "read_count" 289 (.ref 79),hxE P "count_of" 297 (.ref 86),hxE P "must_be_new_name" 305 (.ref 93),hxE P "is_made_of" 311 (.ref 98),hxE P "shown" 317 (.ref 103),hxE P "shown_counts" 323 (.ref 108),hxE P "_law_cell" 334 (.ref 115),hxE P "_law_count" 341 (.ref 122),hxE P "_law_letters" 351 (.ref 129),hxE P "_law_name" 358 (.ref 136),hxE P "_law_names" 370 (.ref 143),hxE P "_law_alike_names" 384 (.ref 150),hxE P "_law_told" 396 (.ref 157),hxE P "_law_text" 402 (.ref 162),hxE P "_law_whole_counts" 408 (.ref 167),hxE P "_law_moor_told" 418 (.ref 174),hxE P "_law_read" 429 (.ref 181),hxE P "law" 435 (.ref 186)] 40)) ::
 (nat_lit 15,hxO "tuple" (.seq #[(.type "ValueError")] 0)) ::
 (nat_lit 22,hxO "tuple" (.seq #[] 0)) ::
 (nat_lit 23,hxO "dict" (.dict #[hxE P "__module__" 196 (hxS "tokenmoor.errors" 187),hxE P "__firstlineno__" 200 (.int 2 199),hxE P "__static_attributes__" 201 (.ref 22),hxE P "__weakref__" 203 (.ref 25),hxE P "__doc__" 204 .none] 3)) ::
 (nat_lit 25,hxO "getset_descriptor" (.fields #[(hxS "__weakref__" 202),(.ref 24),(.builtin "ExceptionGroup.__weakref__"),.none])) ::
 (nat_lit 28,hxO "tuple" (.seq #[(.ref 24)] 0)) ::
 (nat_lit 35,hxO "tuple" (.seq #[] 0)) ::
 (nat_lit 36,hxO "dict" (.dict #[hxE P "__module__" 214 (hxS "tokenmoor.errors" 187),hxE P "__firstlineno__" 218 (.int 4 217),hxE P "__static_attributes__" 219 (.ref 35),hxE P "__doc__" 220 .none] 2)) ::
 (nat_lit 45,hxO "code" (hxD "read" 237 13 1 40 41 (.ref 42) (.ref 43) 44 246 247)) ::
 (nat_lit 46,hxG "read" 10 hxM1 45) ::
 (nat_lit 52,hxO "code" (hxD "read_place" 249 30 2 47 48 (.ref 49) (.ref 50) 51 254 255)) ::
 (nat_lit 53,hxG "read_place" 11 hxM1 52) ::
 (nat_lit 59,hxO "code" (hxD "read_move" 257 35 3 54 55 (.ref 56) (.ref 57) 58 264 265)) ::
 (nat_lit 60,hxG "read_move" 12 hxM1 59) ::
 (nat_lit 66,hxO "code" (hxD "place_of_puts" 267 41 1 61 62 (.ref 63) (.ref 64) 65 272 273)) ::
 (nat_lit 67,hxG "place_of_puts" 13 hxM1 66) ::
 (nat_lit 71,hxO "code" (hxD "read_counts" 275 46 2 68 69 .none .none 70 278 279)) ::
 (nat_lit 72,hxG "read_counts" 14 hxM1 71) ::
 (nat_lit 78,hxO "code" (hxD "read_count" 281 55 2 73 74 (.ref 75) (.ref 76) 77 287 288)) ::
 (nat_lit 79,hxG "read_count" 15 hxM1 78) ::
 (nat_lit 85,hxO "code" (hxD "count_of" 290 60 1 80 81 (.ref 82) (.ref 83) 84 295 296)) ::
 (nat_lit 86,hxG "count_of" 16 hxM1 85) ::
 (nat_lit 92,hxO "code" (hxD "must_be_new_name" 298 65 2 87 88 (.ref 89) (.ref 90) 91 303 304)) ::
 (nat_lit 93,hxG "must_be_new_name" 17 hxM1 92) ::
 (nat_lit 97,hxO "code" (hxD "is_made_of" 306 70 2 94 95 .none .none 96 309 310)) ::
 (nat_lit 98,hxG "is_made_of" 18 hxM1 97) ::
 (nat_lit 102,hxO "code" (hxD "shown" 312 72 3 99 100 .none .none 101 315 316)) ::
 (nat_lit 103,hxG "shown" 19 hxM1 102) ::
 (nat_lit 107,hxO "code" (hxD "shown_counts" 318 78 2 104 105 .none .none 106 321 322)) ::
 (nat_lit 108,hxG "shown_counts" 20 hxM1 107) ::
 (nat_lit 114,hxO "code" (hxD "_law_cell" 326 81 2 109 110 (.ref 111) (.ref 112) 113 332 333)) ::
 (nat_lit 115,hxG "_law_cell" 22 hxM0 114) ::
 (nat_lit 121,hxO "code" (hxD "_law_count" 335 88 1 116 117 (.ref 118) (.ref 119) 120 339 340)) ::
 (nat_lit 122,hxG "_law_count" 23 hxM0 121) ::
 (nat_lit 128,hxO "code" (hxD "_law_letters" 342 94 2 123 124 (.ref 125) (.ref 126) 127 349 350)) ::
 (nat_lit 129,hxG "_law_letters" 24 hxM0 128) ::
 (nat_lit 135,hxO "code" (hxD "_law_name" 352 100 1 130 131 (.ref 132) (.ref 133) 134 356 357)) ::
 (nat_lit 136,hxG "_law_name" 25 hxM0 135) ::
 (nat_lit 142,hxO "code" (hxD "_law_names" 359 104 3 137 138 (.ref 139) (.ref 140) 141 368 369)) ::
 (nat_lit 143,hxG "_law_names" 26 hxM0 142) ::
 (nat_lit 149,hxO "code" (hxD "_law_alike_names" 371 112 2 144 145 (.ref 146) (.ref 147) 148 382 383)) ::
 (nat_lit 150,hxG "_law_alike_names" 27 hxM0 149) ::
 (nat_lit 156,hxO "code" (hxD "_law_told" 385 121 3 151 152 (.ref 153) (.ref 154) 155 394 395)) ::
 (nat_lit 157,hxG "_law_told" 28 hxM0 156) ::
 (nat_lit 161,hxO "code" (hxD "_law_text" 397 128 5 158 159 .none .none 160 400 401)) ::
 (nat_lit 162,hxG "_law_text" 29 hxM0 161) ::
 (nat_lit 166,hxO "code" (hxD "_law_whole_counts" 403 135 2 163 164 .none .none 165 406 407)) ::
 (nat_lit 167,hxG "_law_whole_counts" 30 hxM0 166) ::
 (nat_lit 173,hxO "code" (hxD "_law_moor_told" 409 139 3 168 169 (.ref 170) (.ref 171) 172 416 417)) ::
 (nat_lit 174,hxG "_law_moor_told" 31 hxM0 173) ::
 (nat_lit 180,hxO "code" (hxD "_law_read" 419 150 5 175 176 (.ref 177) (.ref 178) 179 427 428)) ::
 (nat_lit 181,hxG "_law_read" 32 hxM0 180) ::
 (nat_lit 185,hxO "code" (hxD "law" 430 156 1 182 183 .none .none 184 433 434)) ::
 (nat_lit 186,hxG "law" 33 hxM0 185) ::
 []
abbrev hk (w:World):Frag:=hxheap w.params
structure Blt (mg:Str->Option Value):Prop where
 all_:mg "all" = none
 bool_:mg "bool" = none
 int_:mg "int" = none
 isinstance_:mg "isinstance" = none
 len_:mg "len" = none
 list_:mg "list" = none
 range_:mg "range" = none
 str_:mg "str" = none
 tuple_:mg "tuple" = none
 zip_:mg "zip" = none
structure Cst (mg:Str->Option Value):Prop where
 GREATEST_COUNT:∃ t,mg "GREATEST_COUNT" = some (.int 1000000000 t)
 MOST_PLACES:∃ t,mg "MOST_PLACES" = some (.int 6 t)
 MOST_MOVES:∃ t,mg "MOST_MOVES" = some (.int 8 t)
 LONGEST_NAME:∃ t,mg "LONGEST_NAME" = some (.int 8 t)
 FIGURES:∃ t,mg "FIGURES" = some (.str "0123456789" t)
 LETTERS:∃ t,mg "LETTERS" = some (.str "abcdefghijklmnopqrstuvwxyz" t)
def En (w:World) (mg:Str->Option Value):Prop:=∃ h:Heap,(hk w).In h/\h.Ns mainGlobals mg
theorem bn {w:World} {mg:Str->Option Value} (Y:En w mg) {x:Str} (e:PySem.W.nsIn (hk w) mainGlobals x=some none):mg x=none:=Y.elim fun _ q=>PySem.W.mg_none_of q.1 q.2 e
theorem bl {w:World} {mg:Str->Option Value} (Y:En w mg):Blt mg:=⟨bn Y (by kernel_rfl),bn Y (by kernel_rfl),bn Y (by kernel_rfl),bn Y (by kernel_rfl),bn Y (by kernel_rfl),bn Y (by kernel_rfl),bn Y (by kernel_rfl),bn Y (by kernel_rfl),bn Y (by kernel_rfl),bn Y (by kernel_rfl)⟩
theorem cs {w:World} {mg:Str->Option Value} (Y:En w mg):Cst mg:=Y.elim fun _ q=>⟨⟨223,PySem.W.mg_of q.1 q.2 (by kernel_rfl)⟩,⟨225,PySem.W.mg_of q.1 q.2 (by kernel_rfl)⟩,⟨227,PySem.W.mg_of q.1 q.2 (by kernel_rfl)⟩,⟨235,PySem.W.mg_of q.1 q.2 (by kernel_rfl)⟩,⟨231,PySem.W.mg_of q.1 q.2 (by kernel_rfl)⟩,⟨233,PySem.W.mg_of q.1 q.2 (by kernel_rfl)⟩⟩
abbrev FD (nm:String) (i:Nat) (pm:Value) (c:Nat):FuncData:=PySem.W.fnOf nm nm (defArgs (top i)) (defBody (top i)) (defScope (top i)) .none .none .none pm none (.ref c) .none
theorem dk {w:World} {mg:Str->Option Value} (Y:En w mg) {nm:String} {i c:Nat} {f:Addr} {pm:Value} {ps:List Str}
  (e:(PySem.W.nsIn (hk w) mainGlobals nm,(hk w).lookup f,PySem.W.codeIn (hk w) (.ref c) nm,PySem.W.keepIn (hk w) (.ref f))=(some (some (.ref f)),some (hxG nm i pm c),true,true))
  (hb:∀ (kV doc pm:Value) (an:Option Addr) (cdv ct:Value) (us:List Value),us.length=ps.length->bindArgs (PySem.W.fnOf nm nm (defArgs (top i)) (defBody (top i)) (defScope (top i)) .none kV doc pm an cdv ct) ⟨us,[]⟩=pure (ps.zip us)):Def (hk w) mg nm (top i) ps f (FD nm i pm c):=by
 obtain ⟨h,X,G⟩:=Y
 injection e with a e
 injection e with l e
 injection e with c k
 have F:=fun_mk (st:=top i) l c k
 exact ⟨F,PySem.W.mg_of X G a,F.binds hb⟩
theorem okF {P:Program} {w:World} {K:Frag} {mg:Str->Option Value} {base:Heap} {x:Str} {st:Stmt} {ps:List Str} {f:Addr} {fd:FuncData} (D:Def K mg x st ps f fd) {N:List Str} {k n l:Nat} {d:Mode} {m:Rho->R Fl} (S:FnScope N ps (defScope st)) (hd:d=.F\/d=.V) (hn:ps.length=n) (hl:N.length=l) (b:∀ {cdv:Value} {A:Around} {outer:List Env} {s:Shared} {H:Hp} {E:XK},Room k (A.deeper (PyProof.Rows.envOfC x (defScope st) s.heap.objs.size f cdv))->PSs (cxOf CX0 P w K mg base N x (defScope st) f cdv A outer s H E).nox (defBody st) (tSt K (fun _ _=>False) d m)):FnOk P w K mg base CX0 (k+1) f fd ps (spM K n d (runB n l m)):=by
 subst hn hl
 exact D.F.ok S (fun _ _ _ _ h=>h.1) fun cdv A outer s H vs Q E hr h=>⟨_,b hr,c_body hd h⟩
theorem okP {P:Program} {w:World} {K:Frag} {mg:Str->Option Value} {base:Heap} {x:Str} {st:Stmt} {ps:List Str} {f:Addr} {fd:FuncData} (D:Def K mg x st ps f fd) {N:List Str} {k n l:Nat} {m:Rho->R Fl} (S:FnScope N ps (defScope st))  (hn:ps.length=n) (hl:N.length=l) (b:∀ {cdv:Value} {A:Around} {outer:List Env} {s:Shared} {H:Hp} {E:XK},Room k (A.deeper (PyProof.Rows.envOfC x (defScope st) s.heap.objs.size f cdv))->PSs (cxOf CX0 P w K mg base N x (defScope st) f cdv A outer s H E).nox (defBody st) (tStP K (fun _ _=>False) m)):FnOk P w K mg base CX0 (k+1) f fd ps (spP K n (runB n l m)):=by
 subst hn hl
 exact D.F.ok S (fun _ _ _ _ h=>h.1) fun cdv A outer s H vs Q E hr h=>⟨_,b hr,c_bodyP h⟩
theorem qcD {X:Cx} {K:Frag} {d:Mode} {e:Expr} {es:List Expr} {pos:Pos} {mr:Rho->R (List W)} {k:Nat} {f:Addr} {fd:FuncData} {ps:List Str} {x:Str} {st:Stmt} {p:Pos} {n N:Nat} {m:Rho->R Fl} (F:FnOk X.prog X.w X.K X.mg X.base CX0 k f fd ps (spM K n d (runB n N m))) (D:Def X.K X.mg x st ps f fd)
  (ha:PA X (e::es) (tA K (fun _ _=>False) .B mr)) (hd:d=.F\/d=.V:=by first | exact .inl rfl | exact .inr rfl) (hr:Room k X.A:=by exact Room.mono (by assumption) (by decide)) (hg:Gl X x:=by rfl) (hdb:(x == ("__debug__" : Str))=false:=by decide) (he:starEach (e::es) X.env=(false,eval e X.env)::starEach es X.env:=by rfl) (hpl:(backTo pos (starEach es X.env)).any (·.1)=false:=by rfl) :
  PE X (.Call (.Name x p) (e::es) [] pos) (tM K (fun _ _=>False) d (bA (runB n N m) mr)):=q_call F hd hr hg D.m D.F.kp D.b ha hdb he hpl
theorem q_compn {X:Cx} {K:Frag} {EX:EXT} {cs:Scope} {N':List Str} {n:Nat} {tg iter elt:Expr} {ifs:List Expr} {dd:Mode} {g:TG} {mg:W->Rho->Option Rho} {mi:Rho->R (List W)} {ta:Rho->R Bool} {ma:Rho->R W} {pos:Pos} (S:CompScope X.env.scope cs X.N N') (hc:X.calm=true) (hi:PI X tg iter (tIt K EX false dd mi))
  (hg:∀ cl ex s H,PG (cxComp X cs cl N' ex s H) tg g) (hgt:Gt K dd g mg) (hk:GKeep X.N.length g) (ht:∀ cl ex s H,PIf (cxComp X cs cl N' ex s H) ifs (tT K EX ta)) (he:∀ cl ex s H,PE (cxComp X cs cl N' ex s H) elt (tM K EX .V ma))
  (hn:N'.length=n:=by rfl) (hs:∀ x,foldedSetIterable iter X.env x=pure x:=by intro _; rfl):PE X (.ListComp elt [⟨tg,iter,ifs,0⟩] cs pos) (tM K EX .F (vComp n mi mg ta ma)):=by
 subst hn; exact q_comp S hc hi hg hgt hk ht he hs
theorem q_setcn {X:Cx} {K:Frag} {EX:EXT} {d:Mode} {i n:Nat} {y:Str} {py:Pos} {cs:Scope} {N':List Str} {tg iter elt:Expr} {ifs:List Expr} {dd:Mode} {g:TG} {mg:W->Rho->Option Rho} {mi:Rho->R (List W)} {ta:Rho->R Bool} {ma:Rho->R W} {cpos pos:Pos} (S:CompScope X.env.scope cs X.N N') (hc:X.calm=true) (hi:PI X tg iter (tIt K EX false dd mi))
  (hg:∀ cl ex s H,PG (cxComp X cs cl N' ex s H) tg g) (hgt:Gt K dd g mg) (hk:GKeep X.N.length g) (ht:∀ cl ex s H,PIf (cxComp X cs cl N' ex s H) ifs (tT K EX ta)) (he:∀ cl ex s H,PE (cxComp X cs cl N' ex s H) elt (tM K EX .V ma))
  (hN:X.N.Nodup) (hy:X.N[i]?=some y) (hl:Loc X.env.scope y)
  (hn:N'.length=n:=by rfl) (hsw:swapsWith (.ListComp elt [⟨tg,iter,ifs,0⟩] cs cpos) (some (.Name y py)) pos.line X.env=pure true:=by rfl) (hf:X.fn y=true\/X.env.scope.names.lookup y=some .local:=by first | exact .inl rfl | exact .inr rfl | assumption)
  (hs:∀ x,foldedSetIterable iter X.env x=pure x:=by intro _; rfl):PS X (.Assign [.Name y py] (.ListComp elt [⟨tg,iter,ifs,0⟩] cs cpos) pos) (tSt K EX d (sF i (vComp n mi mg ta ma))):=by
 subst hn; exact q_setc S hc hi hg hgt hk ht he hN hy hl hsw hf hs
theorem us0 {P:List Value->Prop} (h:P []):∀ us:List Value,us.length=0->P us:=fun us e=>by
 rw [List.length_eq_zero_iff.mp e]; exact h
theorem us1 {P:List Value->Prop} (h:∀ a0,P [a0]):∀ us:List Value,us.length=1->P us:=fun us e=>by
 cases us with
 | nil=>cases e
 | cons a us=>exact us0 (P:=fun us=>P (a::us)) (h a) us (Nat.succ.inj e)
theorem us2 {P:List Value->Prop} (h:∀ a0 a1,P [a0,a1]):∀ us:List Value,us.length=2->P us:=fun us e=>by
 cases us with
 | nil=>cases e
 | cons a us=>exact us1 (P:=fun us=>P (a::us)) (fun a1=>h a a1) us (Nat.succ.inj e)
theorem us3 {P:List Value->Prop} (h:∀ a0 a1 a2,P [a0,a1,a2]):∀ us:List Value,us.length=3->P us:=fun us e=>by
 cases us with
 | nil=>cases e
 | cons a us=>exact us2 (P:=fun us=>P (a::us)) (fun a1 a2=>h a a1 a2) us (Nat.succ.inj e)
theorem us4 {P:List Value->Prop} (h:∀ a0 a1 a2 a3,P [a0,a1,a2,a3]):∀ us:List Value,us.length=4->P us:=fun us e=>by
 cases us with
 | nil=>cases e
 | cons a us=>exact us3 (P:=fun us=>P (a::us)) (fun a1 a2 a3=>h a a1 a2 a3) us (Nat.succ.inj e)
theorem us5 {P:List Value->Prop} (h:∀ a0 a1 a2 a3 a4,P [a0,a1,a2,a3,a4]):∀ us:List Value,us.length=5->P us:=fun us e=>by
 cases us with
 | nil=>cases e
 | cons a us=>exact us4 (P:=fun us=>P (a::us)) (fun a1 a2 a3 a4=>h a a1 a2 a3 a4) us (Nat.succ.inj e)
theorem scplace_of_puts:FnScope ["words", "at"] ["words"] (defScope (top 13)):=by trivial
theorem scis_made_of:FnScope ["word", "signs"] ["word", "signs"] (defScope (top 18)):=by trivial
theorem scmust_be_new_name:FnScope ["word", "known"] ["word", "known"] (defScope (top 17)):=by trivial
theorem sccount_of:FnScope ["word", "number"] ["word"] (defScope (top 16)):=by trivial
theorem scread_count:FnScope ["word", "fewest", "number"] ["word", "fewest"] (defScope (top 15)):=by trivial
theorem scread_counts:FnScope ["words", "begin", "counts", "number", "name"] ["words", "begin"] (defScope (top 14)):=by trivial
theorem scread_move:FnScope ["words", "begin", "moves", "middle"] ["words", "begin", "moves"] (defScope (top 12)):=by trivial
theorem scread_place:FnScope ["words", "begin"] ["words", "begin"] (defScope (top 11)):=by trivial
theorem scread:FnScope ["text", "begin", "moves", "part", "words", "moor"] ["text"] (defScope (top 10)):=by trivial
theorem scshown_counts:FnScope ["counts", "places"] ["counts", "places"] (defScope (top 20)):=by trivial
theorem scshown:FnScope ["moor", "places", "moves", "parts", "name", "move", "words"] ["moor", "places", "moves"] (defScope (top 19)):=by trivial
theorem sc_law_cell:FnScope ["_law_script", "_law_k", "_law_number"] ["_law_script", "_law_k"] (defScope (top 22)):=by trivial
theorem sc_law_count:FnScope ["_law_cell_here"] ["_law_cell_here"] (defScope (top 23)):=by trivial
theorem sc_law_letters:FnScope ["_law_number", "_law_size", "_law_word", "_law_k"] ["_law_number", "_law_size"] (defScope (top 24)):=by trivial
theorem sc_law_name:FnScope ["_law_cell_here"] ["_law_cell_here"] (defScope (top 25)):=by trivial
theorem sc_law_names:FnScope ["_law_script", "_law_at", "_law_many", "_law_names_here", "_law_k", "_law_cell_here"] ["_law_script", "_law_at", "_law_many"] (defScope (top 26)):=by trivial
theorem sc_law_alike_names:FnScope ["_law_cell_here", "_law_many", "_law_size", "_law_base", "_law_place", "_law_names_here", "_law_k", "_law_letter"] ["_law_cell_here", "_law_many"] (defScope (top 27)):=by trivial
theorem sc_law_told:FnScope ["_law_counts", "_law_places", "_law_turn", "_law_words", "_law_p", "_law_q"] ["_law_counts", "_law_places", "_law_turn"] (defScope (top 28)):=by trivial
theorem sc_law_text:FnScope ["_law_begin", "_law_moves", "_law_places", "_law_names_here", "_law_turn", "_law_parts", "_law_k", "_law_takes", "_law_puts"] ["_law_begin", "_law_moves", "_law_places", "_law_names_here", "_law_turn"] (defScope (top 29)):=by trivial
theorem sc_law_whole_counts:FnScope ["_law_found", "_law_many"] ["_law_found", "_law_many"] (defScope (top 30)):=by trivial
theorem sc_law_moor_told:FnScope ["_law_found", "_law_begin", "_law_moves", "_law_move"] ["_law_found", "_law_begin", "_law_moves"] (defScope (top 31)):=by trivial
theorem sc_law_read:FnScope ["_law_found", "_law_begin", "_law_moves", "_law_places", "_law_names_here"] ["_law_found", "_law_begin", "_law_moves", "_law_places", "_law_names_here"] (defScope (top 32)):=by trivial
theorem sclaw:FnScope ["_law_script", "_law_many", "_law_moves", "_law_k", "_law_at", "_law_take", "_law_begin", "_law_places", "_law_names_here", "_law_plain", "_law_other", "_law_text_here", "_law_found", "_law_held", "_law_far"] ["_law_script"] (defScope (top 33)):=by trivial
section
variable {P:Program} {w:World} {mg:Str->Option Value} {base:Heap} (Y:En w mg)
include Y
theorem dplace_of_puts:Def (hk w) mg "place_of_puts" (top 13) ["words"] 67 (FD "place_of_puts" 13 hxM1 66):=dk Y (by kernel_rfl) fun _ _ _ _ _ _=>us1 fun _=>rfl
theorem okplace_of_puts:FnOk P w (hk w) mg base CX0 1 67 (FD "place_of_puts" 13 hxM1 66) ["words"] (spM (hk w) 1 .F f_place_of_puts):=
 okF (dplace_of_puts Y) scplace_of_puts (.inl rfl) rfl rfl fun hr=>(q_cons (q_for PassesOwn.never rfl (@q_rng3 _ _ _ _ _ _ _ _ _ _ _ (by rfl) (bl Y).range_ (q_aint (q_acons (q_cb K_len b_len (by rfl) (bl Y).len_ PySem.boot_len (q_acons (qv .B 0) q_anil)) (q_aint q_anil))) (by rfl) (by rfl)) (@pg_name _ _ 1 _ scplace_of_puts.nd rfl (by trivial) (by trivial)) gt_U (q_last (q_if_ (q_tcmp op_eq o2_eqS (q_UB (q_ixU (qv .B 0) (qv .B 1))) q_str) (q_last (@q_retv _ _ _ _ _ 1 _ _ (.inl rfl) (by rfl) (by trivial) (by decide) (by decide))) q_nil))) (q_last (q_ret q_non)))
theorem dis_made_of:Def (hk w) mg "is_made_of" (top 18) ["word", "signs"] 98 (FD "is_made_of" 18 hxM1 97):=dk Y (by kernel_rfl) fun _ _ _ _ _ _=>us2 fun _ _=>rfl
theorem okis_made_of:FnOk P w (hk w) mg base CX0 1 98 (FD "is_made_of" 18 hxM1 97) ["word", "signs"] (spM (hk w) 2 .F f_is_made_of):=
 okF (dis_made_of Y) scis_made_of (.inl rfl) rfl rfl fun hr=>(q_last (q_ret (q_and (q_cmp op_gt xGt (q_cb call_len_str b_lenS (by rfl) (bl Y).len_ PySem.boot_len (q_acons (qv .B 0) q_anil)) q_int) (q_one (q_cb (call_allL rfl) (b_bools (g:=gAll)) (by rfl) (bl Y).all_ bt_all (q_acons (q_CB (q_FC (q_compn (show CompScope (defScope (top 18)) _ ["word", "signs"] ["word", "signs", "sign"] from by trivial) rfl (q_iStr (qv .B 0)) (fun _ _ _ _=>(@pg_name _ _ 2 _ (by decide +kernel:(["word", "signs", "sign"]:List Str).Nodup) rfl (Or.inl rfl) (.inr rfl))) gt_U (gk_name (show 2<=2 by decide)) (fun _ _ _ _=>q_pifN) (fun _ _ _ _=>(q_cmp op_in_str o2_inS (qv .B 2) (qv .B 1)))))) q_anil))))))
theorem dmust_be_new_name:Def (hk w) mg "must_be_new_name" (top 17) ["word", "known"] 93 (FD "must_be_new_name" 17 hxM1 92):=dk Y (by kernel_rfl) fun _ _ _ _ _ _=>us2 fun _ _=>rfl
theorem okmust_be_new_name:FnOk P w (hk w) mg base CX0 2 93 (FD "must_be_new_name" 17 hxM1 92) ["word", "known"] (spM (hk w) 2 .F f_must_be_new_name):=by
 obtain ⟨tkLONGEST_NAME,hcLONGEST_NAME⟩:=(cs Y).LONGEST_NAME
 obtain ⟨tkLETTERS,hcLETTERS⟩:=(cs Y).LETTERS
 exact okF (dmust_be_new_name Y) scmust_be_new_name (.inl rfl) rfl rfl fun hr=>(q_cons (q_if_ (PW.pt (q_tor (q_tnot (q_val (q_CB (q_FC (qcD (okis_made_of Y) (dis_made_of Y) (q_acons (qv .B 0) (q_acons (@q_globS _ _ _ _ _ _ _ _ rfl hcLETTERS (by decide)) q_anil))))))) (q_tor1 (q_tcmp op_gt xGt (q_cb call_len_str b_lenS (by rfl) (bl Y).len_ PySem.boot_len (q_acons (qv .B 0) q_anil)) (@q_globI _ _ _ _ _ _ _ _ rfl hcLONGEST_NAME (by decide)))))) (q_last q_never) q_nil) (q_last (q_if_ (@q_dinS _ _ _ _ _ _ 1 _ _ (hu64 hr) rfl (by trivial) (qv .B 0) (by decide) (by decide) (by rfl)) (q_last q_never) q_nil)))
theorem dcount_of:Def (hk w) mg "count_of" (top 16) ["word"] 86 (FD "count_of" 16 hxM1 85):=dk Y (by kernel_rfl) fun _ _ _ _ _ _=>us1 fun _=>rfl
theorem okcount_of:FnOk P w (hk w) mg base CX0 2 86 (FD "count_of" 16 hxM1 85) ["word"] (spM (hk w) 1 .F f_count_of):=by
 obtain ⟨tkGREATEST_COUNT,hcGREATEST_COUNT⟩:=(cs Y).GREATEST_COUNT
 obtain ⟨tkFIGURES,hcFIGURES⟩:=(cs Y).FIGURES
 exact okF (dcount_of Y) sccount_of (.inl rfl) rfl rfl fun hr=>(q_cons (q_if_ (PW.pt (q_tor (q_tcmp op_gt xGt (q_cb call_len_str b_lenS (by rfl) (bl Y).len_ PySem.boot_len (q_acons (qv .B 0) q_anil)) (q_cb call_len_str b_lenS (by rfl) (bl Y).len_ PySem.boot_len (q_acons (q_ct call_str_int b_str (by rfl) (bl Y).str_ bt_str (q_acons (@q_globI _ _ _ _ _ _ _ _ rfl hcGREATEST_COUNT (by decide)) q_anil)) q_anil))) (q_tor1 (q_tnot (q_val (q_CB (q_FC (qcD (okis_made_of Y) (dis_made_of Y) (q_acons (qv .B 0) (q_acons (@q_globS _ _ _ _ _ _ _ _ rfl hcFIGURES (by decide)) q_anil)))))))))) (q_last (q_ret q_non)) q_nil) (q_cons (q_setF (i:=1) sccount_of.nd rfl (by trivial) (q_ct call_intS b_intS (by rfl) (bl Y).int_ bt_int (q_acons (qv .B 0) q_anil)) (by rfl) (by trivial)) (q_last (q_ret (q_if (PW.pt (q_tand (q_tcmp op_eq o2_eqS (q_ct call_str_int b_str (by rfl) (bl Y).str_ bt_str (q_acons (qv .B 1) q_anil)) (qv .B 0)) (q_tand1 (q_tcmp op_le xLe (qv .B 1) (@q_globI _ _ _ _ _ _ _ _ rfl hcGREATEST_COUNT (by decide)))))) (qv .F 1) q_non)))))
theorem dread_count:Def (hk w) mg "read_count" (top 15) ["word", "fewest"] 79 (FD "read_count" 15 hxM1 78):=dk Y (by kernel_rfl) fun _ _ _ _ _ _=>us2 fun _ _=>rfl
theorem okread_count:FnOk P w (hk w) mg base CX0 3 79 (FD "read_count" 15 hxM1 78) ["word", "fewest"] (spM (hk w) 2 .F f_read_count):=
 okF (dread_count Y) scread_count (.inl rfl) rfl rfl fun hr=>(q_cons (q_setF (i:=2) scread_count.nd rfl (by trivial) (qcD (okcount_of Y) (dcount_of Y) (q_acons (qv .B 0) q_anil)) (by rfl) (by trivial)) (q_cons (q_if_ (PW.pt (q_tor (q_tcmp op_isN o2_isN (qv .B 2) q_non) (q_tor1 (q_tcmp op_lt xLt (qv .B 2) (qv .B 1))))) (q_last q_never) q_nil) (q_last (@q_retv _ _ _ _ _ 2 _ _ (.inl rfl) (by rfl) (by trivial) (by decide) (by decide)))))
theorem dread_counts:Def (hk w) mg "read_counts" (top 14) ["words", "begin"] 72 (FD "read_counts" 14 hxM1 71):=dk Y (by kernel_rfl) fun _ _ _ _ _ _=>us2 fun _ _=>rfl
theorem okread_counts:FnOk P w (hk w) mg base CX0 4 72 (FD "read_counts" 14 hxM1 71) ["words", "begin"] (spM (hk w) 2 .F f_read_counts):=
 okF (dread_counts Y) scread_counts (.inl rfl) rfl rfl fun hr=>(q_cons (q_if_ (q_tcmp op_eq o2_eqS (q_op op_mod (o2_I (C:=cMod) (g:=gMod) (fun _ _=>rfl) (fun _ _ _=>.int)) (q_cb K_len b_len (by rfl) (bl Y).len_ PySem.boot_len (q_acons (qv .B 0) q_anil)) q_int) q_int) (q_last q_never) q_nil) (q_cons (@q_dnewS _ _ _ _ _ 2 _ _ _ scread_counts.nd rfl (by trivial) (by rfl) (by trivial)) (q_cons (q_for PassesOwn.never rfl (q_zipU (by rfl) (bl Y).zip_ (q_acons (q_VU (q_FV (@q_st2 _ _ _ _ _ _ false _ _ _ _ _ (qv .B 0) q_pN (q_pS q_int) (by rfl)))) (q_acons (q_VU (q_FV (@q_st2 _ _ _ _ _ _ false _ _ _ _ _ (qv .B 0) (q_pS q_int) (q_pS q_int) (by rfl)))) q_anil))) (@pg_tupK _ (hk w) _ _ _ _ 2 rfl (pgs_cons (@pg_name _ _ 3 _ scread_counts.nd rfl (by trivial) (by trivial)) (pgs_cons (@pg_name _ _ 4 _ scread_counts.nd rfl (by trivial) (by trivial)) pgs_nil)) (by rfl) (by rfl) (by rfl)) (gt_tup (.inr rfl) (gts_cons (.inr rfl) gt_U (gts_cons (.inr rfl) gt_U gts_nil))) (q_cons (q_if_ (PW.pt (q_tor (@q_dnotinS _ _ _ _ _ _ 1 _ _ (hu64 hr) rfl (by trivial) (qv .B 4) (by decide) (by decide) (by rfl)) (q_tor1 (@q_dinS _ _ _ _ _ _ 2 _ _ (hu64 hr) rfl (by trivial) (qv .B 4) (by decide) (by decide) (by rfl))))) (q_last q_never) q_nil) (q_last (@q_dputS _ _ _ _ _ _ _ _ _ 2 _ _ _ (hu64 hr) rfl (by trivial) (qv .B 4) (q_FV (qcD (okread_count Y) (dread_count Y) (q_acons (qv .B 3) (q_aint q_anil)))) (by decide) (by decide) (by rfl))))) (q_last (q_ret (q_ct K_tup (b_tup (c:=true)) (by rfl) (bl Y).tuple_ bt_tuple (q_acons (q_FC (q_compn (show CompScope (defScope (top 14)) _ ["words", "begin", "counts", "number", "name"] ["words", "begin", "counts", "number", "#name", "name"] from by trivial) rfl (@q_iDic _ _ _ _ _ 1 _ _ rfl (by trivial) (by decide) (by decide)) (fun _ _ _ _=>(@pg_name _ _ 5 _ (by decide +kernel:(["words", "begin", "counts", "number", "#name", "name"]:List Str).Nodup) rfl (Or.inl rfl) (.inr rfl))) gt_U (gk_name (show 5<=5 by decide)) (fun _ _ _ _=>q_pifN) (fun _ _ _ _=>(@q_getS _ _ _ _ _ _ _ 2 _ _ _ _ rfl (by trivial) (qv .B 5) q_int (by rfl) (by decide) (by decide) (by rfl) (by rfl) (by rfl) (by rfl) (by rfl) (by rfl))))) q_anil)))))))
theorem dread_move:Def (hk w) mg "read_move" (top 12) ["words", "begin", "moves"] 60 (FD "read_move" 12 hxM1 59):=dk Y (by kernel_rfl) fun _ _ _ _ _ _=>us3 fun _ _ _=>rfl
theorem okread_move:FnOk P w (hk w) mg base CX0 5 60 (FD "read_move" 12 hxM1 59) ["words", "begin", "moves"] (spP (hk w) 3 f_read_move):=
 okP (dread_move Y) scread_move rfl rfl fun hr=>(@q_consP _ _ _ .F _ _ _ _ (q_setF (i:=3) scread_move.nd rfl (by trivial) (qcD (okplace_of_puts Y) (dplace_of_puts Y) (q_acons (qv .B 0) q_anil)) (by rfl) (by trivial)) (@q_consP _ _ _ .F _ _ _ _ (q_if_ (PW.pt (q_tor (q_tcmp (op_neD (hu64 hr)) (o2_eqD (neg:=true)) (q_CB (q_FC (@q_sl _ _ _ _ _ _ false _ _ _ _ _ (qv .B 0) (q_pS q_int) (q_pS q_int) (by rfl)))) (q_CB (q_FC (q_lst (q_acons q_str q_anil))))) (q_tor1 (q_tcmp op_isN o2_isN (qv .B 3) q_non)))) (q_last q_never) q_nil) (@q_consP _ _ _ .F _ _ _ _ (@q_expr _ _ _ _ _ _ _ _ (qcD (okmust_be_new_name Y) (dmust_be_new_name Y) (q_acons (q_UB (q_ixU (qv .B 0) q_int)) (q_acons (qv .B 2) q_anil))) (by rfl)) (q_lastP (@q_putP _ _ _ _ _ _ _ _ 2 _ _ _ (hu64 hr) rfl (by trivial) (q_UB (q_ixU (qv .B 0) q_int)) (q_FV (q_tup (q_acons (q_FV (qcD (okread_counts Y) (dread_counts Y) (q_acons (q_CB (q_FC (@q_sl _ _ _ _ _ _ false _ _ _ _ _ (qv .B 0) (q_pS q_int) (q_pS (qv .B 3)) (by rfl)))) (q_acons (qv .B 1) q_anil)))) (q_acons (q_FV (qcD (okread_counts Y) (dread_counts Y) (q_acons (q_CB (q_FC (@q_sl _ _ _ _ _ _ false _ _ _ _ _ (qv .B 0) (q_pS (q_op op_add xAdd (qv .B 3) q_int)) q_pN (by rfl)))) (q_acons (qv .B 1) q_anil)))) q_anil)))) (by decide) (by decide) (by rfl))))))
theorem dread_place:Def (hk w) mg "read_place" (top 11) ["words", "begin"] 53 (FD "read_place" 11 hxM1 52):=dk Y (by kernel_rfl) fun _ _ _ _ _ _=>us2 fun _ _=>rfl
theorem okread_place:FnOk P w (hk w) mg base CX0 4 53 (FD "read_place" 11 hxM1 52) ["words", "begin"] (spP (hk w) 2 f_read_place):=
 okP (dread_place Y) scread_place rfl rfl fun hr=>(@q_consP _ _ _ .F _ _ _ _ (q_if_ (q_tcmp op_ne o2_neS (q_cb K_len b_len (by rfl) (bl Y).len_ PySem.boot_len (q_acons (qv .B 0) q_anil)) q_int) (q_last q_never) q_nil) (@q_consP _ _ _ .F _ _ _ _ (@q_expr _ _ _ _ _ _ _ _ (qcD (okmust_be_new_name Y) (dmust_be_new_name Y) (q_acons (q_UB (q_ixU (qv .B 0) q_int)) (q_acons (qv .B 1) q_anil))) (by rfl)) (q_lastP (@q_putP _ _ _ _ _ _ _ _ 1 _ _ _ (hu64 hr) rfl (by trivial) (q_UB (q_ixU (qv .B 0) q_int)) (q_FV (qcD (okread_count Y) (dread_count Y) (q_acons (q_UB (q_ixU (qv .B 0) q_int)) (q_aint q_anil)))) (by decide) (by decide) (by rfl)))))
theorem dread:Def (hk w) mg "read" (top 10) ["text"] 46 (FD "read" 10 hxM1 45):=dk Y (by kernel_rfl) fun _ _ _ _ _ _=>us1 fun _=>rfl
theorem okread:FnOk P w (hk w) mg base CX0 6 46 (FD "read" 10 hxM1 45) ["text"] (spM (hk w) 1 .V f_read):=by
 obtain ⟨tkMOST_PLACES,hcMOST_PLACES⟩:=(cs Y).MOST_PLACES
 obtain ⟨tkMOST_MOVES,hcMOST_MOVES⟩:=(cs Y).MOST_MOVES
 exact okF (dread Y) scread (.inr rfl) rfl rfl fun hr=>(q_cons (q_if_ (q_tnot (q_val (q_cb call_isi b_isi (by rfl) (bl Y).isinstance_ PyProof.Rows.boot_isinstance (q_acons (qv .B 0) (q_acons (@q_ty _ _ _ _ _ _ _ (by rfl) (bl Y).str_ bt_str (by decide) (by decide)) q_anil))))) (q_last q_never) q_nil) (q_cons (@q_dnewS _ _ _ _ _ 1 _ _ _ scread.nd rfl (by trivial) (by rfl) (by trivial)) (q_cons (@q_dnewS _ _ _ _ _ 2 _ _ _ scread.nd rfl (by trivial) (by rfl) (by trivial)) (q_cons (q_for PassesOwn.never rfl (q_iSqU (q_VU (q_FV (@q_split _ _ _ _ _ _ _ _ _ (qv .B 0) q_str (by rfl) (by rfl) (by rfl) (by rfl) (by rfl) (by rfl))))) (@pg_name _ _ 3 _ scread.nd rfl (by trivial) (by trivial)) gt_U (q_cons (q_setF (i:=4) scread.nd rfl (by trivial) (@q_split _ _ _ _ _ _ _ _ _ (qv .B 3) q_str (by rfl) (by rfl) (by rfl) (by rfl) (by rfl) (by rfl)) (by rfl) (by trivial)) (q_last (q_if_ (q_tcmp op_eq o2_eqS (q_UB (q_ixU (qv .B 4) q_int)) q_str) (q_last (@q_callP3 _ _ _ _ _ 1 2 _ _ _ _ _ _ _ _ _ _ _ _ _ _ rfl (by trivial) rfl (by trivial) (okread_move Y) (by trivial) (by rfl) (dread_move Y).m (dread_move Y).F.kp (dread_move Y).b (qv .B 4) (by decide) (by decide) (by decide) (by decide) (by decide) (by rfl) (by rfl) (by rfl) (by rfl) (by rfl))) (q_last (q_if_ (PW.pt (q_tand (q_tcmp op_eq o2_eqS (q_UB (q_ixU (qv .B 4) q_int)) q_str) (q_tand1 (q_tcmp op_eq o2_eqS (@q_lenS _ _ _ _ _ 2 _ _ _ (by rfl) (bl Y).len_ rfl (by trivial) (by decide) (by decide) (by rfl) (by rfl)) q_int)))) (q_last (@q_callP2 _ _ _ _ _ 1 _ _ _ _ _ _ _ _ _ _ _ _ rfl (by trivial) (okread_place Y) (by trivial) (by rfl) (dread_place Y).m (dread_place Y).F.kp (dread_place Y).b (qv .B 4) (by decide) (by decide) (by decide) (by rfl) (by rfl) (by rfl) (by rfl))) (q_last q_never))))))) (q_cons (q_if_ (PW.pt (q_tor (q_tnot (@q_tchain _ _ _ _ _ _ _ _ _ _ _ _ _ _ _ _ _ op_le xLe op_le xLe q_int (@q_lenS _ _ _ _ _ 1 _ _ _ (by rfl) (bl Y).len_ rfl (by trivial) (by decide) (by decide) (by rfl) (by rfl)) (@q_globI _ _ _ _ _ _ _ _ rfl hcMOST_PLACES (by decide)) (by with_unfolding_all rfl))) (q_tor1 (q_tcmp op_gt xGt (@q_lenS _ _ _ _ _ 2 _ _ _ (by rfl) (bl Y).len_ rfl (by trivial) (by decide) (by decide) (by rfl) (by rfl)) (@q_globI _ _ _ _ _ _ _ _ rfl hcMOST_MOVES (by decide)))))) (q_last q_never) q_nil) (q_cons (q_setF (i:=5) scread.nd rfl (by trivial) (q_tup (q_acons (q_FV (@q_valsS _ _ _ _ 1 _ _ _ _ _ rfl (by rfl) (bl Y).tuple_ rfl (by trivial) (by decide) (by decide) (by rfl) (by rfl) (by rfl))) (q_acons (q_FV (@q_valsS _ _ _ _ 2 _ _ _ _ _ rfl (by rfl) (bl Y).tuple_ rfl (by trivial) (by decide) (by decide) (by rfl) (by rfl) (by rfl))) q_anil))) (by rfl) (by trivial)) (q_last (q_ret (q_FV (q_tup (q_acons (qv .V 5) (q_acons (q_FV (@q_keysS _ _ _ _ 1 _ _ _ rfl (by rfl) (bl Y).list_ rfl (by trivial) (by decide) (by decide) (by rfl) (by rfl))) (q_acons (q_FV (@q_keysS _ _ _ _ 2 _ _ _ rfl (by rfl) (bl Y).list_ rfl (by trivial) (by decide) (by decide) (by rfl) (by rfl))) q_anil)))))))))))))
theorem dshown_counts:Def (hk w) mg "shown_counts" (top 20) ["counts", "places"] 108 (FD "shown_counts" 20 hxM1 107):=dk Y (by kernel_rfl) fun _ _ _ _ _ _=>us2 fun _ _=>rfl
theorem okshown_counts:FnOk P w (hk w) mg base CX0 1 108 (FD "shown_counts" 20 hxM1 107) ["counts", "places"] (spM (hk w) 2 .F f_shown_counts):=
 okF (dshown_counts Y) scshown_counts (.inl rfl) rfl rfl fun hr=>(q_last (q_ret (q_compn (show CompScope (defScope (top 20)) _ ["counts", "places"] ["counts", "places", "name", "count"] from by trivial) rfl (q_zipB (by rfl) (bl Y).zip_ (q_acons (qv .B 1) (q_acons (qv .B 0) q_anil))) (fun _ _ _ _=>(@pg_tupK _ (hk w) _ _ _ _ 2 rfl (pgs_cons (@pg_name _ _ 2 _ (by decide +kernel:(["counts", "places", "name", "count"]:List Str).Nodup) rfl (Or.inl rfl) (.inr rfl)) (pgs_cons (@pg_name _ _ 3 _ (by decide +kernel:(["counts", "places", "name", "count"]:List Str).Nodup) rfl (Or.inl rfl) (.inr rfl)) pgs_nil)) (by rfl) (by rfl) (by rfl))) (gt_tup (.inr rfl) (gts_cons (.inr rfl) gt_U (gts_cons (.inr rfl) gt_U gts_nil))) (gk_tup (gk_cons (show 2<=2 by decide) (gk_cons (show 2<=3 by decide) gk_nil))) (fun _ _ _ _=>(q_pif1 (q_tcmp op_gt xGt (qv .B 3) q_int))) (fun _ _ _ _=>(q_fp (QPts.val (qv .B 3) (QPts.str (by decide) (QPts.val (qv .B 2) QPts.nil))))))))
theorem dshown:Def (hk w) mg "shown" (top 19) ["moor", "places", "moves"] 103 (FD "shown" 19 hxM1 102):=dk Y (by kernel_rfl) fun _ _ _ _ _ _=>us3 fun _ _ _=>rfl
theorem okshown:FnOk P w (hk w) mg base CX0 2 103 (FD "shown" 19 hxM1 102) ["moor", "places", "moves"] (spM (hk w) 3 .F f_shown):=
 okF (dshown Y) scshown (.inl rfl) rfl rfl fun hr=>(q_cons (q_setcn (i:=3) (show CompScope (defScope (top 19)) _ ["moor", "places", "moves", "parts", "name", "move", "words"] ["moor", "places", "moves", "parts", "#name", "move", "words", "name", "count"] from by trivial) rfl (q_zipB (by rfl) (bl Y).zip_ (q_acons (qv .B 1) (q_acons (q_UB (q_ixU (qv .B 0) q_int)) q_anil))) (fun _ _ _ _=>(@pg_tupK _ (hk w) _ _ _ _ 2 rfl (pgs_cons (@pg_name _ _ 7 _ (by decide +kernel:(["moor", "places", "moves", "parts", "#name", "move", "words", "name", "count"]:List Str).Nodup) rfl (Or.inl rfl) (.inr rfl)) (pgs_cons (@pg_name _ _ 8 _ (by decide +kernel:(["moor", "places", "moves", "parts", "#name", "move", "words", "name", "count"]:List Str).Nodup) rfl (Or.inl rfl) (.inr rfl)) pgs_nil)) (by rfl) (by rfl) (by rfl))) (gt_tup (.inr rfl) (gts_cons (.inr rfl) gt_U (gts_cons (.inr rfl) gt_U gts_nil))) (gk_tup (gk_cons (show 7<=7 by decide) (gk_cons (show 7<=8 by decide) gk_nil))) (fun _ _ _ _=>q_pifN) (fun _ _ _ _=>(q_fp (QPts.str (by decide) (QPts.val (qv .B 7) (QPts.str (by decide) (QPts.val (qv .B 8) QPts.nil)))))) scshown.nd rfl (by trivial)) (q_cons (q_for PassesOwn.never rfl (q_zipU (by rfl) (bl Y).zip_ (q_acons (qv .U 2) (q_acons (q_ixU (qv .B 0) q_int) q_anil))) (@pg_tupK _ (hk w) _ _ _ _ 2 rfl (pgs_cons (@pg_name _ _ 4 _ scshown.nd rfl (by trivial) (by trivial)) (pgs_cons (@pg_name _ _ 5 _ scshown.nd rfl (by trivial) (by trivial)) pgs_nil)) (by rfl) (by rfl) (by rfl)) (gt_tup (.inr rfl) (gts_cons (.inr rfl) gt_U (gts_cons (.inr rfl) gt_U gts_nil))) (q_cons (q_setF (i:=6) scshown.nd rfl (by trivial) (q_op op_cat (o2_cat (c:=true)) (q_FC (q_op op_cat (o2_cat (c:=true)) (q_FC (q_op op_cat (o2_cat (c:=true)) (q_FC (q_lst (q_acons q_str (q_acons (qv .V 4) (q_acons q_str q_anil))))) (q_FC (qcD (okshown_counts Y) (dshown_counts Y) (q_acons (q_UB (q_ixU (qv .B 5) q_int)) (q_acons (qv .B 1) q_anil)))))) (q_FC (q_lst (q_acons q_str q_anil))))) (q_FC (qcD (okshown_counts Y) (dshown_counts Y) (q_acons (q_UB (q_ixU (qv .B 5) q_int)) (q_acons (qv .B 1) q_anil))))) (by rfl) (by trivial)) (q_last (@q_app _ _ _ _ _ _ _ 3 _ _ _ _ rfl (by trivial) (@q_join _ _ _ _ _ _ _ _ _ _ q_str (qv .B 6) (by rfl) (by rfl) (by rfl) (by rfl) (by rfl) (by rfl)) (by decide) (by decide) (by rfl) (by rfl) (by rfl) (by rfl) (by rfl))))) (q_last (q_ret (@q_join _ _ _ _ _ _ _ _ _ _ q_str (qv .B 3) (by rfl) (by rfl) (by rfl) (by rfl) (by rfl) (by rfl))))))
theorem d_law_cell:Def (hk w) mg "_law_cell" (top 22) ["_law_script", "_law_k"] 115 (FD "_law_cell" 22 hxM0 114):=dk Y (by kernel_rfl) fun _ _ _ _ _ _=>us2 fun _ _=>rfl
theorem ok_law_cell:FnOk P w (hk w) mg base CX0 1 115 (FD "_law_cell" 22 hxM0 114) ["_law_script", "_law_k"] (spM (hk w) 2 .F f__law_cell):=
 okF (d_law_cell Y) sc_law_cell (.inl rfl) rfl rfl fun hr=>(q_cons (q_if_ (q_tcmp op_lt xLt (qv .B 1) (q_cb K_len b_len (by rfl) (bl Y).len_ PySem.boot_len (q_acons (qv .B 0) q_anil))) (q_last (q_ret (q_chkF (q_ixU (qv .B 0) (qv .B 1))))) q_nil) (q_cons (q_setV (i:=2) sc_law_cell.nd rfl (by trivial) (q_op op_add xAdd (q_op op_mulB (o2_I (C:=CMulB) (g:=gMul) (fun _ _=>rfl) (fun _ _ _=>.int)) q_int (qv .B 1)) q_int) (by rfl) (by trivial)) (q_cons (q_if_ (q_tcmp op_gt xGt (q_cb K_len b_len (by rfl) (bl Y).len_ PySem.boot_len (q_acons (qv .B 0) q_anil)) q_int) (q_last (q_setV (i:=2) sc_law_cell.nd rfl (by trivial) (q_op op_add xAdd (q_op op_add xAdd (q_op op_mulB (o2_I (C:=CMulB) (g:=gMul) (fun _ _=>rfl) (fun _ _ _=>.int)) (q_UB (q_ixU (qv .B 0) (q_op op_mod (o2_I (C:=cMod) (g:=gMod) (fun _ _=>rfl) (fun _ _ _=>.int)) (q_op op_mulB (o2_I (C:=CMulB) (g:=gMul) (fun _ _=>rfl) (fun _ _ _=>.int)) (qv .B 1) q_int) (q_cb K_len b_len (by rfl) (bl Y).len_ PySem.boot_len (q_acons (qv .B 0) q_anil))))) q_int) (q_op op_mulB (o2_I (C:=CMulB) (g:=gMul) (fun _ _=>rfl) (fun _ _ _=>.int)) (q_op op_mulB (o2_I (C:=CMulB) (g:=gMul) (fun _ _=>rfl) (fun _ _ _=>.int)) (qv .B 1) (qv .B 1)) q_int)) q_int) (by rfl) (by trivial))) q_nil) (q_last (q_ret (q_op op_mod (o2_I (C:=cMod) (g:=gMod) (fun _ _=>rfl) (fun _ _ _=>.int)) (q_op op_mulB (o2_I (C:=CMulB) (g:=gMul) (fun _ _=>rfl) (fun _ _ _=>.int)) (qv .B 2) (qv .B 2)) q_int))))))
theorem d_law_count:Def (hk w) mg "_law_count" (top 23) ["_law_cell_here"] 122 (FD "_law_count" 23 hxM0 121):=dk Y (by kernel_rfl) fun _ _ _ _ _ _=>us1 fun _=>rfl
theorem ok_law_count:FnOk P w (hk w) mg base CX0 1 122 (FD "_law_count" 23 hxM0 121) ["_law_cell_here"] (spM (hk w) 1 .F f__law_count):=
 okF (d_law_count Y) sc_law_count (.inl rfl) rfl rfl fun hr=>(q_cons (q_if_ (q_tcmp op_eq o2_eqS (q_op op_mod (o2_I (C:=cMod) (g:=gMod) (fun _ _=>rfl) (fun _ _ _=>.int)) (qv .B 0) q_int) q_int) (q_last (q_ret q_int)) q_nil) (q_cons (q_if_ (q_tcmp op_eq o2_eqS (q_op op_mod (o2_I (C:=cMod) (g:=gMod) (fun _ _=>rfl) (fun _ _ _=>.int)) (q_op op_fdiv (o2_I (C:=CDiv) (g:=gDiv) (fun _ _=>rfl) (fun _ _ _=>.int)) (qv .B 0) q_int) q_int) q_int) (q_last (q_ret (q_op op_mod (o2_I (C:=cMod) (g:=gMod) (fun _ _=>rfl) (fun _ _ _=>.int)) (q_op op_mulB (o2_I (C:=CMulB) (g:=gMul) (fun _ _=>rfl) (fun _ _ _=>.int)) (q_op op_fdiv (o2_I (C:=CDiv) (g:=gDiv) (fun _ _=>rfl) (fun _ _ _=>.int)) (qv .B 0) q_int) q_int) (q_op op_add xAdd (q_op op_pow (o2_I (C:=CPow) (g:=gPow) (fun _ _=>rfl) (fun _ _ _=>.int)) q_int q_int) q_int)))) q_nil) (q_last (q_ret (q_op op_add xAdd q_int (q_op op_mod (o2_I (C:=cMod) (g:=gMod) (fun _ _=>rfl) (fun _ _ _=>.int)) (q_op op_fdiv (o2_I (C:=CDiv) (g:=gDiv) (fun _ _=>rfl) (fun _ _ _=>.int)) (qv .B 0) q_int) q_int))))))
theorem d_law_letters:Def (hk w) mg "_law_letters" (top 24) ["_law_number", "_law_size"] 129 (FD "_law_letters" 24 hxM0 128):=dk Y (by kernel_rfl) fun _ _ _ _ _ _=>us2 fun _ _=>rfl
theorem ok_law_letters:FnOk P w (hk w) mg base CX0 1 129 (FD "_law_letters" 24 hxM0 128) ["_law_number", "_law_size"] (spM (hk w) 2 .F f__law_letters):=
 okF (d_law_letters Y) sc_law_letters (.inl rfl) rfl rfl fun hr=>(q_cons (q_setV (i:=2) sc_law_letters.nd rfl (by trivial) q_str (by rfl) (by trivial)) (q_cons (q_for PassesOwn.never rfl (q_rng1 (by rfl) (bl Y).range_ (q_acons (qv .B 1) q_anil)) (@pg_name _ _ 3 _ sc_law_letters.nd rfl (by trivial) (by trivial)) gt_U (q_cons (q_setV (i:=2) sc_law_letters.nd rfl (by trivial) (q_op op_add_str o2_catS (qv .B 2) (@q_ixS _ _ _ _ _ _ _ _ _ q_str (q_op op_mod (o2_I (C:=cMod) (g:=gMod) (fun _ _=>rfl) (fun _ _ _=>.int)) (qv .B 0) q_int) (by exact fun _ _=>rfl))) (by rfl) (by trivial)) (q_last (q_setV (i:=0) sc_law_letters.nd rfl (by trivial) (q_op op_fdiv (o2_I (C:=CDiv) (g:=gDiv) (fun _ _=>rfl) (fun _ _ _=>.int)) (qv .B 0) q_int) (by rfl) (by trivial))))) (q_last (@q_retv _ _ _ _ _ 2 _ _ (.inl rfl) (by rfl) (by trivial) (by decide) (by decide)))))
theorem d_law_name:Def (hk w) mg "_law_name" (top 25) ["_law_cell_here"] 136 (FD "_law_name" 25 hxM0 135):=dk Y (by kernel_rfl) fun _ _ _ _ _ _=>us1 fun _=>rfl
theorem ok_law_name:FnOk P w (hk w) mg base CX0 2 136 (FD "_law_name" 25 hxM0 135) ["_law_cell_here"] (spM (hk w) 1 .F f__law_name):=
 okF (d_law_name Y) sc_law_name (.inl rfl) rfl rfl fun hr=>(q_cons (q_if_ (q_tcmp op_eq o2_eqS (q_op op_mod (o2_I (C:=cMod) (g:=gMod) (fun _ _=>rfl) (fun _ _ _=>.int)) (qv .B 0) q_int) q_int) (q_last (q_ret (q_chkF (q_VU (q_ixV (q_FC (q_lst (q_acons q_str (q_acons q_str (q_acons q_str (q_acons q_str (q_acons q_str (q_acons q_str (q_acons q_str (q_acons q_str q_anil)))))))))) (q_op op_mod (o2_I (C:=cMod) (g:=gMod) (fun _ _=>rfl) (fun _ _ _=>.int)) (q_op op_fdiv (o2_I (C:=CDiv) (g:=gDiv) (fun _ _=>rfl) (fun _ _ _=>.int)) (qv .B 0) q_int) q_int)))))) q_nil) (q_last (q_ret (qcD (ok_law_letters Y) (d_law_letters Y) (q_acons (q_op op_mod (o2_I (C:=cMod) (g:=gMod) (fun _ _=>rfl) (fun _ _ _=>.int)) (q_op op_mulB (o2_I (C:=CMulB) (g:=gMul) (fun _ _=>rfl) (fun _ _ _=>.int)) (q_op op_fdiv (o2_I (C:=CDiv) (g:=gDiv) (fun _ _=>rfl) (fun _ _ _=>.int)) (qv .B 0) q_int) q_int) q_int) (q_acons (q_op op_add xAdd q_int (q_op op_mod (o2_I (C:=cMod) (g:=gMod) (fun _ _=>rfl) (fun _ _ _=>.int)) (q_op op_fdiv (o2_I (C:=CDiv) (g:=gDiv) (fun _ _=>rfl) (fun _ _ _=>.int)) (qv .B 0) q_int) q_int)) q_anil))))))
theorem d_law_names:Def (hk w) mg "_law_names" (top 26) ["_law_script", "_law_at", "_law_many"] 143 (FD "_law_names" 26 hxM0 142):=dk Y (by kernel_rfl) fun _ _ _ _ _ _=>us3 fun _ _ _=>rfl
theorem ok_law_names:FnOk P w (hk w) mg base CX0 3 143 (FD "_law_names" 26 hxM0 142) ["_law_script", "_law_at", "_law_many"] (spM (hk w) 3 .F f__law_names):=
 okF (d_law_names Y) sc_law_names (.inl rfl) rfl rfl fun hr=>(q_cons (q_setF (i:=3) sc_law_names.nd rfl (by trivial) (q_lst q_anil) (by rfl) (by trivial)) (q_cons (q_for PassesOwn.never rfl (q_rng1 (by rfl) (bl Y).range_ (q_acons (qv .B 2) q_anil)) (@pg_name _ _ 4 _ sc_law_names.nd rfl (by trivial) (by trivial)) gt_U (q_cons (q_setV (i:=5) sc_law_names.nd rfl (by trivial) (q_op op_mod (o2_I (C:=cMod) (g:=gMod) (fun _ _=>rfl) (fun _ _ _=>.int)) (q_CB (q_FC (qcD (ok_law_cell Y) (d_law_cell Y) (q_acons (qv .B 0) (q_acons (q_op op_add xAdd (qv .B 1) (qv .B 4)) q_anil))))) (q_op op_pow (o2_I (C:=CPow) (g:=gPow) (fun _ _=>rfl) (fun _ _ _=>.int)) q_int q_int)) (by rfl) (by trivial)) (q_cons (q_while PassesOwn.never (q_tcmp (op_in (hu64 hr)) (o2_in (neg:=false)) (q_CB (q_FC (qcD (ok_law_name Y) (d_law_name Y) (q_acons (qv .B 5) q_anil)))) (qv .B 3)) (q_last (q_setV (i:=5) sc_law_names.nd rfl (by trivial) (q_op op_add xAdd (qv .B 5) q_int) (by rfl) (by trivial)))) (q_last (@q_app _ _ _ _ _ _ _ 3 _ _ _ _ rfl (by trivial) (q_FV (qcD (ok_law_name Y) (d_law_name Y) (q_acons (qv .B 5) q_anil))) (by decide) (by decide) (by rfl) (by rfl) (by rfl) (by rfl) (by rfl)))))) (q_last (@q_retv _ _ _ _ _ 3 _ _ (.inl rfl) (by rfl) (by trivial) (by decide) (by decide)))))
theorem d_law_alike_names:Def (hk w) mg "_law_alike_names" (top 27) ["_law_cell_here", "_law_many"] 150 (FD "_law_alike_names" 27 hxM0 149):=dk Y (by kernel_rfl) fun _ _ _ _ _ _=>us2 fun _ _=>rfl
theorem ok_law_alike_names:FnOk P w (hk w) mg base CX0 2 150 (FD "_law_alike_names" 27 hxM0 149) ["_law_cell_here", "_law_many"] (spM (hk w) 2 .F f__law_alike_names):=
 okF (d_law_alike_names Y) sc_law_alike_names (.inl rfl) rfl rfl fun hr=>(q_cons (q_setV (i:=2) sc_law_alike_names.nd rfl (by trivial) (q_op op_add xAdd q_int (q_op op_mod (o2_I (C:=cMod) (g:=gMod) (fun _ _=>rfl) (fun _ _ _=>.int)) (qv .B 0) q_int)) (by rfl) (by trivial)) (q_cons (q_setF (i:=3) sc_law_alike_names.nd rfl (by trivial) (qcD (ok_law_letters Y) (d_law_letters Y) (q_acons (q_op op_mod (o2_I (C:=cMod) (g:=gMod) (fun _ _=>rfl) (fun _ _ _=>.int)) (q_op op_fdiv (o2_I (C:=CDiv) (g:=gDiv) (fun _ _=>rfl) (fun _ _ _=>.int)) (qv .B 0) q_int) (q_op op_pow (o2_I (C:=CPow) (g:=gPow) (fun _ _=>rfl) (fun _ _ _=>.int)) q_int q_int)) (q_acons (qv .B 2) q_anil))) (by rfl) (by trivial)) (q_cons (q_setV (i:=4) sc_law_alike_names.nd rfl (by trivial) (q_op op_mod (o2_I (C:=cMod) (g:=gMod) (fun _ _=>rfl) (fun _ _ _=>.int)) (q_op op_fdiv (o2_I (C:=CDiv) (g:=gDiv) (fun _ _=>rfl) (fun _ _ _=>.int)) (qv .B 0) q_int) (qv .B 2)) (by rfl) (by trivial)) (q_cons (q_setF (i:=5) sc_law_alike_names.nd rfl (by trivial) (q_lst q_anil) (by rfl) (by trivial)) (q_cons (q_for PassesOwn.never rfl (q_rng1 (by rfl) (bl Y).range_ (q_acons (qv .B 1) q_anil)) (@pg_name _ _ 6 _ sc_law_alike_names.nd rfl (by trivial) (by trivial)) gt_U (q_cons (q_setV (i:=7) sc_law_alike_names.nd rfl (by trivial) (@q_ixS _ _ _ _ _ _ _ _ _ q_str (q_op op_mod (o2_I (C:=cMod) (g:=gMod) (fun _ _=>rfl) (fun _ _ _=>.int)) (q_op op_add xAdd (q_op op_fdiv (o2_I (C:=CDiv) (g:=gDiv) (fun _ _=>rfl) (fun _ _ _=>.int)) (qv .B 0) q_int) (q_op op_mulB (o2_I (C:=CMulB) (g:=gMul) (fun _ _=>rfl) (fun _ _ _=>.int)) q_int (qv .B 6))) q_int) (by exact fun _ _=>rfl)) (by rfl) (by trivial)) (q_last (@q_app _ _ _ _ _ _ _ 5 _ _ _ _ rfl (by trivial) (q_op op_add_str o2_catS (q_op op_add_str o2_catS (q_slS (qv .B 3) q_pN (q_pS (qv .B 4))) (qv .B 7)) (q_slS (qv .B 3) (q_pS (q_op op_add xAdd (qv .B 4) q_int)) q_pN)) (by decide) (by decide) (by rfl) (by rfl) (by rfl) (by rfl) (by rfl))))) (q_last (@q_retv _ _ _ _ _ 5 _ _ (.inl rfl) (by rfl) (by trivial) (by decide) (by decide))))))))
theorem d_law_told:Def (hk w) mg "_law_told" (top 28) ["_law_counts", "_law_places", "_law_turn"] 157 (FD "_law_told" 28 hxM0 156):=dk Y (by kernel_rfl) fun _ _ _ _ _ _=>us3 fun _ _ _=>rfl
theorem ok_law_told:FnOk P w (hk w) mg base CX0 1 157 (FD "_law_told" 28 hxM0 156) ["_law_counts", "_law_places", "_law_turn"] (spM (hk w) 3 .F f__law_told):=
 okF (d_law_told Y) sc_law_told (.inl rfl) rfl rfl fun hr=>(q_cons (q_setF (i:=3) sc_law_told.nd rfl (by trivial) (q_lst q_anil) (by rfl) (by trivial)) (q_cons (q_for PassesOwn.never rfl (q_rng1 (by rfl) (bl Y).range_ (q_acons (q_cb K_len b_len (by rfl) (bl Y).len_ PySem.boot_len (q_acons (qv .B 1) q_anil)) q_anil)) (@pg_name _ _ 4 _ sc_law_told.nd rfl (by trivial) (by trivial)) gt_U (q_cons (q_setV (i:=5) sc_law_told.nd rfl (by trivial) (q_op op_mod (o2_I (C:=cMod) (g:=gMod) (fun _ _=>rfl) (fun _ _ _=>.int)) (q_op op_add xAdd (qv .B 4) (qv .B 2)) (q_cb K_len b_len (by rfl) (bl Y).len_ PySem.boot_len (q_acons (qv .B 1) q_anil))) (by rfl) (by trivial)) (q_last (q_if_ (q_tcmp op_gt xGt (q_UB (q_ixU (qv .B 0) (qv .B 5))) q_int) (q_last (@q_app _ _ _ _ _ _ _ 3 _ _ _ _ rfl (by trivial) (q_op op_add_str o2_catS (q_op op_add_str o2_catS (q_op op_add_str o2_catS q_str (q_ct call_str_int b_str (by rfl) (bl Y).str_ bt_str (q_acons (q_UB (q_ixU (qv .B 0) (qv .B 5))) q_anil))) q_str) (q_UB (q_ixU (qv .B 1) (qv .B 5)))) (by decide) (by decide) (by rfl) (by rfl) (by rfl) (by rfl) (by rfl))) q_nil)))) (q_last (q_ret (@q_join _ _ _ _ _ _ _ _ _ _ q_str (qv .B 3) (by rfl) (by rfl) (by rfl) (by rfl) (by rfl) (by rfl))))))
theorem d_law_text:Def (hk w) mg "_law_text" (top 29) ["_law_begin", "_law_moves", "_law_places", "_law_names_here", "_law_turn"] 162 (FD "_law_text" 29 hxM0 161):=dk Y (by kernel_rfl) fun _ _ _ _ _ _=>us5 fun _ _ _ _ _=>rfl
theorem ok_law_text:FnOk P w (hk w) mg base CX0 2 162 (FD "_law_text" 29 hxM0 161) ["_law_begin", "_law_moves", "_law_places", "_law_names_here", "_law_turn"] (spM (hk w) 5 .F f__law_text):=
 okF (d_law_text Y) sc_law_text (.inl rfl) rfl rfl fun hr=>(q_cons (q_setcn (i:=5) (show CompScope (defScope (top 29)) _ ["_law_begin", "_law_moves", "_law_places", "_law_names_here", "_law_turn", "_law_parts", "_law_k", "_law_takes", "_law_puts"] ["_law_begin", "_law_moves", "_law_places", "_law_names_here", "_law_turn", "_law_parts", "_law_k", "_law_takes", "_law_puts", "_law_p"] from by trivial) rfl (q_rng1 (by rfl) (bl Y).range_ (q_acons (q_cb K_len b_len (by rfl) (bl Y).len_ PySem.boot_len (q_acons (qv .B 2) q_anil)) q_anil)) (fun _ _ _ _=>(@pg_name _ _ 9 _ (by decide +kernel:(["_law_begin", "_law_moves", "_law_places", "_law_names_here", "_law_turn", "_law_parts", "_law_k", "_law_takes", "_law_puts", "_law_p"]:List Str).Nodup) rfl (Or.inl rfl) (.inr rfl))) gt_U (gk_name (show 9<=9 by decide)) (fun _ _ _ _=>q_pifN) (fun _ _ _ _=>(q_op op_add_str o2_catS (q_op op_add_str o2_catS (q_op op_add_str o2_catS q_str (q_UB (q_ixU (qv .B 2) (qv .B 9)))) q_str) (q_ct call_str_int b_str (by rfl) (bl Y).str_ bt_str (q_acons (q_UB (q_ixU (qv .B 0) (qv .B 9))) q_anil)))) sc_law_text.nd rfl (by trivial)) (q_cons (q_for PassesOwn.never rfl (q_rng1 (by rfl) (bl Y).range_ (q_acons (q_cb K_len b_len (by rfl) (bl Y).len_ PySem.boot_len (q_acons (qv .B 1) q_anil)) q_anil)) (@pg_name _ _ 6 _ sc_law_text.nd rfl (by trivial) (by trivial)) gt_U (q_cons (q_setF (i:=7) sc_law_text.nd rfl (by trivial) (qcD (ok_law_told Y) (d_law_told Y) (q_acons (q_UB (q_ixU (q_UB (q_ixU (qv .B 1) (qv .B 6))) q_int)) (q_acons (qv .B 2) (q_acons (qv .B 4) q_anil)))) (by rfl) (by trivial)) (q_cons (q_setF (i:=8) sc_law_text.nd rfl (by trivial) (qcD (ok_law_told Y) (d_law_told Y) (q_acons (q_UB (q_ixU (q_UB (q_ixU (qv .B 1) (qv .B 6))) q_int)) (q_acons (qv .B 2) (q_acons (q_op op_mulB (o2_I (C:=CMulB) (g:=gMul) (fun _ _=>rfl) (fun _ _ _=>.int)) q_int (qv .B 4)) q_anil)))) (by rfl) (by trivial)) (q_last (@q_app _ _ _ _ _ _ _ 5 _ _ _ _ rfl (by trivial) (q_op op_add_str o2_catS (q_op op_add_str o2_catS (q_op op_add_str o2_catS (q_op op_add_str o2_catS (q_op op_add_str o2_catS q_str (q_UB (q_ixU (qv .B 3) (qv .B 6)))) q_str) (qv .B 7)) q_str) (qv .B 8)) (by decide) (by decide) (by rfl) (by rfl) (by rfl) (by rfl) (by rfl)))))) (q_last (q_ret (@q_join _ _ _ _ _ _ _ _ _ _ q_str (qv .B 5) (by rfl) (by rfl) (by rfl) (by rfl) (by rfl) (by rfl))))))
theorem d_law_whole_counts:Def (hk w) mg "_law_whole_counts" (top 30) ["_law_found", "_law_many"] 167 (FD "_law_whole_counts" 30 hxM0 166):=dk Y (by kernel_rfl) fun _ _ _ _ _ _=>us2 fun _ _=>rfl
theorem ok_law_whole_counts:FnOk P w (hk w) mg base CX0 1 167 (FD "_law_whole_counts" 30 hxM0 166) ["_law_found", "_law_many"] (spM (hk w) 2 .F f__law_whole_counts):=
 okF (d_law_whole_counts Y) sc_law_whole_counts (.inl rfl) rfl rfl fun hr=>(q_cons (q_if_ (PW.pt (q_tor (q_tnot (q_val (q_cb call_isi b_isi (by rfl) (bl Y).isinstance_ PyProof.Rows.boot_isinstance (q_acons (qv .B 0) (q_acons (@q_ty _ _ _ _ _ _ _ (by rfl) (bl Y).tuple_ bt_tuple (by decide) (by decide)) q_anil))))) (q_tor1 (q_tcmp op_ne o2_neS (q_cb K_len b_len (by rfl) (bl Y).len_ PySem.boot_len (q_acons (qv .B 0) q_anil)) (qv .B 1))))) (q_last (q_ret q_bl)) q_nil) (q_last (q_ret (q_cmp op_eq o2_eqS (q_cb K_len b_len (by rfl) (bl Y).len_ PySem.boot_len (q_acons (q_CB (q_FC (q_compn (show CompScope (defScope (top 30)) _ ["_law_found", "_law_many"] ["_law_found", "_law_many", "_law_x"] from by trivial) rfl (q_iSqB (qv .B 0)) (fun _ _ _ _=>(@pg_name _ _ 2 _ (by decide +kernel:(["_law_found", "_law_many", "_law_x"]:List Str).Nodup) rfl (Or.inl rfl) (.inr rfl))) gt_U (gk_name (show 2<=2 by decide)) (fun _ _ _ _=>(q_pif1 (PW.pt (q_tor (q_tnot (q_val (q_cb call_isi b_isi (by rfl) (bl Y).isinstance_ PyProof.Rows.boot_isinstance (q_acons (qv .B 2) (q_acons (@q_ty _ _ _ _ _ _ _ (by rfl) (bl Y).int_ bt_int (by decide) (by decide)) q_anil))))) (q_tor1 (q_val (q_cb call_isi b_isi (by rfl) (bl Y).isinstance_ PyProof.Rows.boot_isinstance (q_acons (qv .B 2) (q_acons (@q_ty _ _ _ _ _ _ _ (by rfl) (bl Y).bool_ bt_bool (by decide) (by decide)) q_anil))))))))) (fun _ _ _ _=>(qv .V 2))))) q_anil)) q_int))))
theorem d_law_moor_told:Def (hk w) mg "_law_moor_told" (top 31) ["_law_found", "_law_begin", "_law_moves"] 174 (FD "_law_moor_told" 31 hxM0 173):=dk Y (by kernel_rfl) fun _ _ _ _ _ _=>us3 fun _ _ _=>rfl
theorem ok_law_moor_told:FnOk P w (hk w) mg base CX0 2 174 (FD "_law_moor_told" 31 hxM0 173) ["_law_found", "_law_begin", "_law_moves"] (spM (hk w) 3 .F f__law_moor_told):=
 okF (d_law_moor_told Y) sc_law_moor_told (.inl rfl) rfl rfl fun hr=>(q_cons (q_if_ (PW.pt (q_tor (q_tnot (q_val (q_cb call_isi b_isi (by rfl) (bl Y).isinstance_ PyProof.Rows.boot_isinstance (q_acons (qv .B 0) (q_acons (@q_ty _ _ _ _ _ _ _ (by rfl) (bl Y).tuple_ bt_tuple (by decide) (by decide)) q_anil))))) (q_tor (q_tcmp op_ne o2_neS (q_cb K_len b_len (by rfl) (bl Y).len_ PySem.boot_len (q_acons (qv .B 0) q_anil)) q_int) (q_tor1 (q_tnot (q_val (q_CB (q_FC (qcD (ok_law_whole_counts Y) (d_law_whole_counts Y) (q_acons (q_UB (q_ixU (qv .B 0) q_int)) (q_acons (q_cb K_len b_len (by rfl) (bl Y).len_ PySem.boot_len (q_acons (qv .B 1) q_anil)) q_anil))))))))))) (q_last (q_ret q_bl)) q_nil) (q_cons (q_if_ (PW.pt (q_tor (q_tnot (q_val (q_cb call_isi b_isi (by rfl) (bl Y).isinstance_ PyProof.Rows.boot_isinstance (q_acons (q_UB (q_ixU (qv .B 0) q_int)) (q_acons (@q_ty _ _ _ _ _ _ _ (by rfl) (bl Y).tuple_ bt_tuple (by decide) (by decide)) q_anil))))) (q_tor1 (q_tcmp op_ne o2_neS (q_cb K_len b_len (by rfl) (bl Y).len_ PySem.boot_len (q_acons (q_UB (q_ixU (qv .B 0) q_int)) q_anil)) (q_cb K_len b_len (by rfl) (bl Y).len_ PySem.boot_len (q_acons (qv .B 2) q_anil)))))) (q_last (q_ret q_bl)) q_nil) (q_cons (q_for PassesOwn.never rfl (q_iSqU (q_ixU (qv .B 0) q_int)) (@pg_name _ _ 3 _ sc_law_moor_told.nd rfl (by trivial) (by trivial)) gt_U (q_cons (q_if_ (PW.pt (q_tor (q_tnot (q_val (q_cb call_isi b_isi (by rfl) (bl Y).isinstance_ PyProof.Rows.boot_isinstance (q_acons (qv .B 3) (q_acons (@q_ty _ _ _ _ _ _ _ (by rfl) (bl Y).tuple_ bt_tuple (by decide) (by decide)) q_anil))))) (q_tor1 (q_tcmp op_ne o2_neS (q_cb K_len b_len (by rfl) (bl Y).len_ PySem.boot_len (q_acons (qv .B 3) q_anil)) q_int)))) (q_last (q_ret q_bl)) q_nil) (q_last (q_if_ (PW.pt (q_tor (q_tnot (q_val (q_CB (q_FC (qcD (ok_law_whole_counts Y) (d_law_whole_counts Y) (q_acons (q_UB (q_ixU (qv .B 3) q_int)) (q_acons (q_cb K_len b_len (by rfl) (bl Y).len_ PySem.boot_len (q_acons (qv .B 1) q_anil)) q_anil))))))) (q_tor1 (q_tnot (q_val (q_CB (q_FC (qcD (ok_law_whole_counts Y) (d_law_whole_counts Y) (q_acons (q_UB (q_ixU (qv .B 3) q_int)) (q_acons (q_cb K_len b_len (by rfl) (bl Y).len_ PySem.boot_len (q_acons (qv .B 1) q_anil)) q_anil)))))))))) (q_last (q_ret q_bl)) q_nil)))) (q_last (q_ret (q_cmp (op_eqD (hu64 hr)) (o2_eqD (neg:=false)) (qv .B 0) (q_UB (q_tupU (q_acons (qv .U 1) (q_acons (qv .U 2) q_anil))))))))))
theorem d_law_read:Def (hk w) mg "_law_read" (top 32) ["_law_found", "_law_begin", "_law_moves", "_law_places", "_law_names_here"] 181 (FD "_law_read" 32 hxM0 180):=dk Y (by kernel_rfl) fun _ _ _ _ _ _=>us5 fun _ _ _ _ _=>rfl
theorem ok_law_read:FnOk P w (hk w) mg base CX0 3 181 (FD "_law_read" 32 hxM0 180) ["_law_found", "_law_begin", "_law_moves", "_law_places", "_law_names_here"] (spM (hk w) 5 .F f__law_read):=
 okF (d_law_read Y) sc_law_read (.inl rfl) rfl rfl fun hr=>(q_cons (q_if_ (PW.pt (q_tor (q_tnot (q_val (q_cb call_isi b_isi (by rfl) (bl Y).isinstance_ PyProof.Rows.boot_isinstance (q_acons (qv .B 0) (q_acons (@q_ty _ _ _ _ _ _ _ (by rfl) (bl Y).tuple_ bt_tuple (by decide) (by decide)) q_anil))))) (q_tor (q_tcmp op_ne o2_neS (q_cb K_len b_len (by rfl) (bl Y).len_ PySem.boot_len (q_acons (qv .B 0) q_anil)) q_int) (q_tor1 (q_tnot (q_val (q_CB (q_FC (qcD (ok_law_moor_told Y) (d_law_moor_told Y) (q_acons (q_UB (q_ixU (qv .B 0) q_int)) (q_acons (qv .B 1) (q_acons (qv .B 2) q_anil)))))))))))) (q_last (q_ret q_bl)) q_nil) (q_cons (q_if_ (PW.pt (q_tor (q_tnot (q_val (q_cb call_isi b_isi (by rfl) (bl Y).isinstance_ PyProof.Rows.boot_isinstance (q_acons (q_UB (q_ixU (qv .B 0) q_int)) (q_acons (@q_ty _ _ _ _ _ _ _ (by rfl) (bl Y).list_ bt_list (by decide) (by decide)) q_anil))))) (q_tor1 (q_tnot (q_val (q_cb call_isi b_isi (by rfl) (bl Y).isinstance_ PyProof.Rows.boot_isinstance (q_acons (q_UB (q_ixU (qv .B 0) q_int)) (q_acons (@q_ty _ _ _ _ _ _ _ (by rfl) (bl Y).list_ bt_list (by decide) (by decide)) q_anil)))))))) (q_last (q_ret q_bl)) q_nil) (q_last (q_ret (q_and (q_cmp (op_eqD (hu64 hr)) (o2_eqD (neg:=false)) (q_UB (q_ixU (qv .B 0) q_int)) (qv .B 3)) (q_one (q_cmp (op_eqD (hu64 hr)) (o2_eqD (neg:=false)) (q_UB (q_ixU (qv .B 0) q_int)) (qv .B 4))))))))
theorem dlaw:Def (hk w) mg "law" (top 33) ["_law_script"] 186 (FD "law" 33 hxM0 185):=dk Y (by kernel_rfl) fun _ _ _ _ _ _=>us1 fun _=>rfl
theorem oklaw:FnOk P w (hk w) mg base CX0 7 186 (FD "law" 33 hxM0 185) ["_law_script"] (spM (hk w) 1 .F f_law):=
 okF (dlaw Y) sclaw (.inl rfl) rfl rfl fun hr=>(q_cons (q_setV (i:=1) sclaw.nd rfl (by trivial) (q_op op_add xAdd q_int (q_op op_mod (o2_I (C:=cMod) (g:=gMod) (fun _ _=>rfl) (fun _ _ _=>.int)) (q_CB (q_FC (qcD (ok_law_cell Y) (d_law_cell Y) (q_acons (qv .B 0) (q_aint q_anil))))) q_int)) (by rfl) (by trivial)) (q_cons (q_setF (i:=2) sclaw.nd rfl (by trivial) (q_lst q_anil) (by rfl) (by trivial)) (q_cons (q_for PassesOwn.never rfl (q_rng1 (by rfl) (bl Y).range_ (q_acons (q_op op_mod (o2_I (C:=cMod) (g:=gMod) (fun _ _=>rfl) (fun _ _ _=>.int)) (q_CB (q_FC (qcD (ok_law_cell Y) (d_law_cell Y) (q_acons (qv .B 0) (q_aint q_anil))))) q_int) q_anil)) (@pg_name _ _ 3 _ sclaw.nd rfl (by trivial) (by trivial)) gt_U (q_cons (q_setV (i:=4) sclaw.nd rfl (by trivial) (q_op op_add xAdd q_int (q_op op_mulB (o2_I (C:=CMulB) (g:=gMul) (fun _ _=>rfl) (fun _ _ _=>.int)) (q_op op_mulB (o2_I (C:=CMulB) (g:=gMul) (fun _ _=>rfl) (fun _ _ _=>.int)) q_int (qv .B 1)) (qv .B 3))) (by rfl) (by trivial)) (q_cons (q_setF (i:=5) sclaw.nd rfl (by trivial) (q_ct K_tup (b_tup (c:=true)) (by rfl) (bl Y).tuple_ bt_tuple (q_acons (q_FC (q_compn (show CompScope (defScope (top 33)) _ ["_law_script", "_law_many", "_law_moves", "_law_k", "_law_at", "_law_take", "_law_begin", "_law_places", "_law_names_here", "_law_plain", "_law_other", "_law_text_here", "_law_found", "_law_held", "_law_far"] ["_law_script", "_law_many", "_law_moves", "_law_k", "_law_at", "_law_take", "_law_begin", "_law_places", "_law_names_here", "_law_plain", "_law_other", "_law_text_here", "_law_found", "_law_held", "_law_far", "_law_p"] from by trivial) rfl (q_rng1 (by rfl) (bl Y).range_ (q_acons (qv .B 1) q_anil)) (fun _ _ _ _=>(@pg_name _ _ 15 _ (by decide +kernel:(["_law_script", "_law_many", "_law_moves", "_law_k", "_law_at", "_law_take", "_law_begin", "_law_places", "_law_names_here", "_law_plain", "_law_other", "_law_text_here", "_law_found", "_law_held", "_law_far", "_law_p"]:List Str).Nodup) rfl (Or.inl rfl) (.inr rfl))) gt_U (gk_name (show 15<=15 by decide)) (fun _ _ _ _=>q_pifN) (fun _ _ _ _=>(q_FV (qcD (ok_law_count Y) (d_law_count Y) (q_acons (q_CB (q_FC (qcD (ok_law_cell Y) (d_law_cell Y) (q_acons (qv .B 0) (q_acons (q_op op_add xAdd (qv .B 4) (q_op op_mulB (o2_I (C:=CMulB) (g:=gMul) (fun _ _=>rfl) (fun _ _ _=>.int)) q_int (qv .B 15))) q_anil))))) q_anil)))))) q_anil)) (by rfl) (by trivial)) (q_last (@q_app _ _ _ _ _ _ _ 2 _ _ _ _ rfl (by trivial) (q_FV (q_tup (q_acons (qv .V 5) (q_acons (q_FV (q_ct K_tup (b_tup (c:=true)) (by rfl) (bl Y).tuple_ bt_tuple (q_acons (q_FC (q_compn (show CompScope (defScope (top 33)) _ ["_law_script", "_law_many", "_law_moves", "_law_k", "_law_at", "_law_take", "_law_begin", "_law_places", "_law_names_here", "_law_plain", "_law_other", "_law_text_here", "_law_found", "_law_held", "_law_far"] ["_law_script", "_law_many", "_law_moves", "_law_k", "_law_at", "_law_take", "_law_begin", "_law_places", "_law_names_here", "_law_plain", "_law_other", "_law_text_here", "_law_found", "_law_held", "_law_far", "_law_p"] from by trivial) rfl (q_rng1 (by rfl) (bl Y).range_ (q_acons (qv .B 1) q_anil)) (fun _ _ _ _=>(@pg_name _ _ 15 _ (by decide +kernel:(["_law_script", "_law_many", "_law_moves", "_law_k", "_law_at", "_law_take", "_law_begin", "_law_places", "_law_names_here", "_law_plain", "_law_other", "_law_text_here", "_law_found", "_law_held", "_law_far", "_law_p"]:List Str).Nodup) rfl (Or.inl rfl) (.inr rfl))) gt_U (gk_name (show 15<=15 by decide)) (fun _ _ _ _=>q_pifN) (fun _ _ _ _=>(q_FV (qcD (ok_law_count Y) (d_law_count Y) (q_acons (q_CB (q_FC (qcD (ok_law_cell Y) (d_law_cell Y) (q_acons (qv .B 0) (q_acons (q_op op_add xAdd (q_op op_add xAdd (qv .B 4) (q_op op_mulB (o2_I (C:=CMulB) (g:=gMul) (fun _ _=>rfl) (fun _ _ _=>.int)) q_int (qv .B 15))) q_int) q_anil))))) q_anil)))))) q_anil))) q_anil)))) (by decide) (by decide) (by rfl) (by rfl) (by rfl) (by rfl) (by rfl)))))) (q_cons (q_setF (i:=2) sclaw.nd rfl (by trivial) (q_ct K_tup (b_tup (c:=true)) (by rfl) (bl Y).tuple_ bt_tuple (q_acons (qv .C 2) q_anil)) (by rfl) (by trivial)) (q_cons (q_setF (i:=6) sclaw.nd rfl (by trivial) (q_ct K_tup (b_tup (c:=true)) (by rfl) (bl Y).tuple_ bt_tuple (q_acons (q_FC (q_compn (show CompScope (defScope (top 33)) _ ["_law_script", "_law_many", "_law_moves", "_law_k", "_law_at", "_law_take", "_law_begin", "_law_places", "_law_names_here", "_law_plain", "_law_other", "_law_text_here", "_law_found", "_law_held", "_law_far"] ["_law_script", "_law_many", "_law_moves", "_law_k", "_law_at", "_law_take", "_law_begin", "_law_places", "_law_names_here", "_law_plain", "_law_other", "_law_text_here", "_law_found", "_law_held", "_law_far", "_law_p"] from by trivial) rfl (q_rng1 (by rfl) (bl Y).range_ (q_acons (qv .B 1) q_anil)) (fun _ _ _ _=>(@pg_name _ _ 15 _ (by decide +kernel:(["_law_script", "_law_many", "_law_moves", "_law_k", "_law_at", "_law_take", "_law_begin", "_law_places", "_law_names_here", "_law_plain", "_law_other", "_law_text_here", "_law_found", "_law_held", "_law_far", "_law_p"]:List Str).Nodup) rfl (Or.inl rfl) (.inr rfl))) gt_U (gk_name (show 15<=15 by decide)) (fun _ _ _ _=>q_pifN) (fun _ _ _ _=>(q_FV (qcD (ok_law_count Y) (d_law_count Y) (q_acons (q_CB (q_FC (qcD (ok_law_cell Y) (d_law_cell Y) (q_acons (qv .B 0) (q_acons (q_op op_add xAdd q_int (qv .B 15)) q_anil))))) q_anil)))))) q_anil)) (by rfl) (by trivial)) (q_cons (q_setF (i:=7) sclaw.nd rfl (by trivial) (qcD (ok_law_names Y) (d_law_names Y) (q_acons (qv .B 0) (q_aint (q_acons (qv .B 1) q_anil)))) (by rfl) (by trivial)) (q_cons (q_if_ (q_tcmp op_eq o2_eqS (q_op op_mod (o2_I (C:=cMod) (g:=gMod) (fun _ _=>rfl) (fun _ _ _=>.int)) (q_CB (q_FC (qcD (ok_law_cell Y) (d_law_cell Y) (q_acons (qv .B 0) (q_aint q_anil))))) q_int) q_int) (q_last (q_setF (i:=7) sclaw.nd rfl (by trivial) (qcD (ok_law_alike_names Y) (d_law_alike_names Y) (q_acons (q_op op_fdiv (o2_I (C:=CDiv) (g:=gDiv) (fun _ _=>rfl) (fun _ _ _=>.int)) (q_CB (q_FC (qcD (ok_law_cell Y) (d_law_cell Y) (q_acons (qv .B 0) (q_aint q_anil))))) q_int) (q_acons (qv .B 1) q_anil))) (by rfl) (by trivial))) q_nil) (q_cons (q_setF (i:=8) sclaw.nd rfl (by trivial) (qcD (ok_law_names Y) (d_law_names Y) (q_acons (qv .B 0) (q_aint (q_acons (q_cb K_len b_len (by rfl) (bl Y).len_ PySem.boot_len (q_acons (qv .B 2) q_anil)) q_anil)))) (by rfl) (by trivial)) (q_cons (q_if_ (q_tcmp op_eq o2_eqS (q_op op_mod (o2_I (C:=cMod) (g:=gMod) (fun _ _=>rfl) (fun _ _ _=>.int)) (q_CB (q_FC (qcD (ok_law_cell Y) (d_law_cell Y) (q_acons (qv .B 0) (q_aint q_anil))))) q_int) q_int) (q_last (q_setF (i:=8) sclaw.nd rfl (by trivial) (qcD (ok_law_alike_names Y) (d_law_alike_names Y) (q_acons (q_op op_fdiv (o2_I (C:=CDiv) (g:=gDiv) (fun _ _=>rfl) (fun _ _ _=>.int)) (q_CB (q_FC (qcD (ok_law_cell Y) (d_law_cell Y) (q_acons (qv .B 0) (q_aint q_anil))))) q_int) (q_acons (q_cb K_len b_len (by rfl) (bl Y).len_ PySem.boot_len (q_acons (qv .B 2) q_anil)) q_anil))) (by rfl) (by trivial))) q_nil) (q_cons (q_if_ (PW.pt (q_tand (q_tcmp op_eq o2_eqS (q_op op_mod (o2_I (C:=cMod) (g:=gMod) (fun _ _=>rfl) (fun _ _ _=>.int)) (q_CB (q_FC (qcD (ok_law_cell Y) (d_law_cell Y) (q_acons (qv .B 0) (q_aint q_anil))))) q_int) q_int) (q_tand1 (q_tcmp op_le xLe (q_cb K_len b_len (by rfl) (bl Y).len_ PySem.boot_len (q_acons (qv .B 2) q_anil)) (qv .B 1))))) (q_last (q_setF (i:=8) sclaw.nd rfl (by trivial) (@q_sl _ _ _ _ _ _ true _ _ _ _ _ (qv .C 7) q_pN (q_pS (q_cb K_len b_len (by rfl) (bl Y).len_ PySem.boot_len (q_acons (qv .B 2) q_anil))) (by rfl)) (by rfl) (by trivial))) q_nil) (q_cons (q_setF (i:=9) sclaw.nd rfl (by trivial) (qcD (ok_law_text Y) (d_law_text Y) (q_acons (qv .B 6) (q_acons (qv .B 2) (q_acons (qv .B 7) (q_acons (qv .B 8) (q_aint q_anil)))))) (by rfl) (by trivial)) (q_cons (q_setF (i:=10) sclaw.nd rfl (by trivial) (qcD (ok_law_text Y) (d_law_text Y) (q_acons (qv .B 6) (q_acons (qv .B 2) (q_acons (qv .B 7) (q_acons (qv .B 8) (q_acons (q_op op_mod (o2_I (C:=cMod) (g:=gMod) (fun _ _=>rfl) (fun _ _ _=>.int)) (q_CB (q_FC (qcD (ok_law_cell Y) (d_law_cell Y) (q_acons (qv .B 0) (q_aint q_anil))))) q_int) q_anil)))))) (by rfl) (by trivial)) (q_cons (q_for PassesOwn.never rfl (q_iSqU (q_VU (q_FV (q_lst (q_acons (qv .V 9) (q_acons (qv .V 10) (q_acons (qv .V 9) q_anil))))))) (@pg_name _ _ 11 _ sclaw.nd rfl (by trivial) (by trivial)) gt_U (@q_mK _ _ _ _ _ _ _ _ 12 _ _ _ _ _ _ _ _ _ _ _ _ _ _ _ _ _ _ _ _ _ _ _ _ _ _ _ _ _ _ _ _ _ _ sclaw.nd rfl (by trivial) (by trivial) (okread Y) (by trivial) (by rfl) (dread Y).m (dread Y).F.kp (dread Y).b (q_acons (qv .B 11) q_anil) (q_tnot (q_val (q_CB (q_FC (qcD (ok_law_read Y) (d_law_read Y) (q_acons (qv .B 12) (q_acons (qv .B 6) (q_acons (qv .B 2) (q_acons (qv .B 7) (q_acons (qv .B 8) q_anil)))))))))) (by rfl) (by decide) (by rfl) (by rfl) (by rfl) (by trivial) (by decide) (by decide) (by exact fun _ _=>rfl) (by exact fun _ _=>rfl) (by rfl) (by rfl) (by rfl) (by rfl) (by rfl) (by rfl) (by rfl) (by rfl))) (q_cons (q_setF (i:=13) sclaw.nd rfl (by trivial) (q_lst (q_acons (q_FV (q_ct K_list (b_list (c:=true)) (by rfl) (bl Y).list_ bt_list (q_acons (qv .C 7) q_anil))) (q_acons (q_FV (q_ct K_list (b_list (c:=true)) (by rfl) (bl Y).list_ bt_list (q_acons (qv .C 8) q_anil))) q_anil))) (by rfl) (by trivial)) (q_cons (q_frz (q_setF (i:=12) sclaw.nd rfl (by trivial) (qcD (okshown Y) (dshown Y) (q_acons (q_UB (q_tupU (q_acons (qv .U 6) (q_acons (qv .U 2) q_anil)))) (q_acons (q_UB (q_ixU (qv .B 13) q_int)) (q_acons (q_UB (q_ixU (qv .B 13) q_int)) q_anil)))) (by rfl) (by trivial))) (q_cons (q_frz (q_frz (q_if_ (PW.pt (q_tor (q_tnot (q_val (q_cb call_isi b_isi (by rfl) (bl Y).isinstance_ PyProof.Rows.boot_isinstance (q_acons (qv .B 12) (q_acons (@q_ty _ _ _ _ _ _ _ (by rfl) (bl Y).str_ bt_str (by decide) (by decide)) q_anil))))) (q_tor (q_tcmp op_ne o2_neS (qv .B 12) (qv .B 9)) (q_tor1 (q_tcmp (op_neD (hu64 hr)) (o2_eqD (neg:=true)) (qv .B 13) (q_CB (q_FC (q_lst (q_acons (qv .V 7) (q_acons (qv .V 8) q_anil)))))))))) (q_last (q_ret q_bl)) q_nil))) (q_cons (q_setF (i:=14) sclaw.nd rfl (by trivial) (q_op op_cat3 o2_catT (q_UB (q_tupU (q_acons (q_op op_add xAdd (q_op op_add xAdd (q_UB (q_ixU (qv .B 6) q_int)) (q_op op_pow (o2_I (C:=CPow) (g:=gPow) (fun _ _=>rfl) (fun _ _ _=>.int)) q_int q_int)) (q_op op_modZ (o2_I (C:=cModZ) (g:=gMz) (fun _ _=>rfl) (fun _ _ _=>.int)) (q_CB (q_FC (qcD (ok_law_cell Y) (d_law_cell Y) (q_acons (qv .B 0) (q_aint q_anil))))) (q_op op_pow (o2_I (C:=CPow) (g:=gPow) (fun _ _=>rfl) (fun _ _ _=>.int)) q_int q_int))) q_anil))) (q_CB (q_FC (@q_slT _ _ _ _ _ _ _ _ _ _ _ (qv .B 6) (q_pS q_int) q_pN (by rfl))))) (by rfl) (by trivial)) (q_last (q_frz (q_frz (q_ret (q_cmp op_eq o2_eqS (q_CB (q_FC (qcD (okshown Y) (dshown Y) (q_acons (q_UB (q_tupU (q_acons (qv .U 14) (q_acons (qv .U 2) q_anil)))) (q_acons (qv .B 7) (q_acons (qv .B 8) q_anil)))))) (q_CB (q_FC (qcD (ok_law_text Y) (d_law_text Y) (q_acons (qv .B 14) (q_acons (qv .B 2) (q_acons (qv .B 7) (q_acons (qv .B 8) (q_aint q_anil))))))))))))))))))))))))))))))
end
def spLaw (K:Frag):Sp:=fun vs H Q _=>∃ (a:Addr) (ns:List Int),vs = [.ref a]/\SqL K H a (ns.map V.int)/\ns.length<=63/\(∀ x∈ns,Builtin.Int.intBits x<=1048576)/\∀ H',Q (.bl true) H'
theorem all_ {l:PySem.W.OpenLaw} {w:World} {mg:Str->Option Value} {fa:Addr} (Y:En w mg) (hp:∀ ns:List Int,ns.length<=63->(∀ x∈ns,Builtin.Int.intBits x<=1048576)->f_law [.scr (ns.map W.int)]=.ok (.bl true)) (e:mg "law" = some (.ref fa)):∃ fd:FuncData,(∀ (s:Shared) (v:Value),BindsTo s fd ⟨[v],[]⟩ [("_law_script",v)])/\∀ base:Heap,(hk w).In base->base.Ns mainGlobals mg->FnOk l.prog w (hk w) mg base CX0 7 fa fd ["_law_script"] (spLaw (hk w)):=by
 cases e.symm.trans (dlaw Y).m
 exact ⟨FD "law" 33 hxM0 185,fun s v=>.of_eq rfl,fun base _ _=>law_ofB (oklaw Y) hp⟩
end K90
open PySem PySem.W PyProof.Rows
namespace K90
def hxas:List Addr:=[2,3,15,22,23,25,28,35,36,45,46,52,53,59,60,66,67,71,72,78,79,85,86,92,93,97,98,102,103,107,108,114,115,121,122,128,129,135,136,142,143,149,150,156,157,161,162,166,167,173,174,180,181,185,186]
def view:Program:={ PySem.Challenge.pw_tokenmoor_k90_texts_of_moors with main:={ PySem.Challenge.pw_tokenmoor_k90_texts_of_moors.main with body:=[1,2,3,4,5,7,8,9,10,11,12,13,14,15,16,17,18,19,20,22,23,24,25,26,27,28,29,30,31,32,33].map top } }
def hook:PySem.W.Hook:=PySem.W.kHook hxheap hxas (fun _=>by kernel_rfl)
end K90
set_option maxHeartbeats 0 in
theorem PySem.Challenge.cw_tokenmoor_k90_texts_of_moors_holds : PySem.Challenge.rw_tokenmoor_k90_texts_of_moors.Holds := by
 w_on; o_law
 refine holds_open (q:=K90.view) (loose:=[]) (Xt:=fun s=>xlAt K90.view [] s&&recOk [] s) (XP:=XL K90.view [])
  (Yf:=K90.hook.obs) (Ya:=K90.hook.val) (YP:=K90.hook.says) (N:=2464) ?hl K90.hook.of K90.hook.keeps
  (fun s e=>xl_of s (Bool.and_eq_true_iff.mp e).1) XL.keeps (by rfl) (by rfl) (by rfl)
  (fun s e=>recFacts_of (Bool.and_eq_true_iff.mp e).2) (by rfl) (by first | assumption | decide +kernel)
  (by decide +kernel) ⟨rfl,rfl,rfl,rfl,rfl,by decide +kernel⟩ ?hw ?hc
 (case hl=>intro w; kernel_rfl)
 (case hw=>w_witness2)
 refine L2.walk_ofKB (l:=PySem.Challenge.rw_tokenmoor_k90_texts_of_moors) (n:=63) (k:=7) (x := "_law_script") (CX:=L2.CX0) (sp:=K90.spLaw) rfl (by decide) rfl ⟨rfl,by decide,by decide⟩ (fun w h Y=>PySem.W.kIn_of Y)
  (fun w mg fa h X G e=>K90.all_ ⟨h,X,G⟩ K90.law_pure e)
  (fun K H a ns hl hb hO hS=>⟨a,ns,rfl,hS,hl,hb,fun _=>rfl⟩) fun _ _ _ _ z=>z
