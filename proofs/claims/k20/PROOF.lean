import PyProof.Rows.All
import Wide.All
import OpenK.AllK
import Wide.FinOn
import Lean
import PyProof.EqAt
import PyProof.EqKinds
import PyProof.TupleCall
import PyProof.NeKinds
import KE.KRevIter
import PyProof.Rows.SumAny
import PySem.Challenge.RW_catchhall_k20_even_and_lacking_lines
noncomputable section
set_option Elab.async false
set_option linter.all false
set_option maxRecDepth 100000
namespace L2
open PySem PySem.Spec PyProof.Rows
abbrev Key:=Sum Int Str
def zMz:Key->Value->Bool
 | .inl k,v=>Value.isInt k v
 | .inr x,v=>Value.isStrOf x v
def zOp (w:World):Key->Int
 | .inl k=>hashInt k
 | .inr x=>hashStr w x
theorem cU:∀ {k:Key} {v:Value},zMz k v=true->(∃ i t,k=Sum.inl i/\v=Value.int i t)∨(∃ x t,k=Sum.inr x/\v=Value.str x t)
 | .inl i,v,h=>by
  obtain ⟨t,e⟩:=Value.isInt_shape (k:=i) (v:=v) h
  exact .inl ⟨i,t,rfl,e⟩
 | .inr x,v,h=>by
  obtain ⟨t,e⟩:=Value.isStrOf_shape (x:=x) (v:=v) h
  exact .inr ⟨x,t,rfl,e⟩
theorem zLy (a b:Int):decide ((Sum.inl a:Key)=Sum.inl b)=(a==b):=by
 by_cases e:a=b
 ·subst e;simp
 ·have h:¬ (Sum.inl a:Key)=Sum.inl b:=fun q=>e (Sum.inl.inj q)
  rw [decide_eq_false h]
  exact (beq_eq_false_iff_ne.mpr e).symm
theorem zKS (a b:Str):decide ((Sum.inr a:Key)=Sum.inr b)=decide (a=b):=by
 by_cases e:a=b
 ·subst e;simp
 ·have h:¬ (Sum.inr a:Key)=Sum.inr b:=fun q=>e (Sum.inr.inj q)
  rw [decide_eq_false h,decide_eq_false e]
theorem zLc (a:Int) (b:Str):decide ((Sum.inl a:Key)=Sum.inr b)=false:=decide_eq_false (fun q=>nomatch q)
theorem zLl (a:Str) (b:Int):decide ((Sum.inr a:Key)=Sum.inl b)=false:=decide_eq_false (fun q=>nomatch q)
def zEu (prog:Program) (w:World):PySem.KeyKind prog w Key where
 is:=zMz
 hash:=zOp w
 inj:=fun v a b ha hb=>by
  rcases cU ha with ⟨i,t,rfl,rfl⟩ | ⟨x,t,rfl,rfl⟩
  ·rcases cU hb with ⟨j,u,rfl,e⟩ | ⟨y,u,rfl,e⟩
   ·injection e with e1 _;rw [e1]
   ·exact nomatch e
  ·rcases cU hb with ⟨j,u,rfl,e⟩ | ⟨y,u,rfl,e⟩
   ·exact nomatch e
   ·injection e with e1 _;rw [e1]
 byValue:=fun k v h=>by
  rcases cU h with ⟨i,t,rfl,rfl⟩ | ⟨x,t,rfl,rfl⟩<;>rfl
 pyHash:=fun hv h=>by
  rcases cU hv with ⟨i,t,rfl,rfl⟩ | ⟨x,t,rfl,rfl⟩
  ·exact wpAny_pyHash_int h
  ·exact wpAny_pyHash_str h
 eqBool:=fun hu hv h=>by
  rcases cU hu with ⟨i,t,rfl,rfl⟩ | ⟨x,t,rfl,rfl⟩
  ·rcases cU hv with ⟨j,u,rfl,rfl⟩ | ⟨y,u,rfl,rfl⟩
   ·rw [zLy] at h;exact wpAny_eqBool_int h
   ·rw [zLc] at h;exact SeqAt.EqAt.int_str i t y u _ _ _ _ h
  ·rcases cU hv with ⟨j,u,rfl,rfl⟩ | ⟨y,u,rfl,rfl⟩
   ·rw [zLl] at h;exact SeqAt.EqAt.str_int x t j u _ _ _ _ h
   ·rw [zKS] at h;exact wpAny_eqBool_str h
 «strs» := fun k x t v h=>by
  rcases cU h with ⟨i,u,rfl,e⟩ | ⟨y,u,rfl,e⟩
  ·exact nomatch e
  ·injection e with e1 _
   subst e1
   cases v<;>rfl
end L2
namespace L2
open PySem PySem.Spec PyProof.Rows
inductive V where
 | non | bl (b:Bool) | int (i:Int) | str (x:Str) | byt (b:Array UInt8) | flt (b:UInt64) | ref (a:Addr) | ty (n:String)
 deriving DecidableEq
def cS:V->Value->Prop
 | .non,u=>u=Value.none
 | .bl b,u=>u=Value.bool b
 | .int i,u=>∃ t,u=Value.int i t
 | .str x,u=>∃ t,u=Value.str x t
 | .byt b,u=>∃ t,u=Value.bytes b t
 | .flt b,u=>∃ t,u=Value.float b t
 | .ref a,u=>u=Value.ref a
 | .ty n,u=>u=Value.type n
abbrev dE:List V->List Value->Prop:=Paired cS
theorem dE.length {xs:List V} {us:List Value} (r:dE xs us):xs.length=us.length:=Paired.length r
theorem dE.get:∀ {xs:List V} {us:List Value} {i:Nat} {x:V},dE xs us->xs[i]?=some x->∃ u,us[i]?=some u/\cS x u
 | _,_,_,_,.nil,e=>by simp at e
 | _,_,0,_,.cons r _,e=>by simp at e;subst e;exact ⟨_,rfl,r⟩
 | _,_,i+1,x,.cons _ t,e=>by
  obtain ⟨u,h1,h2⟩:=dE.get (i:=i) (x:=x) t (by simpa using e)
  exact ⟨u,by simpa using h1,h2⟩
theorem dE.set {x:V} {u:Value} (r:cS x u):∀ {xs:List V} {us:List Value} (i:Nat),dE xs us->dE (xs.set i x) (us.set i u)
 | _,_,_,.nil=>.nil
 | _,_,0,.cons _ t=>.cons r t
 | _,_,i+1,.cons q t=>.cons q (dE.set r i t)
theorem dE.append:∀ {xs ys:List V} {us ws:List Value},dE xs us->dE ys ws->dE (xs++ys) (us++ws)
 | _,_,_,_,.nil,s=>s
 | _,_,_,_,.cons r t,s=>.cons r (dE.append t s)
theorem dE.take:∀ {xs:List V} {us:List Value} (n:Nat),dE xs us->dE (xs.take n) (us.take n)
 | _,_,0,_=>.nil
 | _,_,_+1,.nil=>.nil
 | _,_,n+1,.cons r t=>.cons r (dE.take n t)
theorem dE.drop:∀ {xs:List V} {us:List Value} (n:Nat),dE xs us->dE (xs.drop n) (us.drop n)
 | _,_,0,r=>r
 | _,_,_+1,.nil=>.nil
 | _,_,n+1,.cons _ t=>dE.drop n t
def zOj:Option V->Option Value->Prop
 | some v,some u=>cS v u
 | none,none=>True
 | _,_=>False
def KV {κ:Type}:List (κ×V)->List (κ×Value)->Prop:=Paired fun (p:κ×V) (q:κ×Value)=>p.1=q.1/\cS p.2 q.2
def kV:Key->V
 | .inl i=>.int i
 | .inr x=>.str x
inductive HO where
 | lst (xs:List V)
 | tup (xs:List V)
 | dK (kvs:List (Key×V)) | dT (kvs:List (List Key×V))
 | set (S:Int->Bool) (n:Nat)
 | ins (C dx:Addr) (fs:List (Str×V))
 | own (x:Addr)
 | xd (fs:List (Str×V))
 | met (f x:Addr)
 | rng (lo hi:Int)
 | frz (o:Obj) (u:HO)
 | tbl (ps:Array Value)
 | ext (φ:Heap->Prop)
abbrev Hp:=Addr->Option HO
def upd (H:Hp) (a:Addr) (o:HO):Hp:=fun b=>if b=a then some o else H b
theorem aZ {H:Hp} {a:Addr} {o:HO}:upd H a o a=some o:=by unfold upd;rw [if_pos rfl]
theorem bC {H:Hp} {a b:Addr} {o:HO} (h:b≠a):upd H a o b=H b:=by unfold upd;rw [if_neg h]
theorem zNE {H:Hp} {a b:Addr} {o u:HO} (h:H a=some o) (h':H b=some u) (d:o≠u):a≠b:=by
 intro e;subst e;rw [h] at h';exact d (Option.some.inj h')
theorem bB {H:Hp} {a b:Addr} {o:HO} (h:H a=some o) (h':H b=none):a≠b:=by
 intro e;subst e;rw [h] at h';cases h'
section
variable (P:Program) (w:World)
def kK (H:Hp) (h:Heap) (a:Addr):HO->Prop
 | .lst xs=>xs.length<=sizeLine/\∃ (its:List Value) (n:Nat),dE xs its/\h.get? a=some { cls:=.type "list", data:=.seq its.toArray n }
 | .tup xs=>xs.length<=sizeLine/\∃ its:List Value,dE xs its/\IsTup h a its.toArray
 | .dK kvs=>kvs.length<=sizeLine/\(a==sysModules)=false/\∃ vs,KV kvs vs/\h.DictOf (zEu P w) a vs
 | .dT kvs=>kvs.length<=sizeLine/\(a==sysModules)=false/\∃ xs:List (List Key×Addr×Value),
   Paired (fun (p:List Key×V) (q:List Key×Addr×Value)=>p.1=q.1/\H q.2.1=some (.tup (p.1.map kV))/\cS p.2 q.2.2) kvs xs/\
   ∃ o es ep,h.get? a=some o/\o.ExactDict/\o.data=.dict es ep/\es.toList=xs.map (entryOfKey (tupleKind (zEu P w)))/\(xs.map (·.1)).Nodup
 | .set S n=>h.SetOf (intKind P w) a S n
 | .ins C dx fs=>H dx=some (.own a)/\fs.length<=1000/\dx≠a/\h.get? a=some (PySem.W.instObj C dx)/\
   ∃ mA,h.Ns1 dx mA/\(∀ f,zOj (fs.lookup f) (mA f))/\PySem.Within mA (fs.map (·.1))
 | .own _=>∃ o,h.get? a=some o
 | .xd fs=>∃ mA,h.Ns1 a mA/\∀ f,zOj (fs.lookup f) (mA f)
 | .rng lo hi=>∃ t u v,h.get? a=some { cls:=.type "range", data:=.fields #[.int lo t,.int hi u,.int 1 v] }
 | .frz o u=>h.get? a=some o/\kK H h a u
 | .tbl ps=>h.get? a=some { cls:=.none,data:=.fields ps }
 | .met f x=>h.get? a=some (PySem.W.methodObj (.ref f) (.ref x))
 | .ext φ=>φ h/\(∃ o,h.get? a=some o)/\∀ h1 h2:Heap,φ h1->(∀ o,h1.get? a=some o->h2.get? a=some o)->φ h2
def HOk (H:Hp) (h:Heap):Prop:=∀ a o,H a=some o->kK P w H h a o
end
section
variable {P:Program} {w:World} {H H':Hp} {h h':Heap} {a:Addr} {o:HO}
theorem kK.lt (x:kK P w H h a o):a < h.objs.size:=by
 cases o with
 | lst xs=>obtain ⟨_,_,_,_,e⟩:=x;exact Heap.lt_size e
 | tup xs=>obtain ⟨_,_,_,p⟩:=x;exact p.lt
 | dK kvs=>obtain ⟨_,_,_,_,o,_,_,e,_⟩:=x;exact Heap.lt_size e
 | dT kvs=>obtain ⟨_,_,_,_,o,_,_,e,_⟩:=x;exact Heap.lt_size e
 | set S n=>obtain ⟨o,_,_,_,e,_⟩:=x;exact Heap.lt_size e
 | ins C dx fs=>obtain ⟨_,_,_,e,_⟩:=x;exact Heap.lt_size e
 | own y=>obtain ⟨_,e⟩:=x;exact Heap.lt_size e
 | xd fs=>obtain ⟨_,⟨_,_,_,e,_⟩,_⟩:=x;exact Heap.lt_size e
 | rng lo hi=>obtain ⟨_,_,_,e⟩:=x;exact Heap.lt_size e
 | frz ob u=>obtain ⟨e,_⟩:=x;exact Heap.lt_size e
 | tbl ps=>exact Heap.lt_size (show h.get? a=some _ from x)
 | met f y=>exact Heap.lt_size (show h.get? a=some _ from x)
 | ext φ=>obtain ⟨_,⟨_,e⟩,_⟩:=x;exact Heap.lt_size e
theorem Paired.mapP {α β:Type} {F G:α->β->Prop}:∀ {l₁:List α} {l₂:List β},Paired F l₁ l₂->(∀ a b,F a b->G a b)->Paired G l₁ l₂
 | _,_,.nil,_=>.nil
 | _,_,.cons r t,f=>.cons (f _ _ r) (Paired.mapP t f)
theorem kK.stay (x:kK P w H h a o) (k:∀ b u,(b=a∨H b=some (.own a))->h.get? b=some u->h'.get? b=some u)
  (ho:∀ b,H b=some (.own a)->H' b=some (.own a)) (ht:∀ b xs,H b=some (.tup xs)->H' b=some (.tup xs)):kK P w H' h' a o:=by
 induction o with
 | lst xs=>obtain ⟨z,its,n,r,e⟩:=x;exact ⟨z,its,n,r,k _ _ (.inl rfl) e⟩
 | tup xs=>obtain ⟨z,its,r,ob,e,c⟩:=x;exact ⟨z,its,r,ob,k _ _ (.inl rfl) e,c⟩
 | dK kvs=>obtain ⟨z,y,vs,r,ob,es,ep,e,c⟩:=x;exact ⟨z,y,vs,r,ob,es,ep,k _ _ (.inl rfl) e,c⟩
 | dT kvs=>
  obtain ⟨z,y,xs,r,ob,es,ep,e,c⟩:=x
  exact ⟨z,y,xs,Paired.mapP r fun p q z=>⟨z.1,ht _ _ z.2.1,z.2.2⟩,ob,es,ep,k _ _ (.inl rfl) e,c⟩
 | set S n=>obtain ⟨ob,es,ep,t,e,c⟩:=x;exact ⟨ob,es,ep,t,k _ _ (.inl rfl) e,c⟩
 | ins C dx fs=>
  obtain ⟨d,z,ne,e,mA,⟨od,es,ep,e2,c⟩,r⟩:=x
  exact ⟨ho _ d,z,ne,k _ _ (.inl rfl) e,mA,⟨od,es,ep,k _ _ (.inr d) e2,c⟩,r⟩
 | own y=>obtain ⟨ob,e⟩:=x;exact ⟨ob,k _ _ (.inl rfl) e⟩
 | xd fs=>obtain ⟨mA,⟨od,es,ep,e,c⟩,r⟩:=x;exact ⟨mA,⟨od,es,ep,k _ _ (.inl rfl) e,c⟩,r⟩
 | rng lo hi=>obtain ⟨t,u,v,e⟩:=x;exact ⟨t,u,v,k _ _ (.inl rfl) e⟩
 | frz ob u ih=>obtain ⟨e,q⟩:=x;exact ⟨k _ _ (.inl rfl) e,ih q⟩
 | tbl ps=>
  have e:h.get? a=some { cls:=.none,data:=.fields ps }:=x
  show h'.get? a=some { cls:=.none,data:=.fields ps }
  exact k a _ (.inl rfl) e
 | met f y=>
  have e:h.get? a=some (PySem.W.methodObj (.ref f) (.ref y)):=x
  show h'.get? a=some (PySem.W.methodObj (.ref f) (.ref y))
  exact k a _ (.inl rfl) e
 | ext φ=>obtain ⟨p,⟨o,e⟩,st⟩:=x;exact ⟨st _ _ p fun o q=>k _ _ (.inl rfl) q,⟨o,k _ _ (.inl rfl) e⟩,st⟩
theorem HOk.lt (x:HOk P w H h) (e:H a=some o):a < h.objs.size:=(x a o e).lt
theorem HOk.fresh (x:HOk P w H h) (e:h.objs.size<=a):H a=none:=by
 cases q:H a with
 | none=>rfl
 | some u=>exact absurd (Nat.lt_of_lt_of_le (x.lt q) e) (Nat.lt_irrefl _)
theorem HOk.kept (x:HOk P w H h) (k:∀ b u,h.get? b=some u->h'.get? b=some u):HOk P w H h':=fun a o e=>
 (x a o e).stay (fun b u _ q=>k b u q) (fun _ q=>q) fun _ _ q=>q
theorem HOk.laid (x:HOk P w H h) (k:∀ b u,h.get? b=some u->h'.get? b=some u) (hp:h.objs.size<=a) (new:kK P w (upd H a o) h' a o):HOk P w (upd H a o) h':=fun b u e=>by
 have hn:=x.fresh hp
 by_cases hb:b=a
 ·subst hb;rw [aZ] at e;cases e;exact new
 ·rw [bC hb] at e
  exact (x b u e).stay (fun c v _ q=>k c v q) (fun c q=>by rw [bC (bB q hn)];exact q) fun c xs q=>by rw [bC (bB q hn)];exact q
end
def Rd (H:Hp) (a:Addr) (u:HO):Prop:=H a=some u∨∃ o,H a=some (.frz o u)
theorem Rd.ok {P:Program} {w:World} {H:Hp} {h:Heap} {a:Addr} {u:HO} (r:Rd H a u) (x:HOk P w H h):kK P w H h a u:=by
 rcases r with r | ⟨o,r⟩
 ·exact x a u r
 ·obtain ⟨_,q⟩:=x a _ r
  exact q
def Mut:Option HO->Prop
 | some (.lst _)=>True
 | some (.dK _)=>True
 | some (.dT _)=>True
 | some (.set _ _)=>True
 | some (.ins _ _ _)=>True
 | some (.ext _)=>True
 | _=>False
section
variable {P:Program} {w:World} {H:Hp} {h h':Heap} {x e:Addr} {o':HO}
theorem HOk.write (ok:HOk P w H h) (mu:Mut (H x)) (he:e=x∨H e=some (.own x)) (k:∀ b u,b≠e->h.get? b=some u->h'.get? b=some u) (heo:∃ u,h'.get? e=some u)
  (new:kK P w (upd H x o') h' x o'):HOk P w (upd H x o') h':=fun b u q=>by
 have nown:∀ c y,H c=some (.own y)->c≠x:=fun c y r z=>by subst z;rw [r] at mu;exact mu
 have ntup:∀ c xs,H c=some (.tup xs)->c≠x:=fun c xs r z=>by subst z;rw [r] at mu;exact mu
 by_cases hb:b=x
 ·subst hb;rw [aZ] at q;cases q;exact new
 ·rw [bC hb] at q
  by_cases hbe:b=e
  ·have q':H b=some (.own x):=by
    rcases he with z | z
    ·exact absurd (hbe.trans z) hb
    ·rw [hbe];exact z
   rw [q] at q';cases q'
   obtain ⟨v,hv⟩:=heo
   exact ⟨v,by rw [hbe];exact hv⟩
  ·refine (ok b u q).stay (fun c v hc r=>k c v ?_ r) (fun c r=>by rw [bC (nown c b r)];exact r) fun c xs r=>by rw [bC (ntup c xs r)];exact r
   rcases hc with rfl | hc
   ·exact hbe
   ·rintro rfl
    rcases he with z | z
    ·exact nown c b hc z
    ·rw [hc] at z;cases z;exact hb rfl
end
structure Un (fs ex:List Addr) (H H':Hp) (h h':Heap):Prop where
 keep:∀ b o,h.get? b=some o->H b=none->b∉fs->b∉ex->h'.get? b=some o
 slot:∀ b o,h.get? b=some o->H b=none->b∈fs->b∉ex->∃ sl,h'.get? b=some { o with slots:=sl }
 free:∀ b o,h.get? b=some o->H b=none->b∉ex->H' b=none
 there:∀ b o,h.get? b=some o->b∉ex->∃ o',h'.get? b=some o'
 tups:∀ b xs,H b=some (.tup xs)->H' b=some (.tup xs)
 frzs:∀ b o u,H b=some (.frz o u)->H' b=some (.frz o u)
 tbls:∀ b ps,H b=some (.tbl ps)->∃ more,H' b=some (.tbl (ps++more))
section
variable {fs fs' ex ex':List Addr} {H H1 H2:Hp} {h h1 h2 h':Heap} {a x e:Addr} {o:HO}
theorem Un.any (u:Un fs ex H H1 h h1) {b:Addr} {ob:Obj} (q:h.get? b=some ob) (n:H b=none) (hx:b∉ex):∃ sl,h1.get? b=some { ob with slots:=sl }:=by
 by_cases hb:b∈fs
 ·exact u.slot b ob q n hb hx
 ·exact ⟨ob.slots,u.keep b ob q n hb hx⟩
theorem Un.kept (k:∀ b u,h.get? b=some u->h'.get? b=some u):Un fs ex H H h h':=
 ⟨fun b ob q _ _ _=>k b ob q,fun b ob q _ _ _=>⟨ob.slots,k b ob q⟩,fun _ _ _ n _=>n,fun b ob q _=>⟨ob,k b ob q⟩,fun _ _ q=>q,fun _ _ _ q=>q,fun _ ps q=>⟨#[],by rw [q];simp⟩⟩
theorem Un.refl:Un fs ex H H h h:=Un.kept fun _ _ q=>q
theorem Un.laid (k:∀ b u,h.get? b=some u->h'.get? b=some u) (hp:h.objs.size<=a) (hn:H a=none):Un fs ex H (upd H a o) h h' where
 keep:=fun b u q _ _ _=>k b u q
 slot:=fun b u q _ _ _=>⟨u.slots,k b u q⟩
 free:=fun b u q n _=>by rw [bC (Nat.ne_of_lt (Nat.lt_of_lt_of_le (Heap.lt_size q) hp))];exact n
 there:=fun b u q _=>⟨u,k b u q⟩
 tups:=fun b xs q=>by rw [bC (bB q hn)];exact q
 frzs:=fun b u xs q=>by rw [bC (bB q hn)];exact q
 tbls:=fun b ps q=>⟨#[],by rw [bC (bB q hn),q];simp⟩
theorem Un.write (mu:Mut (H x)) (he:e=x∨H e=some (.own x)) (k:∀ b u,b≠e->h.get? b=some u->h'.get? b=some u) (heo:∃ u,h'.get? e=some u):Un fs ex H (upd H x o) h h':=by
 have hx:∀ b,H b=none->b≠x:=fun b n z=>by subst z;rw [n] at mu;exact mu
 have hb:∀ b,H b=none->b≠e:=fun b n z=>by
  subst z
  rcases he with r | r
  ·exact hx b n r
  ·rw [n] at r;cases r
 have hm:∀ b u,H b=some u->¬ Mut (some u)->b≠x:=fun b u q nm z=>by subst z;rw [q] at mu;exact nm mu
 refine ⟨fun b u q n _ _=>k b u (hb b n) q,fun b u q n _ _=>⟨u.slots,k b u (hb b n) q⟩,fun b u q n _=>by rw [bC (hx b n)];exact n,fun b u q _=>?_,
  fun b xs q=>by rw [bC (hm b _ q fun z=>z)];exact q,fun b u xs q=>by rw [bC (hm b _ q fun z=>z)];exact q,fun b ps q=>⟨#[],by rw [bC (hm b _ q fun z=>z),q];simp⟩⟩
 by_cases hbe:b=e
 ·subst hbe;exact heo
 ·exact ⟨u,k b u hbe q⟩
end
def trk (h:Heap) (H:Hp):List Addr:=(List.range h.objs.size).filter fun a=>(H a).isSome
def zGQ (h:Heap) (H:Hp):Heap:=PySem.W.hideAll h (trk h H)
theorem zFQ (h:Heap) (H:Hp):(zGQ h H).objs.size=h.objs.size:=PySem.W.hideAll_size _ _
theorem zHm {h:Heap} {H:Hp} {b:Addr} {o:Obj} (e:h.get? b=some o) (n:H b=none):(zGQ h H).get? b=some o:=
 PySem.W.hideAll_get _ e fun hm=>by
  have q:(H b).isSome=true:=(List.mem_filter.mp hm).2
  rw [n] at q;simp at q
theorem zJW {h:Heap} {H:Hp} {b:Addr} {o:Obj} (e:(zGQ h H).get? b=some o):h.get? b=some o/\H b=none:=by
 have e':h.get? b=some o:=PySem.W.of_hideAll (trk h H) e
 refine ⟨e',?_⟩
 cases q:H b with
 | none=>rfl
 | some x=>
  have hm:b∈trk h H:=List.mem_filter.mpr ⟨List.mem_range.mpr (Heap.lt_size e'),by simp [q]⟩
  have z:(zGQ h H).get? b=none:=PySem.W.hideAll_none (trk h H) hm
  rw [z] at e;cases e
def zJq (g h:Heap) (L:Addr):List (Addr×Obj):=(List.range h.objs.size).filterMap fun a=>if a=L∨(g.get? a).isSome=true then none else (h.get? a).map fun o=>(a,o)
def rest (g h:Heap) (L d:Addr):List (Addr×Obj):=(zJq g h L).filter fun p=>decide (p.1≠d)
end L2
namespace L2
open PySem PySem.Spec PyProof.Rows
structure Mod (K:PySem.W.Frag) (mg:Str->Option Value) (base:Heap):Prop where
 kin:K.In base
 glob:base.Ns mainGlobals mg
 blt:∃ mb,base.Ns builtinsNs mb/\∀ x:Str,x ≠ "__name__" -> mb x=bootBuiltins x
 nolimit:base.NoLimit
structure Cx where
 prog:Program
 w:World
 K:PySem.W.Frag
 mg:Str->Option Value
 base:Heap
 A:Around
 N:List Str
 s₀:Shared
 H₀:Hp
 env:Env
 outer:List Env
 stack:List Env
 ex:List Addr
 fn:Str->Bool
 calm:Bool
 pn:List (Addr×Obj)
 xe:Value->Shared->Prop
def frs (l:List Env):List Addr:=l.filterMap (·.frame)
abbrev Cx.fs (X:Cx):List Addr:=frs X.outer
def Vis (sc:Scope) (x:Str):Prop:=sc.names.lookup x=some .local∨sc.names.lookup x=some .cell∨sc.names.lookup x=some .free
def Loc (sc:Scope) (x:Str):Prop:=sc.names.lookup x=some .local∨sc.names.lookup x=some .cell
def zOu (env:Env) (h:Heap) (m:Str->Option Value) (x:Str) (u:Value):Prop:=
 (env.kindOf x=some .local/\m x=some u)∨((env.kindOf x=some .cell∨env.kindOf x=some .free)/\∃ c,env.cells.lookup x=some c/\h.IsCell c (some u))
structure Cx.Ok (X:Cx):Prop where
 mod:Mod X.K X.mg X.base
 kind:X.env.scope.kind=.function
 glob:X.env.globals=mainGlobals
 blt:X.env.builtins=builtinsNs
 above:X.s₀.heap.objs.size<=X.env.locals
 inj:∀ x y c,X.env.cells.lookup x=some c->X.env.cells.lookup y=some c->x=y
 has:∀ x,(X.env.kindOf x=some .cell∨X.env.kindOf x=some .free)->∃ c,X.env.cells.lookup x=some c
 cab:∀ x c,X.fn x=true->X.env.cells.lookup x=some c->X.s₀.heap.objs.size<=c
 hd:X.calm=true->X.A.handled=none
 frames:X.A.frames=some X.stack
 stk:X.stack=X.outer∨(X.stack=X.env::X.outer/\X.env.frame=some X.env.locals)
 exf:∀ b∈X.ex,b≠X.env.locals/\∀ x c,X.env.cells.lookup x=some c->c≠b
 bs:∀ b o,X.base.get? b=some o->X.s₀.heap.get? b=some o/\X.H₀ b=none
 bsz:X.base.objs.size<=X.s₀.heap.objs.size
 noex:∀ b o,X.base.get? b=some o->b∉X.ex
 exfs:∀ b∈X.ex,b∉X.fs
 funs:X.s₀.heap.FunFrames X.base X.outer
 frf:∀ b∈X.fs,X.H₀ b=none
structure Inv (X:Cx) (pins:List (Addr×Obj)) (σ:List (Option V)) (H:Hp) (s:Shared):Prop where
 ok:X.Ok
 os:s.os=X.s₀.os
 bare:AllBare s.gens
 base:Un X.fs X.ex X.H₀ H X.s₀.heap s.heap
 loc:∃ m,s.heap.Ns X.env.locals m/\∀ (i:Nat) (x:Str) (v:V),X.N[i]?=some x->σ[i]?=some (some v)->Vis X.env.scope x->∃ u,cS v u/\zOu X.env s.heap m x u
 cell:∀ x c,X.env.cells.lookup x=some c->∃ v,s.heap.IsCell c v
 free:H X.env.locals=none
 freeC:∀ x c,X.env.cells.lookup x=some c->H c=none
 pin:∀ p∈X.pn++pins,s.heap.get? p.1=some p.2/\H p.1=none/\p.1≠X.env.locals/\p.1∉X.fs/\∀ v,p.2.data≠.cell v
 hok:HOk X.prog X.w H s.heap
 len:σ.length=X.N.length
section
variable {X:Cx} {pins:List (Addr×Obj)} {σ:List (Option V)} {H H':Hp} {s:Shared} {h':Heap}
theorem Cx.Ok.nofr (ok:X.Ok) {b:Addr} {o:Obj} (e:X.base.get? b=some o):b∉X.fs:=fun hb=>by
 have:=(ok.funs.mem hb).1
 rw [e] at this;cases this
theorem Inv.bs (I:Inv X pins σ H s):∀ b o,X.base.get? b=some o->s.heap.get? b=some o/\H b=none:=fun b o e=>
 ⟨I.base.keep b o (I.ok.bs b o e).1 (I.ok.bs b o e).2 (I.ok.nofr e) (I.ok.noex b o e),I.base.free b o (I.ok.bs b o e).1 (I.ok.bs b o e).2 (I.ok.noex b o e)⟩
theorem Inv.bk (I:Inv X pins σ H s):∀ b o,X.base.get? b=some o->s.heap.get? b=some o:=fun b o e=>(I.bs b o e).1
theorem Inv.mod (I:Inv X pins σ H s):Mod X.K X.mg X.base:=I.ok.mod
theorem Inv.kIn (I:Inv X pins σ H s):X.K.In s.heap:=I.ok.mod.kin.keeps I.bk
theorem Inv.lt (I:Inv X pins σ H s):X.env.locals < s.heap.objs.size:=let ⟨_,hn,_⟩:=I.loc;hn.lt
theorem Inv.sz (I:Inv X pins σ H s):X.s₀.heap.objs.size<=s.heap.objs.size:=Nat.le_trans I.ok.above (Nat.le_of_lt I.lt)
theorem Inv.nofs (I:Inv X pins σ H s) {a:Addr} (h:s.heap.objs.size<=a):a∉X.fs:=fun hb=>by
 obtain ⟨_,o,ho,_⟩:=I.ok.funs.mem hb
 exact absurd (Nat.lt_of_lt_of_le (Heap.lt_size ho) (Nat.le_trans I.sz h)) (Nat.lt_irrefl _)
theorem Inv.cne (I:Inv X pins σ H s):∀ x c,X.env.cells.lookup x=some c->c≠X.env.locals:=fun x c e z=>by
 obtain ⟨v,o,ho,hd⟩:=I.cell x c e
 obtain ⟨m,⟨o',es,ep,ho',hd',_⟩,_⟩:=I.loc
 rw [z,ho'] at ho;cases ho;rw [hd'] at hd;cases hd
theorem Inv.funs (I:Inv X pins σ H s):s.heap.FunFrames X.base X.outer:=by
 have all:∀ (l:List Env),(∀ b∈frs l,b∈X.fs)->X.s₀.heap.FunFrames X.base l->s.heap.FunFrames X.base l:=by
  intro l
  induction l with
  | nil=>intro _ _;trivial
  | cons env r ih=>
   intro hs hl
   obtain ⟨hk,⟨L,o,hf,hn,ho,hd⟩,hr⟩:=hl
   have hL:L∈X.fs:=hs L (by unfold frs;rw [List.filterMap_cons,hf];exact List.mem_cons_self)
   obtain ⟨sl,e⟩:=I.base.slot L o ho (I.ok.frf L hL) hL fun z=>I.ok.exfs L z hL
   exact ⟨hk,⟨L,_,hf,hn,e,hd⟩,ih (fun b hb=>hs b (by unfold frs;rw [List.filterMap_cons,hf];exact List.mem_cons_of_mem _ hb)) hr⟩
 exact all X.outer (fun _ hb=>hb) I.ok.funs
theorem Inv.stack (I:Inv X pins σ H s):s.heap.FunFrames X.base X.stack:=by
 rcases I.ok.stk with e | ⟨e,hf⟩
 ·rw [e];exact I.funs
 ·rw [e]
  obtain ⟨m,hn,_⟩:=I.loc
  refine .cons (by rw [I.ok.kind];decide) hf hn ?_ I.funs
  exact Heap.get?_none_of_le (Nat.le_trans I.ok.bsz I.ok.above)
theorem Inv.stkSub (I:Inv X pins σ H s):∀ b∈frs X.stack,b∈X.env.locals::X.fs:=fun b hb=>by
 rcases I.ok.stk with e | ⟨e,hf⟩
 ·rw [e] at hb;exact List.mem_cons_of_mem _ hb
 ·rw [e] at hb
  unfold frs at hb
  rw [List.filterMap_cons,hf] at hb
  exact hb
theorem Inv.stkFree (I:Inv X pins σ H s):∀ b∈frs X.stack,H b=none:=fun b hb=>by
 rcases List.mem_cons.mp (I.stkSub b hb) with e | hb
 ·rw [e];exact I.free
 ·obtain ⟨_,o,ho,_⟩:=I.ok.funs.mem hb
  exact I.base.free b o ho (I.ok.frf b hb) fun z=>I.ok.exfs b z hb
theorem Inv.step {g':Array GenState} {t':Nat} {d':Drawn} {ch:List Addr} (I:Inv X pins σ H s)
  (hch:∀ b∈ch,(b∈X.ex∨X.s₀.heap.objs.size<=b)/\b≠X.env.locals/\(∀ x c,X.env.cells.lookup x=some c->c≠b)/\∀ p∈X.pn++pins,p.1≠b)
  (keep:∀ b o,b≠X.env.locals->b∉X.fs->b∉ch->s.heap.get? b=some o->H b=none->h'.get? b=some o)
  (slot:∀ b o,b≠X.env.locals->b∈X.fs->b∉ch->s.heap.get? b=some o->H b=none->∃ sl,h'.get? b=some { o with slots:=sl }) (free:∀ b o,b∉ch->s.heap.get? b=some o->H b=none->H' b=none)
  (there:∀ b o,b∉ch->s.heap.get? b=some o->∃ o',h'.get? b=some o')
  (tups:∀ b xs,H b=some (.tup xs)->H' b=some (.tup xs)) (frzs:∀ b o u,H b=some (.frz o u)->H' b=some (.frz o u)) (tbls:∀ b ps,H b=some (.tbl ps)->∃ more,H' b=some (.tbl (ps++more)))
  (ns:∀ m,s.heap.Ns X.env.locals m->h'.Ns X.env.locals m) (hok:HOk X.prog X.w H' h') (hg:AllBare g'):
  Inv X pins σ H' { s with heap:=h',gens:=g',drawn:=d',toks:=t' }:=by
 have neL:∀ b o,X.s₀.heap.get? b=some o->b≠X.env.locals:=fun b o e=>Nat.ne_of_lt (Nat.lt_of_lt_of_le (Heap.lt_size e) I.ok.above)
 have neC:∀ b o,X.s₀.heap.get? b=some o->b∉X.ex->b∉ch:=fun b o e hx hb=>by
  rcases (hch b hb).1 with z | z
  ·exact hx z
  ·exact absurd (Nat.lt_of_lt_of_le (Heap.lt_size e) z) (Nat.lt_irrefl _)
 have cellK:∀ x c,X.env.cells.lookup x=some c->∀ v,s.heap.IsCell c v->h'.IsCell c v:=fun x c e v ⟨o,ho,hd⟩=>by
  have nch:c∉ch:=fun z=>(hch c z).2.2.1 x c e rfl
  by_cases hc:c∈X.fs
  ·obtain ⟨sl,q⟩:=slot c o (I.cne x c e) hc nch ho (I.freeC x c e)
   exact ⟨_,q,hd⟩
  ·exact ⟨o,keep c o (I.cne x c e) hc nch ho (I.freeC x c e),hd⟩
 refine ⟨I.ok,I.os,hg,⟨fun b o e n hb hx=>?_,fun b o e n hb hx=>?_,fun b o e n hx=>?_,fun b o e hx=>?_,fun b xs e=>tups b xs (I.base.tups b xs e),fun b o xs e=>frzs b o xs (I.base.frzs b o xs e),fun b ps e=>?_⟩,?_,fun x c e=>?_,?_,fun x c e=>?_,fun p hp=>?_,hok,I.len⟩
 ·exact keep b o (neL b o e) hb (neC b o e hx) (I.base.keep b o e n hb hx) (I.base.free b o e n hx)
 ·obtain ⟨sl,e1⟩:=I.base.slot b o e n hb hx
  obtain ⟨sl',e2⟩:=slot b _ (neL b o e) hb (neC b o e hx) e1 (I.base.free b o e n hx)
  exact ⟨sl',e2⟩
 ·obtain ⟨o',e1⟩:=I.base.there b o e hx
  exact free b o' (neC b o e hx) e1 (I.base.free b o e n hx)
 ·obtain ⟨o',e1⟩:=I.base.there b o e hx
  exact there b o' (neC b o e hx) e1
 ·obtain ⟨m1,e1⟩:=I.base.tbls b ps e
  obtain ⟨m2,e2⟩:=tbls b _ e1
  exact ⟨m1++m2,by rw [e2,Array.append_assoc]⟩
 ·obtain ⟨m,hn,hl⟩:=I.loc
  refine ⟨m,ns m hn,fun i x v e1 e2 e3=>?_⟩
  obtain ⟨u,r,l⟩:=hl i x v e1 e2 e3
  refine ⟨u,r,?_⟩
  rcases l with l | ⟨k,c,e,z⟩
  ·exact .inl l
  ·exact .inr ⟨k,c,e,cellK x c e _ z⟩
 ·obtain ⟨v,z⟩:=I.cell x c e
  exact ⟨v,cellK x c e v z⟩
 ·obtain ⟨m,⟨o,_,_,ho,_⟩,_⟩:=I.loc
  exact free _ o (fun z=>(hch _ z).2.1 rfl) ho I.free
 ·obtain ⟨v,o,ho,hd⟩:=I.cell x c e
  exact free c o (fun z=>(hch c z).2.2.1 x c e rfl) ho (I.freeC x c e)
 ·obtain ⟨e,n,ne,nf,d⟩:=I.pin p hp
  have nch:p.1∉ch:=fun z=>(hch p.1 z).2.2.2 p hp rfl
  exact ⟨keep p.1 p.2 ne nf nch e n,free p.1 p.2 nch e n,ne,nf,d⟩
theorem Inv.un {t':Nat} (I:Inv X pins σ H s) (u:Un X.fs [] H H' s.heap h') (hok:HOk X.prog X.w H' h'):Inv X pins σ H' { s with heap:=h',toks:=t' }:=by
 obtain ⟨m,⟨o,es,ep,ho,r⟩,_⟩:=id I.loc
 obtain ⟨sl,hL⟩:=u.any ho I.free (by simp)
 exact I.step (g':=s.gens) (d':=s.drawn) (ch:=[]) (fun _ z=>nomatch z) (fun b o _ hb _ e n=>u.keep b o e n hb (by simp)) (fun b o _ hb _ e n=>u.slot b o e n hb (by simp)) (fun b o _ e n=>u.free b o e n (by simp)) (fun b o _ e=>u.there b o e (by simp)) u.tups u.frzs u.tbls (fun m' hm=>by
  obtain ⟨o',es',ep',ho',r'⟩:=hm
  rw [ho] at ho';cases ho'
  exact ⟨_,es',ep',hL,r'⟩) hok I.bare
theorem Inv.call {g':Array GenState} {t':Nat} {d':Drawn} {ch:List Addr} (I:Inv X pins σ H s) (u:Un (frs X.stack) ch H H' s.heap h') (hok:HOk X.prog X.w H' h') (hg:AllBare g')
  (hch:∀ b∈ch,(b∈X.ex∨X.s₀.heap.objs.size<=b)/\b≠X.env.locals/\(∀ x c,X.env.cells.lookup x=some c->c≠b)/\∀ p∈X.pn++pins,p.1≠b):
  Inv X pins σ H' { s with heap:=h',gens:=g',drawn:=d',toks:=t' }:=by
 obtain ⟨m,⟨o,es,ep,ho,r⟩,_⟩:=id I.loc
 obtain ⟨sl,hL⟩:=u.any ho I.free fun z=>(hch _ z).2.1 rfl
 exact I.step (ch:=ch) hch (fun b o hL hb hc e n=>u.keep b o e n (fun z=>(List.mem_cons.mp (I.stkSub b z)).elim hL hb) hc) (fun b o _ _ hc e n=>u.any e n hc) (fun b o hc e n=>u.free b o e n hc) (fun b o hc e=>u.there b o e hc) u.tups u.frzs u.tbls (fun m' hm=>by
  obtain ⟨o',es',ep',ho',r'⟩:=hm
  rw [ho] at ho';cases ho'
  exact ⟨_,es',ep',hL,r'⟩) hok hg
theorem Inv.turned {t':Nat} {it:Addr} (I:Inv X pins σ H s) (k:∀ b o,b≠it->s.heap.get? b=some o->h'.get? b=some o) (hn:H it=none) (hL:it≠X.env.locals)
  (h1:it∈X.ex∨X.s₀.heap.objs.size<=it) (h2:∀ x c,X.env.cells.lookup x=some c->c≠it) (h3:∀ p∈X.pn++pins,p.1≠it):Inv X pins σ H { s with heap:=h',toks:=t' }:=by
 have nit:∀ b u,H b=some u->b≠it:=fun b u e z=>by rw [z,hn] at e;cases e
 refine I.step (g':=s.gens) (d':=s.drawn) (ch:=[it]) (fun b hb=>?_) (fun b o _ _ hc e _=>k b o (fun z=>hc (by simp [z])) e) (fun b o _ _ hc e _=>⟨o.slots,k b o (fun z=>hc (by simp [z])) e⟩) (fun _ _ _ _ n=>n)
  (fun b o hc e=>⟨o,k b o (fun z=>hc (by simp [z])) e⟩) (fun _ _ e=>e) (fun _ _ _ e=>e) (fun b ps e=>⟨#[],by rw [e];simp⟩) (fun m hm=>?_) (fun b u e=>?_) I.bare
 ·have e:b=it:=by simpa using hb
  subst e
  exact ⟨h1,hL,h2,h3⟩
 ·obtain ⟨o,es,ep,ho,r⟩:=hm
  exact ⟨o,es,ep,k _ o (Ne.symm hL) ho,r⟩
 ·refine (I.hok b u e).stay (fun c v hc q=>k c v ?_ q) (fun _ q=>q) fun _ _ q=>q
  rcases hc with z | z
  ·rw [z];exact nit b u e
  ·exact nit c _ z
theorem Inv.tok (I:Inv X pins σ H s) (t:Nat):Inv X pins σ H { s with toks:=t }:=I.un (h':=s.heap) (t':=t) Un.refl I.hok
theorem Inv.kept {t':Nat} (I:Inv X pins σ H s) (k:∀ b u,s.heap.get? b=some u->h'.get? b=some u):Inv X pins σ H { s with heap:=h',toks:=t' }:=I.un (Un.kept k) (I.hok.kept k)
theorem Inv.laid {a:Addr} {o:HO} {t':Nat} (I:Inv X pins σ H s) (k:∀ b u,s.heap.get? b=some u->h'.get? b=some u) (hp:s.heap.objs.size<=a) (new:kK X.prog X.w (upd H a o) h' a o):
  Inv X pins σ (upd H a o) { s with heap:=h',toks:=t' }:=I.un (Un.laid k hp (I.hok.fresh hp)) (I.hok.laid k hp new)
theorem Inv.write {x e:Addr} {o:HO} {t':Nat} (I:Inv X pins σ H s) (mu:Mut (H x)) (he:e=x∨H e=some (.own x)) (k:∀ b u,b≠e->s.heap.get? b=some u->h'.get? b=some u) (heo:∃ u,h'.get? e=some u)
  (new:kK X.prog X.w (upd H x o) h' x o):Inv X pins σ (upd H x o) { s with heap:=h',toks:=t' }:=I.un (Un.write mu he k heo) (I.hok.write mu he k heo new)
theorem Inv.pins_of {pins':List (Addr×Obj)} (I:Inv X pins σ H s) (h:∀ p∈pins',s.heap.get? p.1=some p.2/\H p.1=none/\p.1≠X.env.locals/\p.1∉X.fs/\∀ v,p.2.data≠.cell v):Inv X pins' σ H s:=
 ⟨I.ok,I.os,I.bare,I.base,I.loc,I.cell,I.free,I.freeC,fun p hp=>(List.mem_append.mp hp).elim (fun z=>I.pin p (List.mem_append_left _ z)) (h p),I.hok,I.len⟩
theorem zCu {N:List Str} (hN:N.Nodup) {i j:Nat} {x:Str} (a:N[i]?=some x) (b:N[j]?=some x):i=j:=by
 obtain ⟨h1,e1⟩:=List.getElem?_eq_some_iff.mp a
 obtain ⟨h2,e2⟩:=List.getElem?_eq_some_iff.mp b
 exact (List.getElem_inj hN).mp (e1.trans e2.symm)
theorem zBn {M:Model} {A:Around} {E:Value->Shared->Prop} {i:Nat} {x:Str} {v:V} {u:Value} {Q:Unit->Shared->Prop} (I:Inv X pins σ H s) (hN:X.N.Nodup) (hi:X.N[i]?=some x) (hx:Loc X.env.scope x) (r:cS v u)
  (h:∀ s',Inv X pins (σ.set i (some v)) H s'->(∃ a,Heap.SameBut a s.heap s'.heap/\(a=X.env.locals∨X.env.cells.lookup x=some a))->Q () s') (hf:X.fn x=true∨X.env.scope.names.lookup x=some .local:=by first | exact .inl rfl | exact .inr rfl | assumption):wpAny M A (storeName X.env x u) Q E s:=by
 obtain ⟨m,hn,hl⟩:=id I.loc
 have hcls:(X.env.scope.kind==.class || (X.env.scope.kind==.module && X.env.locals != X.env.globals))=false:=by rw [I.ok.kind];rfl
 have hiσ:i < σ.length:=by rw [I.len];exact (List.getElem?_eq_some_iff.mp hi).1
 have cne:=I.cne
 have tracked:∀ {a:Addr} {h':Heap},(∃ o,s.heap.get? a=some o/\H a=none)->Heap.SameBut a s.heap h'->HOk X.prog X.w H h':=fun {a h'} ha hs b ob e=>by
  obtain ⟨_,_,hfree⟩:=ha
  refine (I.hok b ob e).stay (fun c w' hc q=>(hs.2 c ?_).trans q) (fun _ q=>q) fun _ _ q=>q
  rintro rfl
  rcases hc with rfl | hc
  ·rw [hfree] at e;cases e
  ·rw [hfree] at hc;cases hc
 rcases hx with hk | hk
 ·refine wpAny_storeName_local hk hn (fun h' hn' hs=>?_) hcls
  obtain ⟨oL,_,_,hoL,_⟩:=id hn
  refine h _ ⟨I.ok,I.os,I.bare,⟨fun b o e n hb hx=>?_,fun b o e n hb hx=>?_,I.base.free,fun b o e hx=>?_,I.base.tups,I.base.frzs,I.base.tbls⟩,⟨_,hn',fun j y v' e1 e2 e3=>?_⟩,fun y c e=>?_,I.free,I.freeC,fun p hp=>?_,tracked ⟨oL,hoL,I.free⟩ hs,by simpa using I.len⟩ ⟨_,hs,.inl rfl⟩
  ·exact (hs.2 b (Nat.ne_of_lt (Nat.lt_of_lt_of_le (Heap.lt_size e) I.ok.above))).trans (I.base.keep b o e n hb hx)
  ·obtain ⟨sl,e1⟩:=I.base.slot b o e n hb hx
   exact ⟨sl,(hs.2 b (Nat.ne_of_lt (Nat.lt_of_lt_of_le (Heap.lt_size e) I.ok.above))).trans e1⟩
  ·obtain ⟨o',e1⟩:=I.base.there b o e hx
   exact ⟨o',(hs.2 b (Nat.ne_of_lt (Nat.lt_of_lt_of_le (Heap.lt_size e) I.ok.above))).trans e1⟩
  ·by_cases hj:j=i
   ·subst hj
    rw [hi] at e1;cases e1
    rw [List.getElem?_set_self hiσ] at e2
    cases e2
    exact ⟨u,r,.inl ⟨hk,by simp⟩⟩
   ·rw [List.getElem?_set_ne (Ne.symm hj)] at e2
    obtain ⟨u',r',q⟩:=hl j y v' e1 e2 e3
    refine ⟨u',r',?_⟩
    rcases q with ⟨k,e⟩ | ⟨k,c,e,z⟩
    ·refine .inl ⟨k,?_⟩
     have:y≠x:=fun e=>hj (zCu hN e1 (e ▸ hi))
     simp [this,e]
    ·exact .inr ⟨k,c,e,z.sameBut hs (cne y c e)⟩
  ·obtain ⟨w',z⟩:=I.cell y c e
   exact ⟨w',z.sameBut hs (cne y c e)⟩
  ·obtain ⟨e,n,ne,nf,d⟩:=I.pin p hp
   exact ⟨(hs.2 p.1 ne).trans e,n,ne,nf,d⟩
 ·have hfn:X.fn x=true:=by
   rcases hf with z | z
   ·exact z
   ·rw [z] at hk;cases hk
  obtain ⟨c,hc⟩:=I.ok.has x (.inl hk)
  obtain ⟨w',z⟩:=I.cell x c hc
  refine wpAny_storeName_cell I.ok.kind hk hc z (fun h' hc' hs=>?_)
  obtain ⟨oc,hoc,hocd⟩:=id z
  refine h { s with heap:=h' } ⟨I.ok,I.os,I.bare,⟨fun b o e n hb hx=>?_,fun b o e n hb hx=>?_,I.base.free,fun b o e hx=>?_,I.base.tups,I.base.frzs,I.base.tbls⟩,⟨m,hn.sameBut hs (Ne.symm (cne x c hc)),fun j y v' e1 e2 e3=>?_⟩,fun y c' e=>?_,I.free,I.freeC,fun p hp=>?_,tracked ⟨oc,hoc,I.freeC x c hc⟩ hs,by simpa using I.len⟩ ⟨c,hs,.inr hc⟩
  ·exact (hs.2 b (Nat.ne_of_lt (Nat.lt_of_lt_of_le (Heap.lt_size e) (I.ok.cab x c hfn hc)))).trans (I.base.keep b o e n hb hx)
  ·obtain ⟨sl,e1⟩:=I.base.slot b o e n hb hx
   exact ⟨sl,(hs.2 b (Nat.ne_of_lt (Nat.lt_of_lt_of_le (Heap.lt_size e) (I.ok.cab x c hfn hc)))).trans e1⟩
  ·obtain ⟨o',e1⟩:=I.base.there b o e hx
   exact ⟨o',(hs.2 b (Nat.ne_of_lt (Nat.lt_of_lt_of_le (Heap.lt_size e) (I.ok.cab x c hfn hc)))).trans e1⟩
  ·by_cases hj:j=i
   ·subst hj
    rw [hi] at e1;cases e1
    rw [List.getElem?_set_self hiσ] at e2
    cases e2
    exact ⟨u,r,.inr ⟨.inl hk,c,hc,hc'⟩⟩
   ·rw [List.getElem?_set_ne (Ne.symm hj)] at e2
    obtain ⟨u',r',q⟩:=hl j y v' e1 e2 e3
    refine ⟨u',r',?_⟩
    rcases q with q | ⟨k,c',e,z'⟩
    ·exact .inl q
    ·refine .inr ⟨k,c',e,z'.sameBut hs ?_⟩
     rintro rfl
     exact hj (zCu hN e1 (I.ok.inj _ _ _ e hc ▸ hi))
  ·by_cases hcc:c'=c
   ·subst hcc;exact ⟨_,hc'⟩
   ·obtain ⟨w2,z2⟩:=I.cell y c' e
    exact ⟨w2,z2.sameBut hs hcc⟩
  ·obtain ⟨e,n,ne,nf,d⟩:=I.pin p hp
   refine ⟨(hs.2 p.1 ?_).trans e,n,ne,nf,d⟩
   intro q
   rw [q,hoc] at e
   have q':oc=p.2:=Option.some.inj e
   exact d w' (by rw [<-q'];exact hocd)
theorem rC {M:Model} {A:Around} {E:Value->Shared->Prop} {i:Nat} {x:Str} {v:V} {u:Value} {Q:Unit->Shared->Prop} (I:Inv X pins σ H s) (hN:X.N.Nodup) (hi:X.N[i]?=some x) (hx:Loc X.env.scope x) (r:cS v u)
  (h:∀ s',Inv X pins (σ.set i (some v)) H s'->Q () s') (hf:X.fn x=true∨X.env.scope.names.lookup x=some .local:=by first | exact .inl rfl | exact .inr rfl | assumption):wpAny M A (storeName X.env x u) Q E s:=
 zBn I hN hi hx r (fun s' I' _=>h s' I') hf
theorem Inv.call' {s':Shared} {ch:List Addr} (I:Inv X pins σ H s) (ho:s'.os=s.os) (u:Un (frs X.stack) ch H H' s.heap s'.heap) (hok:HOk X.prog X.w H' s'.heap) (hg:AllBare s'.gens)
  (hch:∀ b∈ch,(b∈X.ex∨X.s₀.heap.objs.size<=b)/\b≠X.env.locals/\(∀ x c,X.env.cells.lookup x=some c->c≠b)/\∀ p∈X.pn++pins,p.1≠b):Inv X pins σ H' s':=by
 obtain ⟨h',g',d',t',o'⟩:=s'
 have e:o'=s.os:=ho
 subst e
 exact I.call (g':=g') (t':=t') (d':=d') u hok hg hch
end
abbrev XK:=Value->Option Addr->Hp->Prop
abbrev St:=List (Option V)
abbrev VK:=V->Hp->Prop
abbrev TE:=St->Hp->VK->Prop
abbrev TT:=St->Hp->(Bool->Hp->Prop)->Prop
abbrev TA:=St->Hp->(List V->Hp->Prop)->Prop
structure Ends where
 nx:St->Hp->Prop
 rt:VK
 bk:St->Hp->Prop:=fun _ _=>False
 ct:St->Hp->Prop:=fun _ _=>False
abbrev TS:=Ends->St->Hp->Prop
def EP (X:Cx) (pins:List (Addr×Obj)) (σ:St) (Q:VK) (u:Value) (s':Shared):Prop:=∃ v H',Inv X pins σ H' s'/\cS v u/\Q v H'
def TP (X:Cx) (pins:List (Addr×Obj)) (σ:St) (Q:Bool->Hp->Prop) (b:Bool) (s':Shared):Prop:=∃ H',Inv X pins σ H' s'/\Q b H'
def AP (X:Cx) (pins:List (Addr×Obj)) (σ:St) (Q:List V->Hp->Prop) (us:List Value) (s':Shared):Prop:=∃ vs H',Inv X pins σ H' s'/\dE vs us/\Q vs H'
def SP (X:Cx) (pins:List (Addr×Obj)) (D:Ends) (f:Flow) (s':Shared):Prop:=
 match f with
 | .next=>∃ σ' H',Inv X pins σ' H' s'/\D.nx σ' H'
 | .brk=>∃ σ' H',Inv X pins σ' H' s'/\D.bk σ' H'
 | .cont=>∃ σ' H',Inv X pins σ' H' s'/\D.ct σ' H'
 | .ret u=>∃ v σ' H',Inv X pins σ' H' s'/\cS v u/\D.rt v H'
def PE (X:Cx) (e:Expr) (t:TE):Prop:=
 ∀ (pins:List (Addr×Obj)) (s:Shared) (σ:St) (H:Hp) (Q:VK),Inv X pins σ H s->t σ H Q->wpAny (model X.prog X.w) X.A (eval e X.env) (EP X pins σ Q) X.xe s
def PT (X:Cx) (e:Expr) (t:TT):Prop:=
 ∀ (pins:List (Addr×Obj)) (s:Shared) (σ:St) (H:Hp) (Q:Bool->Hp->Prop),Inv X pins σ H s->t σ H Q->wpAny (model X.prog X.w) X.A (isTrue e X.env (eval e X.env)) (TP X pins σ Q) X.xe s
def PW (X:Cx) (e:Expr) (t:TT):Prop:=
 ∀ (whole:Sem Value) (pins:List (Addr×Obj)) (s:Shared) (σ:St) (H:Hp) (Q:Bool->Hp->Prop),Inv X pins σ H s->t σ H Q->wpAny (model X.prog X.w) X.A (isTrue e X.env whole) (TP X pins σ Q) X.xe s
theorem PW.pt {X:Cx} {e:Expr} {t:TT} (h:PW X e t):PT X e t:=h _
def PA (X:Cx) (es:List Expr) (t:TA):Prop:=
 ∀ (pos:Pos) (pins:List (Addr×Obj)) (s:Shared) (σ:St) (H:Hp) (Q:List V->Hp->Prop),Inv X pins σ H s->t σ H Q->wpAny (model X.prog X.w) X.A (spliced (backTo pos (starEach es X.env))) (AP X pins σ Q) X.xe s
def PS (X:Cx) (st:Stmt) (t:TS):Prop:=
 ∀ (pins:List (Addr×Obj)) (s:Shared) (σ:St) (H:Hp) (D:Ends),Inv X pins σ H s->t D σ H->wpAny (model X.prog X.w) X.A (exec st X.env) (SP X pins D) X.xe s
def PSs (X:Cx) (st:List Stmt) (t:TS):Prop:=
 ∀ (pins:List (Addr×Obj)) (s:Shared) (σ:St) (H:Hp) (D:Ends),Inv X pins σ H s->t D σ H->wpAny (model X.prog X.w) X.A (execs st X.env) (SP X pins D) X.xe s
theorem thn {α:Type} {t:Sem α} {Q Q':α->Shared->Prop} {M:Model} {A:Around} {E:Value->Shared->Prop} {s:Shared} (h:wpAny M A t Q E s) (hQ:∀ a s,Q a s->Q' a s):wpAny M A t Q' E s:=wpAny_mono h hQ fun _ _ x=>x
end L2
namespace L2
open PySem PySem.Spec PyProof.Rows
section
variable {X:Cx}
theorem bin {a b:Expr} {ta tb:TE} (ha:PE X a ta) (hb:PE X b tb) {pins:List (Addr×Obj)} {s:Shared} {σ:St} {H:Hp} {R:V->V->Hp->Prop} (I:Inv X pins σ H s) (h:ta σ H fun x H1=>tb σ H1 fun y H2=>R x y H2)
  {α:Type} {Q:α->Shared->Prop} {f:Value->Value->Sem α}
  (hf:∀ v u s2 x y H2,Inv X pins σ H2 s2->cS x v->cS y u->R x y H2->wpAny (model X.prog X.w) X.A (f v u) Q X.xe s2):
  wpAny (model X.prog X.w) X.A (eval a X.env) (fun v s₁=>wpAny (model X.prog X.w) X.A (eval b X.env) (fun u s₂=>wpAny (model X.prog X.w) X.A (f v u) Q X.xe s₂) X.xe s₁) X.xe s:=by
 refine thn (ha pins s σ H _ I h) fun v s1 ⟨x,H1,I1,r1,q1⟩=>?_
 refine thn (hb pins s1 σ H1 _ I1 q1) fun u s2 ⟨y,H2,I2,r2,q2⟩=>?_
 exact hf v u s2 x y H2 I2 r1 r2 q2
abbrev zDV (i:Nat):TE:=fun σ H Q=>∃ v,σ[i]?=some (some v)/\Q v H
abbrev tC (v:V):TE:=fun _ H Q=>Q v H
theorem sN {i:Nat} {x:Str} {pos:Pos} (hN:X.N[i]?=some x) (hv:Vis X.env.scope x) (hd:(x==("__debug__" : Str))=false:=by decide) (hcd:(x==("__classdict__" : Str))=false:=by decide):PE X (.Name x pos) (zDV i):=by
 intro pins s σ H Q I h
 obtain ⟨v,e,h⟩:=h
 obtain ⟨m,hn,hl⟩:=I.loc
 obtain ⟨u,r,l⟩:=hl i x v hN e hv
 have fin:EP X pins σ Q u s:=⟨v,H,I,r,h⟩
 rcases l with ⟨hk,hm⟩ | ⟨hk,c,hc,hcell⟩
 ·exact wpAny_Name (wpAny_loadName_local I.ok.kind hk hn hm fin) hd
 ·rcases hk with hk | hk
  ·exact wpAny_Name (wpAny_loadName_cell I.ok.kind hk hc hcell fin) hd
  ·exact wpAny_Name (wpAny_loadName_free I.ok.kind hk hc hcell fin hcd) hd
theorem aH {i j pos}:PE X (.Constant (.int i) j pos) (tC (.int i)):=fun _ _ _ H _ I h=>wpAny_Constant_int ⟨.int i,H,I.tok _,⟨_,rfl⟩,h⟩
theorem nK {b j pos}:PE X (.Constant (.bool b) j pos) (tC (.bl b)):=fun _ _ _ H _ I h=>Constant_bool ⟨.bl b,H,I,rfl,h⟩
theorem eH {x j pos}:PE X (.Constant (.str x) j pos) (tC (.str x)):=fun _ _ _ H _ I h=>Calls.Constant_str ⟨.str x,H,I.tok _,⟨_,rfl⟩,h⟩
def Gl (X:Cx) (x:Str):Prop:=X.env.kindOf x=some .globalImplicit
theorem zBS {E:Value->Shared->Prop} {pins:List (Addr×Obj)} {s:Shared} {σ:St} {H:Hp} {x:Str} {u:Value} {pos:Pos} {Q:Value->Shared->Prop} (I:Inv X pins σ H s) (hg:Gl X x) (hm:X.mg x=some u) (h:Q u s)
  (hd:(x==("__debug__" : Str))=false:=by decide):wpAny (model X.prog X.w) X.A (eval (.Name x pos) X.env) Q E s:=
 Calls.Name_function_global I.ok.kind hg (Calls.loadGlobal_global (by rw [I.ok.glob];exact I.mod.glob.keeps I.bk) hm h) hd
theorem mG {E:Value->Shared->Prop} {pins:List (Addr×Obj)} {s:Shared} {σ:St} {H:Hp} {x:Str} {u:Value} {pos:Pos} {Q:Value->Shared->Prop} (I:Inv X pins σ H s) (hg:Gl X x) (hm:X.mg x=none) (hv:bootBuiltins x=some u) (h:Q u s)
  (hn:x ≠ "__name__" := by decide) (hd:(x==("__debug__" : Str))=false:=by decide):wpAny (model X.prog X.w) X.A (eval (.Name x pos) X.env) Q E s:=by
 obtain ⟨mb,h1,h2⟩:=I.mod.blt
 exact Calls.Name_function_global I.ok.kind hg (Calls.loadGlobal_builtin (by rw [I.ok.glob];exact I.mod.glob.keeps I.bk) hm (by rw [I.ok.blt];exact h1.keeps I.bk) ((h2 x hn).trans hv) h) hd
theorem zFe {x:Str} {v:V} {u:Value} {pos:Pos} (hg:Gl X x) (hm:X.mg x=some u) (r:cS v u) (hd:(x==("__debug__" : Str))=false:=by decide):PE X (.Name x pos) (tC v):=
 fun _ _ _ H _ I h=>zBS I hg hm ⟨v,H,I,r,h⟩ hd
theorem nN {x:Str} {v:V} {u:Value} {pos:Pos} (hg:Gl X x) (hm:X.mg x=none) (hv:bootBuiltins x=some u) (r:cS v u) (hn:x ≠ "__name__" := by decide) (hd:(x==("__debug__" : Str))=false:=by decide):PE X (.Name x pos) (tC v):=
 fun _ _ _ H _ I h=>mG I hg hm hv ⟨v,H,I,r,h⟩ hn hd
variable {a b:Expr} {ta tb:TE} {pos:Pos}
def PC (X:Cx) (op:CmpOp) (a b:Expr) (t:TE):Prop:=
 ∀ (pins:List (Addr×Obj)) (s:Shared) (σ:St) (H:Hp) (Q:VK),Inv X pins σ H s->t σ H Q->
  wpAny (model X.prog X.w) X.A (eval a X.env) (fun v s₁=>wpAny (model X.prog X.w) X.A (eval b X.env) (fun u s₂=>wpAny (model X.prog X.w) X.A (compareOp op v u) (EP X pins σ Q) X.xe s₂) X.xe s₁) X.xe s
theorem zHJ (b:Expr) {op:CmpOp} (h:op≠.In) (h2:op≠.NotIn):behindInMarks op b=false:=by
 have e1:(op==CmpOp.In)=false:=by cases op<;>first | rfl | exact absurd rfl h
 have e2:(op==CmpOp.NotIn)=false:=by cases op<;>first | rfl | exact absurd rfl h2
 cases b<;>simp [behindInMarks,e1,e2]
abbrev tB (t:TE):TT:=fun σ H Q=>t σ H fun x H1=>∃ c,x=.bl c/\Q c H1
theorem zOf {op:CmpOp} {t:TE} (h:PC X op a b t) (h1:behindInMarks op b=false:=by first | exact zHJ _ (by decide) (by decide) | rfl):PT X (.Compare a [op] [b] pos) (tB t):=by
 intro pins s σ H Q I hw
 refine wpAny_isTrue_Compare1 (thn (h pins s σ H _ I hw) fun v s1 h1=>thn h1 fun u s2 h2=>thn h2 fun c s3 ⟨x,H1,I1,r1,q1⟩=>?_) h1
 obtain ⟨d,rfl,q⟩:=q1
 cases r1
 exact wpAny_truthy_bool ⟨H1,I1,q⟩
theorem zLs {e:Expr} {t:TE} (h:PE X e t) (he:∀ whole,isTrue e X.env whole=(do let v <-whole;standAt e.pos;holding [v] (truthy v)):=by intro _;rfl):PT X e (tB t):=by
 intro pins s σ H Q I hw
 refine isTrue_plain (thn (h pins s σ H _ I hw) fun v s1 ⟨x,H1,I1,r1,q1⟩=>?_) (he _)
 obtain ⟨d,rfl,q⟩:=q1
 cases r1
 exact wpAny_truthy_bool ⟨H1,I1,q⟩
variable {tA tB':TT} {rest:List Expr}
abbrev zOy (t u:TT):TT:=fun σ H Q=>t σ H fun c H1=>if c=true then u σ H1 Q else Q false H1
abbrev tOr (t u:TT):TT:=fun σ H Q=>t σ H fun c H1=>if c=true then Q true H1 else u σ H1 Q
abbrev zOx (t:TT):TT:=fun σ H Q=>t σ H fun c H1=>Q (!c) H1
theorem zJx (ha:PT X a tA):PW X (.BoolOp .And [a] pos) tA:=by
 intro wh pins s σ H Q I h
 refine isTrue_and (thn (ha pins s σ H Q I h) fun c s1 e=>?_)
 cases c with
 | true=>exact isTrue_and_nil e
 | false=>exact e
theorem zLh (ha:PT X a tA):PW X (.BoolOp .Or [a] pos) tA:=by
 intro wh pins s σ H Q I h
 refine isTrue_or (thn (ha pins s σ H Q I h) fun c s1 e=>?_)
 cases c with
 | false=>exact isTrue_or_nil e
 | true=>exact e
theorem zLk (ha:PT X a tA) (hb:PW X (.BoolOp .And (b::rest) pos) tB'):PW X (.BoolOp .And (a::b::rest) pos) (zOy tA tB'):=by
 intro wh pins s σ H Q I h
 refine isTrue_and (thn (ha pins s σ H _ I h) fun c s1 ⟨H1,I1,q1⟩=>?_)
 cases c with
 | true=>exact hb wh pins s1 σ H1 Q I1 q1
 | false=>exact ⟨H1,I1,q1⟩
theorem zNq (ha:PT X a tA) (hb:PW X (.BoolOp .Or (b::rest) pos) tB'):PW X (.BoolOp .Or (a::b::rest) pos) (tOr tA tB'):=by
 intro wh pins s σ H Q I h
 refine isTrue_or (thn (ha pins s σ H _ I h) fun c s1 ⟨H1,I1,q1⟩=>?_)
 cases c with
 | true=>exact ⟨H1,I1,q1⟩
 | false=>exact hb wh pins s1 σ H1 Q I1 q1
theorem zKR (ha:PT X a tA):PT X (.UnaryOp .Not a pos) (zOx tA):=by
 intro pins s σ H Q I h
 exact isTrue_not (ha pins s σ H (fun c H1=>Q (!c) H1) I h)
abbrev zMZ (ta tb:TE):TE:=fun σ H Q=>ta σ H fun x H1=>∃ c,x=.bl c/\if c=true then tb σ H1 Q else Q (.bl false) H1
theorem zMx {op} {t:TE} (h:PE X a t):PE X (.BoolOp op [a] pos) t:=fun pins s σ H Q I hw=>BoolOp_one (h pins s σ H Q I hw)
theorem zLo (ha:PE X a ta) (hb:PE X (.BoolOp .And (b::rest) pos) tb):PE X (.BoolOp .And (a::b::rest) pos) (zMZ ta tb):=by
 intro pins s σ H Q I h
 refine BoolOp_and (thn (ha pins s σ H _ I h) fun v s1 ⟨x,H1,I1,r1,q1⟩=>?_)
 obtain ⟨c,rfl,q1⟩:=q1
 cases r1
 refine wpAny_truthy_bool ?_
 cases c with
 | true=>exact hb pins s1 σ H1 Q I1 q1
 | false=>exact ⟨.bl false,H1,I1,rfl,q1⟩
abbrev tIf (t:TT) (ta tb:TE):TE:=fun σ H Q=>t σ H fun c H1=>if c=true then ta σ H1 Q else tb σ H1 Q
theorem zHN {c:Expr} (hc:PT X c tA) (ha:PE X a ta) (hb:PE X b tb):PE X (.IfExp c a b pos) (tIf tA ta tb):=by
 intro pins s σ H Q I h
 refine wpAny_IfExp (thn (hc pins s σ H _ I h) fun d s1 ⟨H1,I1,q1⟩=>?_)
 cases d with
 | true=>exact ha pins s1 σ H1 Q I1 q1
 | false=>exact hb pins s1 σ H1 Q I1 q1
end
end L2
namespace L2
open PySem PySem.Spec PyProof.Rows
def SqL (K:PySem.W.Frag) (H:Hp) (a:Addr) (xs:List V):Prop:=
 Rd H a (.lst xs)∨
  ∃ (o:Obj) (its:Array Value) (n:Nat),K.lookup a=some o/\o.cls=.type "list" /\ o.dict=none/\o.data=.seq its n/\its.size<=sizeLine/\dE xs its.toList
def SqT (K:PySem.W.Frag) (H:Hp) (a:Addr) (xs:List V):Prop:=
 Rd H a (.tup xs)∨
  ∃ (o:Obj) (its:Array Value) (n:Nat),K.lookup a=some o/\o.cls=.type "tuple" /\ o.data=.seq its n/\its.size<=sizeLine/\dE xs its.toList
def zOJ:Value->Option V
 | .none=>some .non
 | .bool b=>some (.bl b)
 | .int i _=>some (.int i)
 | .str x _=>some (.str x)
 | .bytes b _=>some (.byt b)
 | .float b _=>some (.flt b)
 | .ref a=>some (.ref a)
 | .type n=>some (.ty n)
 | _=>none
theorem cS.abs {x:V} {u:Value} (r:cS x u):zOJ u=some x:=by
 cases x with
 | non=>cases r;rfl
 | bl _=>cases r;rfl
 | int _=>obtain ⟨t,rfl⟩:=r;rfl
 | str _=>obtain ⟨t,rfl⟩:=r;rfl
 | byt _=>obtain ⟨t,rfl⟩:=r;rfl
 | flt _=>obtain ⟨t,rfl⟩:=r;rfl
 | ref _=>cases r;rfl
 | ty _=>cases r;rfl
theorem cS.inj {x y:V} {u:Value} (r:cS x u) (q:cS y u):x=y:=Option.some.inj (r.abs.symm.trans q.abs)
theorem dE.inj:∀ {xs ys:List V} {us:List Value},dE xs us->dE ys us->xs=ys
 | _,_,_,.nil,.nil=>rfl
 | _,_,_,.cons r t,.cons r' t'=>by rw [r.inj r',dE.inj t t']
section
variable {X:Cx} {pins:List (Addr×Obj)} {σ:St} {H:Hp} {s:Shared} {a:Addr} {xs ys:List V}
theorem SqL.of {K:PySem.W.Frag} (h:H a=some (.lst xs)):SqL K H a xs:=.inl (.inl h)
theorem SqT.of {K:PySem.W.Frag} (h:H a=some (.tup xs)):SqT K H a xs:=.inl (.inl h)
theorem Inv.list (I:Inv X pins σ H s) (h:SqL X.K H a xs):∃ its:List Value,dE xs its/\PlainL s.heap a its.toArray/\xs.length<=sizeLine:=by
 rcases h with h | ⟨o,its,n,hk,hc,hd,hs,hz,r⟩
 ·obtain ⟨z,its,n,r,e⟩:=h.ok I.hok
  exact ⟨its,r,⟨_,n,e,rfl,rfl,rfl⟩,z⟩
 ·refine ⟨its.toList,r,⟨o,n,I.kIn a o hk,hc,hd,by simpa using hs⟩,?_⟩
  have e:=r.length
  simp only [Array.length_toList] at e
  omega
theorem Inv.tuple (I:Inv X pins σ H s) (h:SqT X.K H a xs):∃ its:List Value,dE xs its/\IsTup s.heap a its.toArray/\xs.length<=sizeLine:=by
 rcases h with h | ⟨o,its,n,hk,hc,hs,hz,r⟩
 ·obtain ⟨z,its,r,p⟩:=h.ok I.hok
  exact ⟨its,r,p,z⟩
 ·refine ⟨its.toList,r,⟨o,I.kIn a o hk,hc,n,by simpa using hs⟩,?_⟩
  have e:=r.length
  simp only [Array.length_toList] at e
  omega
theorem Inv.list_inj (I:Inv X pins σ H s) (h:SqL X.K H a xs) (h':SqL X.K H a ys):xs=ys:=by
 obtain ⟨its,r,⟨o,n,e,_,_,d⟩,_⟩:=I.list h
 obtain ⟨its',r',⟨o',n',e',_,_,d'⟩,_⟩:=I.list h'
 rw [e] at e';cases e'
 rw [d] at d'
 injection d' with d1 _
 have:its=its':=by simpa using congrArg Array.toList d1
 subst this
 exact r.inj r'
theorem Inv.tuple_inj (I:Inv X pins σ H s) (h:SqT X.K H a xs) (h':SqT X.K H a ys):xs=ys:=by
 obtain ⟨its,r,⟨o,e,_,n,d⟩,_⟩:=I.tuple h
 obtain ⟨its',r',⟨o',e',_,n',d'⟩,_⟩:=I.tuple h'
 rw [e] at e';cases e'
 rw [d] at d'
 injection d' with d1 _
 have:its=its':=by simpa using congrArg Array.toList d1
 subst this
 exact r.inj r'
end
section
variable {X:Cx} {pins:List (Addr×Obj)} {σ:St} {H:Hp} {s:Shared} {E:Value->Shared->Prop}
end
section
variable {X:Cx} {st:Stmt} {rest:List Stmt} {t u:TS} {e:Expr} {te:TE} {pos:Pos}
abbrev zNH:TS:=fun D σ H=>D.nx σ H
abbrev zNa (t u:TS):TS:=fun D σ H=>t { D with nx:=u D } σ H
theorem zKn:PSs X [] zNH:=fun _ _ σ H _ I h=>wpAny_execs_nil ⟨σ,H,I,h⟩
theorem rH (h1:PS X st t) (h2:PSs X rest u):PSs X (st::rest) (zNa t u):=by
 intro pins s σ H D I h
 refine wpAny_execs_cons (thn (h1 pins s σ H { D with nx:=u D } I h) fun f s1 q=>?_)
 cases f with
 | next=>
  obtain ⟨σ',H',I',q⟩:=q
  exact h2 pins s1 σ' H' D I' q
 | ret v=>exact q
 | brk=>exact q
 | cont=>exact q
theorem zCg (h1:PS X st t):PSs X [st] t:=by
 intro pins s σ H D I h
 refine wpAny_execs_cons (thn (h1 pins s σ H D I h) fun f s1 q=>?_)
 cases f with
 | next=>exact wpAny_execs_nil q
 | ret v=>exact q
 | brk=>exact q
 | cont=>exact q
theorem Inv.quiet {pins:List (Addr×Obj)} {σ:St} {H:Hp} {s:Shared} (I:Inv X pins σ H s):interactive X.env=false:=by simp [interactive,I.ok.kind]
abbrev zMW (te:TE):TS:=fun D σ H=>te σ H fun _ H1=>D.nx σ H1
theorem zCp (he:PE X e te) (hs:swapsWith e none pos.line X.env=pure false:=by rfl):PS X (.Expr e pos) (zMW te):=by
 intro pins s σ H D I h
 exact wpAny_Expr_any (thn (he pins s σ H _ I h) fun v s1 ⟨x,H1,I1,r1,q1⟩=>⟨σ,H1,I1,q1⟩) I.quiet hs
abbrev zOb (te:TE):TS:=fun D σ H=>te σ H D.rt
theorem zCX (he:PE X e te):PS X (.Return (some e) pos) (zOb te):=by
 intro pins s σ H D I h
 exact wpAny_Return_some (thn (he pins s σ H _ I h) fun v s1 ⟨x,H1,I1,r1,q1⟩=>⟨x,σ,H1,I1,r1,q1⟩)
abbrev zOG (c:TT) (t u:TS):TS:=fun D σ H=>c σ H fun b H1=>if b=true then t D σ H1 else u D σ H1
theorem zNB {c:Expr} {a b:List Stmt} {tc:TT} (hc:PT X c tc) (ha:PSs X a t) (hb:PSs X b u):PS X (.If c a b pos) (zOG tc t u):=by
 intro pins s σ H D I h
 refine wpAny_If (thn (hc pins s σ H _ I h) fun d s1 ⟨H1,I1,q1⟩=>?_)
 cases d with
 | true=>exact ha pins s1 σ H1 D I1 q1
 | false=>exact hb pins s1 σ H1 D I1 q1
end
abbrev TG:=V->St->Hp->(St->Hp->Prop)->Prop
abbrev TGs:=List V->St->Hp->(St->Hp->Prop)->Prop
def PG (X:Cx) (target:Expr) (t:TG):Prop:=
 ∀ (pins:List (Addr×Obj)) (s:Shared) (σ:St) (H:Hp) (v:V) (u:Value) (Q:St->Hp->Prop),Inv X pins σ H s->cS v u->t v σ H Q->
  wpAny (model X.prog X.w) X.A (assign target X.env u) (fun _ s'=>∃ σ' H',Inv X pins σ' H' s'/\Q σ' H') X.xe s
def PGs (X:Cx) (ts:List Expr) (t:TGs):Prop:=
 ∀ (pins:List (Addr×Obj)) (s:Shared) (σ:St) (H:Hp) (vs:List V) (us:List Value) (Q:St->Hp->Prop),Inv X pins σ H s->dE vs us->t vs σ H Q->
  wpAny (model X.prog X.w) X.A (assignInOrder ((assignEach ts X.env).map (·.2)) us) (fun _ s'=>∃ σ' H',Inv X pins σ' H' s'/\Q σ' H') X.xe s
abbrev zNw:=V->V->V->Hp->(Hp->Prop)->Prop
def zOh (X:Cx) (t:zNw):Prop:=
 ∀ (pins:List (Addr×Obj)) (s:Shared) (σ:St) (H:Hp) (o i v:V) (ov iv u:Value) (Q:Hp->Prop),Inv X pins σ H s->cS o ov->cS i iv->cS v u->t o i v H Q->
  wpAny (model X.prog X.w) X.A (setItem ov iv u) (fun _ s'=>∃ H',Inv X pins σ H' s'/\Q H') X.xe s
abbrev TIp:=V->V->Hp->VK->Prop
def PIp (X:Cx) (op:Operator) (t:TIp):Prop:=
 ∀ (pins:List (Addr×Obj)) (s:Shared) (σ:St) (H:Hp) (x y:V) (v u:Value) (Q:VK),Inv X pins σ H s->cS x v->cS y u->t x y H Q->
  wpAny (model X.prog X.w) X.A (inplaceOp op v u) (EP X pins σ Q) X.xe s
section
variable {X:Cx} {pos:Pos}
abbrev gName (i:Nat):TG:=fun v σ H Q=>Q (σ.set i (some v)) H
theorem zBH {i:Nat} {x:Str} (hN:X.N.Nodup) (hi:X.N[i]?=some x) (hx:Loc X.env.scope x) (hf:X.fn x=true∨X.env.scope.names.lookup x=some .local:=by first | exact .inl rfl | exact .inr rfl | assumption):PG X (.Name x pos) (gName i):=by
 intro pins s σ H v u Q I r h
 exact wpAny_assign_Name (rC I hN hi hx r (fun s' I'=>⟨_,H,I',h⟩) hf)
def zHy:TGs:=fun vs σ H Q=>vs=[]/\Q σ H
def rA (t:TG) (u:TGs):TGs:=fun vs σ H Q=>∃ v r,vs=v::r/\t v σ H fun σ' H'=>u r σ' H' Q
theorem zEz:PGs X [] zHy:=by
 intro pins s σ H vs us Q I r h
 obtain ⟨e,h⟩:=h
 subst e
 cases r
 exact assignInOrder_nil ⟨σ,H,I,h⟩
theorem wJ {e:Expr} {es:List Expr} {t:TG} {u:TGs} (h1:PG X e t) (h2:PGs X es u)
  (hs:(assignEach (e::es) X.env).map (·.2)=assign e X.env::(assignEach es X.env).map (·.2):=by rfl):PGs X (e::es) (rA t u):=by
 intro pins s σ H vs us Q I r h
 obtain ⟨v,vr,e1,h⟩:=h
 subst e1
 cases r with
 | cons r rr=>
  rw [hs]
  refine assignInOrder_cons (thn (h1 pins s σ H _ _ _ I r h) fun _ s1 ⟨σ1,H1,I1,q1⟩=>?_)
  exact h2 pins s1 σ1 H1 _ _ Q I1 rr q1
def zHp (K:PySem.W.Frag) (n:Nat) (t:TGs):TG:=fun v σ H Q=>∃ a xs,v=.ref a/\SqT K H a xs/\xs.length=n/\t xs σ H Q
theorem zIw {es:List Expr} {k:Nat} {t:TGs} {n:Nat} (hc:X.calm=true) (h:PGs X es t)
  (hn:(assignEach es X.env).length=n:=by rfl) (hst:(assignEach es X.env).findIdx? (·.1)=none:=by rfl):PG X (.Tuple es k pos) (zHp X.K n t):=by
 intro pins s σ H v u Q I r hw
 obtain ⟨a,xs,e1,hq,hl,hw⟩:=hw
 subst e1
 cases r
 obtain ⟨its,rv,ht,hz⟩:=I.tuple hq
 refine assign_Tuple_tuple (I.ok.hd hc) ht (by simp [hn,<-hl,rv.length]) hst fun h' hx=>?_
 have I1:Inv X pins σ H { s with heap:=h' }:=I.kept (t':=s.toks) fun b o e=>hx b o (Nat.ne_of_lt (Heap.lt_size e)) e
 exact h pins _ σ H xs _ Q I1 (by simpa using rv) hw
def zOI (to ti:TE) (t:zNw):TG:=fun v σ H Q=>to σ H fun o H1=>ti σ H1 fun i H2=>t o i v H2 fun H3=>Q σ H3
theorem zLD {o i:Expr} {to ti:TE} {t:zNw} (ho:PE X o to) (hi:PE X i ti) (hs:zOh X t)
  (ha:∀ v,assign (.Subscript o i pos) X.env v=(do
   let ov <-holding [v] (eval o X.env)
   let iv <-holding [v,ov] (eval i X.env)
   standAt pos
   holding [v,ov,iv] (setItem ov iv v)
   release [v,ov,iv] []):=by intro _;rfl):PG X (.Subscript o i pos) (zOI to ti t):=by
 intro pins s σ H v u Q I r h
 rw [ha]
 refine wpAny_bind (wpAny_holding (thn (ho pins s σ H _ I h) fun ov s1 ⟨x,H1,I1,r1,q1⟩=>?_))
 refine wpAny_bind (wpAny_holding (thn (hi pins s1 σ H1 _ I1 q1) fun iv s2 ⟨y,H2,I2,r2,q2⟩=>?_))
 refine wpAny_bind (wpAny_standAt (wpAny_bind (wpAny_holding (thn (hs pins s2 σ H2 x y v ov iv u _ I2 r1 r2 r q2) fun _ s3 ⟨H3,I3,q3⟩=>?_))))
 exact wpAny_release ⟨σ,H3,I3,q3⟩
abbrev zNj (te:TE) (g:TG):TS:=fun D σ H=>te σ H fun x H1=>g x σ H1 D.nx
theorem zLZ {tg e:Expr} {te:TE} {g:TG} (he:PE X e te) (hg:PG X tg g) (hs:swapsWithSole [tg] e pos.line X.env=pure false:=by rfl) (hw:swappedStores [tg] e X.env=pure none:=by rfl)
  (h1:(assignEach [tg] X.env).map (·.2)=[assign tg X.env]:=by rfl):PS X (.Assign [tg] e pos) (zNj te g):=by
 intro pins s σ H D I h
 refine wpAny_Assign_stores (thn (he pins s σ H _ I h) fun v s1 ⟨x,H1,I1,r1,q1⟩=>?_) hs hw
 rw [h1]
 exact thn (hg pins s1 σ H1 x v _ I1 r1 q1) fun _ s2 q=>q
theorem zID {i:Nat} {x:Str} {e:Expr} {te:TE} {pos':Pos} (hN:X.N.Nodup) (hi:X.N[i]?=some x) (hx:Loc X.env.scope x) (he:PE X e te) (hs:swapsWith e (some (.Name x pos')) pos.line X.env=pure false:=by rfl) (hf:X.fn x=true∨X.env.scope.names.lookup x=some .local:=by first | exact .inl rfl | exact .inr rfl | assumption):
  PS X (.Assign [.Name x pos'] e pos) (zNj te (gName i)):=by
 intro pins s σ H D I h
 refine wpAny_Assign_Name (thn (he pins s σ H _ I h) fun v s1 ⟨y,H1,I1,r1,q1⟩=>?_) hs
 exact rC I1 hN hi hx r1 (fun s2 I2=>⟨_,H1,I2,q1⟩) hf
abbrev zON (i:Nat) (te:TE) (ti:TIp):TS:=fun D σ H=>∃ x,σ[i]?=some (some x)/\te σ H fun y H1=>ti x y H1 fun z H2=>D.nx (σ.set i (some z)) H2
theorem zLr {i:Nat} {x:Str} {e:Expr} {te:TE} {op:Operator} {ti:TIp} {pos':Pos} (hN:X.N.Nodup) (hi:X.N[i]?=some x) (hx:Loc X.env.scope x) (he:PE X e te) (ho:PIp X op ti) (hf:X.fn x=true∨X.env.scope.names.lookup x=some .local:=by first | exact .inl rfl | exact .inr rfl | assumption):
  PS X (.AugAssign (.Name x pos') op e pos) (zON i te ti):=by
 intro pins s σ H D I h
 obtain ⟨v,e1,h⟩:=h
 obtain ⟨m,hn,hl⟩:=I.loc
 have vis:Vis X.env.scope x:=by rcases hx with k | k;exact .inl k;exact .inr (.inl k)
 obtain ⟨u,r,l⟩:=hl i x v hi e1 vis
 refine wpAny_AugAssign_Name ?_
 have go:wpAny (model X.prog X.w) X.A (eval e X.env) (fun w s₂=>wpAny (model X.prog X.w) X.A (inplaceOp op u w) (fun r s₃=>wpAny (model X.prog X.w) X.A (storeName X.env x r) (fun _=>SP X pins D .next) X.xe s₃) X.xe s₂) X.xe s:=by
  refine thn (he pins s σ H _ I h) fun w s1 ⟨y,H1,I1,r1,q1⟩=>?_
  refine thn (ho pins s1 σ H1 v y u w _ I1 r r1 q1) fun z s2 ⟨zv,H2,I2,r2,q2⟩=>?_
  exact rC I2 hN hi hx r2 (fun s3 I3=>⟨_,H2,I3,q2⟩) hf
 rcases l with ⟨hk,hm⟩ | ⟨hk,c,hc,hcell⟩
 ·exact wpAny_loadName_local I.ok.kind hk hn hm go
 ·rcases hk with hk | hk
  ·exact wpAny_loadName_cell I.ok.kind hk hc hcell go
  ·rcases hx with k | k
   ·have:X.env.scope.names.lookup x=some .free:=hk
    rw [k] at this;cases this
   ·have:X.env.scope.names.lookup x=some .free:=hk
    rw [k] at this;cases this
def ipI (f:Int->Int->Int):TIp:=fun x y H Q=>∃ i j,x=.int i/\y=.int j/\Q (.int (f i j)) H
theorem zIs:PIp X .Add (ipI fun i j=>i+j):=by
 intro pins s σ H x y v u Q I r1 r2 h
 obtain ⟨i,j,e1,e2,q⟩:=h
 subst e1;subst e2
 obtain ⟨t,rfl⟩:=r1
 obtain ⟨t',rfl⟩:=r2
 exact iadd_int ⟨.int _,H,I.tok _,⟨_,rfl⟩,q⟩
theorem zIL:PIp X .Sub (ipI fun i j=>i - j):=by
 intro pins s σ H x y v u Q I r1 r2 h
 obtain ⟨i,j,e1,e2,q⟩:=h
 subst e1;subst e2
 obtain ⟨t,rfl⟩:=r1
 obtain ⟨t',rfl⟩:=r2
 exact isub_int ⟨.int _,H,I.tok _,⟨_,rfl⟩,q⟩
end
section
variable {X:Cx} {pos:Pos}
def zLG (c:TT) (tb:TS):TS:=fun D σ H=>∃ W:Nat->St->Hp->Prop,(∃ m,W m σ H)/\∀ m σ H,W m σ H->
 c σ H fun b H1=>if b=true then ∃ N:St->Hp->Prop,(∀ σ' H',N σ' H'->∃ m',m' < m/\W m' σ' H')/\tb { D with nx:=N,ct:=N,bk:=D.nx } σ H1 else D.nx σ H1
theorem zHR {c:Expr} {body:List Stmt} {tc:TT} {tb:TS} (hp:PassesOwn (model X.prog X.w) X.A X.env X.xe) (hc:PT X c tc) (hb:PSs X body tb):PS X (.While c body [] pos) (zLG tc tb):=by
 intro pins s σ H D I h
 obtain ⟨W,⟨m0,w0⟩,turn⟩:=h
 refine wpAny_While (codeAny_whileLoop (fun n s'=>∃ σ' H',Inv X pins σ' H' s'/\W n σ' H') ?_ m0 ⟨σ,H,I,w0⟩)
 rintro n s1 ⟨σ1,H1,I1,w1⟩
 refine wpAny_passesOwn hp (thn (hc pins s1 σ1 H1 _ I1 (turn n σ1 H1 w1)) fun b s2 ⟨H2,I2,q2⟩=>?_)
 cases b with
 | true=>
  obtain ⟨N,hN,q2⟩:=q2
  rw [if_pos rfl]
  refine wpAny_passesOwn hp (thn (hb pins s2 σ1 H2 _ I2 q2) fun f s3 q3=>?_)
  cases f with
  | next=>
   obtain ⟨σ3,H3,I3,n3⟩:=q3
   obtain ⟨m',hm,w3⟩:=hN σ3 H3 n3
   exact ⟨m',hm,σ3,H3,I3,w3⟩
  | cont=>
   obtain ⟨σ3,H3,I3,n3⟩:=q3
   obtain ⟨m',hm,w3⟩:=hN σ3 H3 n3
   exact ⟨m',hm,σ3,H3,I3,w3⟩
  | brk=>exact q3
  | ret v=>exact q3
 | false=>
  rw [if_neg Bool.false_ne_true]
  exact wpAny_execs_nil ⟨σ1,H2,I2,q2⟩
end
structure It where
 go:Nat->Hp->Prop
 yld:Nat->Hp->V->Hp->Prop
 stop:Nat->Hp->Prop
def qR (X:Cx) (pins:List (Addr×Obj)) (H:Hp) (b:Addr):Prop:=
 H b=none/\b≠X.env.locals/\b∉X.fs/\(b∈X.ex∨X.s₀.heap.objs.size<=b)/\(∀ x c,X.env.cells.lookup x=some c->c≠b)/\∀ p∈X.pn++pins,p.1≠b
theorem Inv.fpOk {X:Cx} {pins:List (Addr×Obj)} {σ:St} {H H':Hp} {s:Shared} {b:Addr} (I:Inv X pins σ H s) (hb:s.heap.objs.size<=b) (hn:H' b=none):qR X pins H' b:=by
 refine ⟨hn,Nat.ne_of_gt (Nat.lt_of_lt_of_le I.lt hb),I.nofs hb,.inr (Nat.le_trans I.sz hb),fun x c e z=>?_,fun p hp z=>?_⟩
 ·obtain ⟨v,q⟩:=I.cell x c e
  exact absurd (Nat.lt_of_lt_of_le q.lt (by rw [z];exact hb)) (Nat.lt_irrefl _)
 ·exact absurd (Nat.lt_of_lt_of_le (Heap.lt_size (I.pin p hp).1) (by rw [z];exact hb)) (Nat.lt_irrefl _)
structure Turn (P:Program) (w:World) (K:PySem.W.Frag) (tg:Expr) (J:It) (fp:List Addr) (it:Addr) (tn:Nat->Heap->Prop):Prop where
 mem:it∈fp
 obj:∀ i h,tn i h->∀ b∈fp,∃ o,h.get? b=some o/\∀ v,o.data≠.cell v
 keep:∀ i h h',tn i h->(∀ b∈fp,∀ o,h.get? b=some o->h'.get? b=some o)->tn i h'
 item:∀ (X:Cx),X.prog=P->X.w=w->X.K=K->X.calm=true->∀ (i:Nat) (pins:List (Addr×Obj)) (s:Shared) (σ:St) (H:Hp) (E:Value->Shared->Prop),Inv X pins σ H s->(∀ b∈fp,qR X pins H b)->tn i s.heap->J.go i H->
  wpAny (model P w) X.A (pyNext (.ref it)) (fun r s1=>∃ u,r=some u/\
   wpAny (model P w) X.A (letOwnedTupleGo tg (.ref it) u) (fun _ s2=>∃ x H',Inv X pins σ H' s2/\cS x u/\J.yld i H x H'/\tn (i+1) s2.heap/\∀ b∈fp,H' b=none) E s1) E s
 done:∀ (X:Cx),X.prog=P->X.w=w->X.K=K->X.calm=true->∀ (i:Nat) (pins:List (Addr×Obj)) (s:Shared) (σ:St) (H:Hp) (E:Value->Shared->Prop),Inv X pins σ H s->(∀ b∈fp,qR X pins H b)->tn i s.heap->J.stop i H->
  wpAny (model P w) X.A (pyNext (.ref it)) (fun r s1=>r=none/\Inv X pins σ H s1) E s
 self:∀ (A:Around) (i:Nat) (s:Shared) (Q:Value->Shared->Prop) (E:Value->Shared->Prop),tn i s.heap->Q (.ref it) s->wpAny (model P w) A (pyIter (.ref it)) Q E s
abbrev TI:=St->Hp->(It->Hp->Prop)->Prop
def PIE (X:Cx) (pins:List (Addr×Obj)) (σ:St) (tg:Expr) (R:It->Hp->Prop) (itv:Value) (s2:Shared):Prop:=
 ∃ (it:Addr) (fp:List Addr) (tn:Nat->Heap->Prop) (J:It) (H':Hp),itv=.ref it/\Inv X pins σ H' s2/\Turn X.prog X.w X.K tg J fp it tn/\tn 0 s2.heap/\(∀ b∈fp,qR X pins H' b)/\R J H'
def PI (X:Cx) (tg iter:Expr) (wi:TI):Prop:=
 ∀ (pins:List (Addr×Obj)) (s:Shared) (σ:St) (H:Hp) (R:It->Hp->Prop),Inv X pins σ H s->wi σ H R->
  wpAny (model X.prog X.w) X.A (eval iter X.env) (fun v s1=>wpAny (model X.prog X.w) X.A (pyIter v) (PIE X pins σ tg R) X.xe s1) X.xe s
theorem zFL {M:Model} {A:Around} {E:Value->Shared->Prop} {s:Shared} {tg:Expr} {it:Addr} {u:Value} {o:Obj} {n:String} {vs:Array Value} {Q:Unit->Shared->Prop} (ho:s.heap.get? it=some o) (hc:o.cls=.type n) (hd:o.data=.fields vs)
    (hn:["enumerate", "zip", "dict_itemiterator", "dict_reverseitemiterator", "odict_iterator", "itertools.zip_longest", "itertools.pairwise"].contains n=false) (hQ:Q () s):wpAny M A (letOwnedTupleGo tg (.ref it) u) Q E s:=by
  unfold letOwnedTupleGo
  cases tg<;>first
    | exact wpAny_pure hQ
    | (cases u<;>first
        | exact wpAny_pure hQ
        | (refine wpAny_bind (wpAny_load ho ?_)
           rw [hc,hd]
           show wpAny M A (if (["enumerate", "zip", "dict_itemiterator", "dict_reverseitemiterator", "odict_iterator", "itertools.zip_longest", "itertools.pairwise"].contains n && vs[0]?==some (rawInt _))=true then _ else _) Q E s
           rw [if_neg (by intro h;rw [hn,Bool.false_and] at h;cases h)]
           exact wpAny_pure hQ))
def Itl (K:PySem.W.Frag) (a:Addr):It:=
 ⟨fun i H=>∃ xs x,SqL K H a xs/\xs[i]?=some x,fun i H x H'=>H'=H/\∀ xs,SqL K H a xs->xs[i]?=some x,fun i H=>∃ xs,SqL K H a xs/\xs.length<=i⟩
def Itt (K:PySem.W.Frag) (a:Addr):It:=
 ⟨fun i H=>∃ xs x,SqT K H a xs/\xs[i]?=some x,fun i H x H'=>H'=H/\∀ xs,SqT K H a xs->xs[i]?=some x,fun i H=>∃ xs,SqT K H a xs/\xs.length<=i⟩
def Itr (lo:Int) (n:Nat):It:=⟨fun i _=>i < n,fun i H x H'=>H'=H/\x=.int (lo+i),fun i _=>n<=i⟩
theorem zAg {P:Program} {w:World} {K:PySem.W.Frag} {tg:Expr} (a it:Addr):Turn P w K tg (Itl K a) [it] it (fun i h=>h.IsListIter it a i) where
 mem:=by simp
 obj:=fun i h st b hb=>by
  have e:b=it:=by simpa using hb
  subst e
  obtain ⟨o,e,c,d⟩:=st
  exact ⟨o,e,fun v z=>by rw [d] at z;cases z⟩
 keep:=fun i h h' st k=>st.at fun o e=>k it (by simp) o e
 item:=by
  intro X hP hw hK hc i pins s σ H E I hf st hg
  subst hP hw hK
  obtain ⟨xs,x,hq,hx⟩:=hg
  obtain ⟨its,rv,p,hz⟩:=I.list hq
  obtain ⟨u,hu,ru⟩:=rv.get hx
  obtain ⟨f0,f1,f2,f3,f4,f5⟩:=hf it (by simp)
  refine wpAny_pyNext_list_item st p.isList (x:=u) (by simpa using hu) fun h' st' sb=>?_
  have I1:Inv X pins σ H { s with heap:=h' }:=I.turned (t':=s.toks) (fun b o hb e=>(sb.2 b hb).trans e) f0 f1 f3 f4 f5
  obtain ⟨o,e,c,d⟩:=id st'
  exact ⟨u,rfl,zFL (s:={ s with heap:=h' }) e c d (by decide) ⟨x,H,I1,ru,⟨rfl,fun ys hy=>by rw [I.list_inj hy hq];exact hx⟩,st',fun b hb=>(hf b hb).1⟩⟩
 done:=by
  intro X hP hw hK hc i pins s σ H E I hf st hg
  subst hP hw hK
  obtain ⟨xs,hq,hx⟩:=hg
  obtain ⟨its,rv,p,hz⟩:=I.list hq
  obtain ⟨f0,f1,f2,f3,f4,f5⟩:=hf it (by simp)
  have hl:=rv.length
  exact wpAny_pyNext_list_end (I.ok.hd hc) st p.isList (by simp;omega) fun h' eb=>⟨rfl,I.turned (t':=s.toks) (fun b o hb e=>eb b o hb e) f0 f1 f3 f4 f5⟩
 self:=fun _ _ _ _ _ st h=>wpAny_pyIter_listiter st h
theorem zDO {P:Program} {w:World} {K:PySem.W.Frag} {tg:Expr} (a it:Addr):Turn P w K tg (Itt K a) [it] it (fun i h=>h.IsTupleIter it a i) where
 mem:=by simp
 obj:=fun i h st b hb=>by
  have e:b=it:=by simpa using hb
  subst e
  obtain ⟨o,e,c,d⟩:=st
  exact ⟨o,e,fun v z=>by rw [d] at z;cases z⟩
 keep:=fun i h h' st k=>st.at fun o e=>k it (by simp) o e
 item:=by
  intro X hP hw hK hc i pins s σ H E I hf st hg
  subst hP hw hK
  obtain ⟨xs,x,hq,hx⟩:=hg
  obtain ⟨its,rv,p,hz⟩:=I.tuple hq
  obtain ⟨u,hu,ru⟩:=rv.get hx
  obtain ⟨f0,f1,f2,f3,f4,f5⟩:=hf it (by simp)
  refine wpAny_pyNext_tuple_item st (show s.heap.IsTuple a its.toArray from p) (x:=u) (by simpa using hu) fun h' st' sb=>?_
  have I1:Inv X pins σ H { s with heap:=h' }:=I.turned (t':=s.toks) (fun b o hb e=>(sb.2 b hb).trans e) f0 f1 f3 f4 f5
  obtain ⟨o,e,c,d⟩:=id st'
  exact ⟨u,rfl,zFL (s:={ s with heap:=h' }) e c d (by decide) ⟨x,H,I1,ru,⟨rfl,fun ys hy=>by rw [I.tuple_inj hy hq];exact hx⟩,st',fun b hb=>(hf b hb).1⟩⟩
 done:=by
  intro X hP hw hK hc i pins s σ H E I hf st hg
  subst hP hw hK
  obtain ⟨xs,hq,hx⟩:=hg
  obtain ⟨its,rv,p,hz⟩:=I.tuple hq
  obtain ⟨f0,f1,f2,f3,f4,f5⟩:=hf it (by simp)
  have hl:=rv.length
  exact wpAny_pyNext_tuple_end (I.ok.hd hc) st (show s.heap.IsTuple a its.toArray from p) (by simp;omega) fun h' eb=>⟨rfl,I.turned (t':=s.toks) (fun b o hb e=>eb b o hb e) f0 f1 f3 f4 f5⟩
 self:=fun _ _ _ _ _ st h=>wpAny_pyIter_tupleiter st h
theorem zDQ {P:Program} {w:World} {K:PySem.W.Frag} {tg:Expr} (it:Addr) (lo:Int) (n:Nat):Turn P w K tg (Itr lo n) [it] it (fun i h=>IsRangeIter h it (lo+(i:Nat) * 1) ((n:Int) - (i:Nat)) 1) where
 mem:=by simp
 obj:=fun i h st b hb=>by
  have e:b=it:=by simpa using hb
  subst e
  exact ⟨_,st,fun v z=>by
   have z':Data.fields _=Data.cell v:=z
   cases z'⟩
 keep:=fun i h h' st k=>k it (by simp) _ st
 item:=by
  intro X hP hw hK hc i pins s σ H E I hf st hg
  subst hP hw hK
  obtain ⟨f0,f1,f2,f3,f4,f5⟩:=hf it (by simp)
  have W:=Walks.range (prog:=X.prog) (w:=X.w) (I.ok.hd hc) it lo 1 n
  refine W.item i s _ _ hg st fun v h' tk hv st' kk=>?_
  obtain ⟨t,rfl⟩:=hv
  have I1:Inv X pins σ H { s with heap:=h',toks:=tk }:=I.turned (fun b o hb e=>kk b o (by simpa using hb) e) f0 f1 f3 f4 f5
  refine ⟨_,rfl,zFL (s:={ s with heap:=h',toks:=tk }) (n := "range_iterator") st' rfl rfl (by decide) ⟨.int (lo+i),H,I1,⟨t,?_⟩,⟨rfl,rfl⟩,st',fun b hb=>(hf b hb).1⟩⟩
  rw [Int.mul_one]
 done:=by
  intro X hP hw hK hc i pins s σ H E I hf st hg
  subst hP hw hK
  obtain ⟨f0,f1,f2,f3,f4,f5⟩:=hf it (by simp)
  exact wpAny_pyNext_range_end (I.ok.hd hc) st (by have:n<=i:=hg;omega) fun h' eb=>⟨rfl,I.turned (t':=s.toks) (fun b o hb e=>eb b o hb e) f0 f1 f3 f4 f5⟩
 self:=fun _ _ _ _ _ st h=>wpAny_pyIter_rangeiter st h
end L2
namespace L2
open PySem PySem.Spec PyProof.Rows
section
variable {X:Cx} {tg:Expr}
abbrev zNy (K:PySem.W.Frag) (tl:TE):TI:=fun σ H R=>tl σ H fun x H1=>∃ a,x=.ref a/\(∃ xs,SqL K H1 a xs)/\R (Itl K a) H1
theorem zKi {l:Expr} {tl:TE} (hl:PE X l tl):PI X tg l (zNy X.K tl):=by
 intro pins s σ H R I h
 refine thn (hl pins s σ H _ I h) fun v s1 ⟨x,H1,I1,r1,q1⟩=>?_
 obtain ⟨a,e,⟨xs,hq⟩,q⟩:=q1
 subst e
 cases r1
 obtain ⟨its,rv,p,hz⟩:=I1.list hq
 refine wpAny_pyIter_list p.isList ?_
 refine ⟨s1.heap.objs.size,[s1.heap.objs.size],_,_,H1,rfl,I1.kept (t':=s1.toks) fun b o e=>Heap.get?_push_of_some _ e,zAg a _,⟨_,Heap.get?_push_size _ rfl,rfl,rfl⟩,fun b hb=>?_,q⟩
 have e:b=s1.heap.objs.size:=by simpa using hb
 subst e
 exact I1.fpOk (Nat.le_refl _) (I1.hok.fresh (Nat.le_refl _))
theorem zDi {pins:List (Addr×Obj)} {σ:St} {H:Hp} {s:Shared} {R:It->Hp->Prop} {E:Value->Shared->Prop} {lo hi:Int} {t u v:Tok} {tk:Nat} (I:Inv X pins σ H s) (h1:-(2^62)<=lo) (h2:lo < 2^62) (h3:-(2^62)<=hi) (h4:hi < 2^62)
  (q:R (Itr lo (hi - lo).toNat) H):wpAny (model X.prog X.w) X.A (pyIter (.ref s.heap.objs.size)) (PIE X pins σ tg R) E { s with heap:=s.heap.push { cls:=.type "range", data:=.fields #[.int lo t,.int hi u,.int 1 v] },toks:=tk }:=by
 refine wpAny_pyIter_range (IsRange.new ..) (small_one h1 h2 h3 h4) ?_
 have I1:Inv X pins σ H { s with heap:=s.heap.push { cls:=.type "range", data:=.fields #[.int lo t,.int hi u,.int 1 v] },toks:=tk }:=I.kept fun b o e=>Heap.get?_push_of_some _ e
 refine ⟨(s.heap.push { cls:=.type "range", data:=.fields #[.int lo t,.int hi u,.int 1 v] }).objs.size,[(s.heap.push { cls:=.type "range", data:=.fields #[.int lo t,.int hi u,.int 1 v] }).objs.size],_,_,H,rfl,
  I1.kept (t':=tk) fun b o e=>Heap.get?_push_of_some _ e,zDQ _ lo (hi - lo).toNat,?_,fun b hb=>?_,q⟩
 ·have e1:lo+((0:Nat):Int) * 1=lo:=by simp
  have e2:(((hi - lo).toNat:Nat):Int) - ((0:Nat):Int)=Builtin.Range.rangeSize lo hi 1:=by rw [rangeSize_one];split<;>omega
  show IsRangeIter _ _ (lo+((0:Nat):Int) * 1) ((((hi - lo).toNat:Nat):Int) - ((0:Nat):Int)) 1
  rw [e1,e2]
  exact Heap.get?_push_size _ rfl
 ·have e:b=(s.heap.push { cls:=.type "range", data:=.fields #[.int lo t,.int hi u,.int 1 v] }).objs.size:=by simpa using hb
  subst e
  exact I1.fpOk (Nat.le_refl _) (I1.hok.fresh (Nat.le_refl _))
abbrev zBd (ta:TA):TI:=fun σ H R=>ta σ H fun vs H1=>∃ j:Int,vs=[.int j]/\-(2^62)<=j/\j < 2^62/\R (Itr 0 j.toNat) H1
abbrev zBg (ta:TA):TI:=fun σ H R=>ta σ H fun vs H1=>∃ i j:Int,vs=[.int i,.int j]/\(-(2^62)<=i/\i < 2^62/\-(2^62)<=j/\j < 2^62)/\R (Itr i (j - i).toNat) H1
theorem zFk {a:Expr} {ta:TA} {p pos:Pos} (hg:Gl X "range") (hm:X.mg "range" = none) (ha:PA X [a] ta) (hs:starEach [a] X.env=[(false,eval a X.env)]:=by rfl):PI X tg (.Call (.Name "range" p) [a] [] pos) (zBd ta):=by
 intro pins s σ H R I h
 refine Call_ (mG I hg hm boot_range (PyProof.Rows.callWith_type1 (thn (ha pos pins s σ H _ I h) fun us s1 ⟨vs,H1,I1,r1,q1⟩=>?_) hs rfl))
 obtain ⟨j,e,q1,q2,q⟩:=q1
 subst e
 cases r1 with
 | cons r rr=>
  cases rr
  obtain ⟨t,rfl⟩:=r
  exact call_range_1 (zDi I1 (by omega) (by omega) q1 q2 (by simpa using q))
theorem zEo {a b:Expr} {ta:TA} {p pos:Pos} (hg:Gl X "range") (hm:X.mg "range" = none) (ha:PA X [a,b] ta) (hs:starEach [a,b] X.env=[(false,eval a X.env),(false,eval b X.env)]:=by rfl) (hs2:starEach [b] X.env=[(false,eval b X.env)]:=by rfl):
  PI X tg (.Call (.Name "range" p) [a,b] [] pos) (zBg ta):=by
 intro pins s σ H R I h
 refine Call_ (mG I hg hm boot_range (PyProof.Rows.callWith_type1 (thn (ha pos pins s σ H _ I h) fun us s1 ⟨vs,H1,I1,r1,q1⟩=>?_) (by rw [hs,hs2]) (by rw [hs2];rfl)))
 obtain ⟨i,j,e,⟨q1,q2,q3,q4⟩,q⟩:=q1
 subst e
 cases r1 with
 | cons r rr=>
  cases rr with
  | cons r' rr=>
   cases rr
   obtain ⟨t,rfl⟩:=r
   obtain ⟨t',rfl⟩:=r'
   exact call_range_2 (zDi I1 q1 q2 q3 q4 q)
abbrev zNS (wi:TI) (g:TG) (tb:TS):TS:=fun D σ H=>wi σ H fun J H1=>∃ W:Nat->Nat->St->Hp->Prop,(∃ m,W 0 m σ H1)/\∀ i m σ H,W i m σ H->
 (J.stop i H/\D.nx σ H)∨(J.go i H/\∃ N:St->Hp->Prop,(∀ σ' H',N σ' H'->∃ m',m' < m/\W (i+1) m' σ' H')/\∀ x H',J.yld i H x H'->g x σ H' fun σ2 H2=>tb { D with nx:=N,ct:=N,bk:=D.nx } σ2 H2)
def sH (fp:List Addr) (h:Heap):List (Addr×Obj):=fp.filterMap fun b=>(h.get? b).map fun o=>(b,o)
theorem eO {fp:List Addr} {h:Heap} {b:Addr} {o:Obj} (hb:b∈fp) (e:h.get? b=some o):(b,o)∈sH fp h:=List.mem_filterMap.mpr ⟨b,hb,by rw [e];rfl⟩
theorem zEP {fp:List Addr} {h:Heap} {p:Addr×Obj} (hp:p∈sH fp h):p.1∈fp/\h.get? p.1=some p.2:=by
 obtain ⟨b,hb,e⟩:=List.mem_filterMap.mp hp
 cases q:h.get? b with
 | none=>rw [q] at e;cases e
 | some o=>
  rw [q] at e
  have e':(b,o)=p:=Option.some.inj e
  subst e'
  exact ⟨hb,q⟩
theorem Inv.pinned {pins:List (Addr×Obj)} {σ:St} {H:Hp} {s:Shared} {fp:List Addr} (I:Inv X pins σ H s) (hf:∀ b∈fp,qR X pins H b) (ho:∀ b∈fp,∃ o,s.heap.get? b=some o/\∀ v,o.data≠.cell v):Inv X (pins++sH fp s.heap) σ H s:=
 I.pins_of fun p hp=>(List.mem_append.mp hp).elim (fun z=>I.pin p (List.mem_append_right _ z)) fun z=>by
  obtain ⟨hb,e⟩:=zEP z
  obtain ⟨f0,f1,f2,_⟩:=hf p.1 hb
  obtain ⟨o,e',d⟩:=ho p.1 hb
  rw [e] at e';cases e'
  exact ⟨e,f0,f1,f2,d⟩
theorem Inv.unpinned {pins pl:List (Addr×Obj)} {σ:St} {H:Hp} {s:Shared} (I:Inv X (pins++pl) σ H s):Inv X pins σ H s:=I.pins_of fun p hp=>I.pin p (List.mem_append_right _ (List.mem_append_left _ hp))
theorem zIC {iter:Expr} {body:List Stmt} {wi:TI} {g:TG} {tb:TS} {pos:Pos} (hp:PassesOwn (model X.prog X.w) X.A X.env X.xe) (hc:X.calm=true) (hi:PI X tg iter wi) (hg:PG X tg g) (hb:PSs X body tb)
  (hs:∀ x,foldedSetIterable iter X.env x=pure x:=by intro _;rfl):PS X (.For tg iter body [] pos) (zNS wi g tb):=by
 intro pins s σ H D I h
 refine wpAny_For (thn (hi pins s σ H _ I h) fun v s1 h1=>thn h1 fun itv s2 h2=>?_) hs
 obtain ⟨it,fp,tn,J,H2,e,I2,T,st2,f2,W,⟨m0,w0⟩,turn⟩:=h2
 subst e
 have stat:∀ {H':Hp},(∀ b∈fp,H' b=none)->∀ b∈fp,qR X pins H' b:=fun hn b hb=>⟨hn b hb,(f2 b hb).2⟩
 refine codeAny_forLoop_any (fun n s'=>∃ i σ' H',Inv X pins σ' H' s'/\tn i s'.heap/\(∀ b∈fp,H' b=none)/\W i n σ' H') ?_ m0 ⟨0,σ,H2,I2,st2,fun b hb=>(f2 b hb).1,w0⟩
 rintro n s3 ⟨i,σ3,H3,I3,st3,fr3,w3⟩
 rcases turn i n σ3 H3 w3 with ⟨stop,qn⟩ | ⟨go,N,hN,step⟩
 ·refine wpAny_passesOwn hp (thn (T.done X rfl rfl rfl hc i pins s3 σ3 H3 X.xe I3 (stat fr3) st3 stop) fun r s4 ⟨hr,I4⟩=>?_)
  subst hr
  exact wpAny_execs_nil ⟨σ3,H3,I4,qn⟩
 ·refine wpAny_passesOwn hp (thn (T.item X rfl rfl rfl hc i pins s3 σ3 H3 X.xe I3 (stat fr3) st3 go) fun r s4 ⟨u,hr,h4⟩=>?_)
  subst hr
  refine wpAny_passesOwn hp (thn h4 fun _ s5 ⟨x,H5,I5,r5,y5,st5,fr5⟩=>?_)
  have I5':=I5.pinned (stat fr5) (T.obj _ _ st5)
  refine wpAny_passesOwn hp (thn (hg _ s5 σ3 H5 x u _ I5' r5 (step x H5 y5)) fun _ s6 ⟨σ6,H6,I6,q6⟩=>?_)
  refine wpAny_passesOwn hp (thn (hb _ s6 σ6 H6 _ I6 q6) fun f s7 q7=>?_)
  have again:∀ {σ7:St} {H7:Hp},Inv X (pins++sH fp s5.heap) σ7 H7 s7->N σ7 H7->∃ m,m < n/\∃ i σ' H',Inv X pins σ' H' s7/\tn i s7.heap/\(∀ b∈fp,H' b=none)/\W i m σ' H':=fun {σ7 H7} I7 n7=>by
   obtain ⟨m',hm,w7⟩:=hN σ7 H7 n7
   refine ⟨m',hm,i+1,σ7,H7,I7.unpinned,T.keep _ _ _ st5 fun b hb o e=>(I7.pin (b,o) (List.mem_append_right _ (List.mem_append_right _ (eO hb e)))).1,fun b hb=>?_,w7⟩
   obtain ⟨o,e,d⟩:=T.obj _ _ st5 b hb
   exact (I7.pin (b,o) (List.mem_append_right _ (List.mem_append_right _ (eO hb e)))).2.1
  cases f with
  | next=>obtain ⟨σ7,H7,I7,n7⟩:=q7;exact again I7 n7
  | cont=>obtain ⟨σ7,H7,I7,n7⟩:=q7;exact again I7 n7
  | brk=>obtain ⟨σ7,H7,I7,q7⟩:=q7;exact ⟨σ7,H7,I7.unpinned,q7⟩
  | ret v=>obtain ⟨x7,σ7,H7,I7,r7,q7⟩:=q7;exact ⟨x7,σ7,H7,I7.unpinned,r7,q7⟩
end
end L2
namespace L2
open PySem PySem.Spec PyProof.Rows
abbrev R2:=V->V->Hp->VK->Prop
def OpR (X:Cx) (f:Value->Value->Sem Value) (r:R2):Prop:=
 ∀ (pins:List (Addr×Obj)) (s:Shared) (σ:St) (H:Hp) (x y:V) (v u:Value) (Q:VK),Inv X pins σ H s->cS x v->cS y u->r x y H Q->
  wpAny (model X.prog X.w) X.A (f v u) (EP X pins σ Q) X.xe s
def UnR (X:Cx) (f:Value->Sem Value) (r:V->Hp->VK->Prop):Prop:=
 ∀ (pins:List (Addr×Obj)) (s:Shared) (σ:St) (H:Hp) (x:V) (v:Value) (Q:VK),Inv X pins σ H s->cS x v->r x H Q->
  wpAny (model X.prog X.w) X.A (f v) (EP X pins σ Q) X.xe s
def uT (X:Cx) (f:Value) (r:List V->Hp->VK->Prop):Prop:=
 ∀ (pins:List (Addr×Obj)) (s:Shared) (σ:St) (H:Hp) (xs:List V) (us:List Value) (Q:VK),Inv X pins σ H s->dE xs us->r xs H Q->
  wpAny (model X.prog X.w) X.A (call f us) (EP X pins σ Q) X.xe s
abbrev tOp (r:R2) (ta tb:TE):TE:=fun σ H Q=>ta σ H fun x H1=>tb σ H1 fun y H2=>r x y H2 Q
abbrev tUn (r:V->Hp->VK->Prop) (ta:TE):TE:=fun σ H Q=>ta σ H fun x H1=>r x H1 Q
def rI (C:Int->Int->Prop) (g:Int->Int->V):R2:=fun x y H Q=>∃ i j,x=.int i/\y=.int j/\C i j/\Q (g i j) H
def rI0 (g:Int->Int->V):R2:=fun x y H Q=>∃ i j,x=.int i/\y=.int j/\Q (g i j) H
def rU (g:Int->V):V->Hp->VK->Prop:=fun x H Q=>∃ i,x=.int i/\Q (g i) H
section
variable {X:Cx} {a b c:Expr} {ta tb tc:TE} {pos:Pos}
theorem zNA (ha:PE X a ta) (hb:PE X b tb) {pins:List (Addr×Obj)} {s:Shared} {σ:St} {H:Hp} {R:V->V->Hp->Prop} (I:Inv X pins σ H s)
  (h:ta σ H fun x H1=>tb σ H1 fun y H2=>R x y H2) {Q:Value->Shared->Prop} {f:Value->Value->Sem Value}
  (hf:∀ v u s2 x y H2,Inv X pins σ H2 s2->cS x v->cS y u->R x y H2->wpAny (model X.prog X.w) X.A (f v u) Q X.xe s2):
  wpAny (model X.prog X.w) X.A (eval a X.env) (fun v s₁=>wpAny (model X.prog X.w) X.A (eval b X.env) (fun u s₂=>wpAny (model X.prog X.w) X.A (f v u) Q X.xe s₂) X.xe s₁) X.xe s:=by
 refine thn (ha pins s σ H _ I h) fun v s1 ⟨x,H1,I1,r1,q1⟩=>?_
 refine thn (hb pins s1 σ H1 _ I1 q1) fun u s2 ⟨y,H2,I2,r2,q2⟩=>?_
 exact hf v u s2 x y H2 I2 r1 r2 q2
theorem zGz {op:Operator} {r:R2} (ho:OpR X (binaryOp op) r) (ha:PE X a ta) (hb:PE X b tb):PE X (.BinOp a op b pos) (tOp r ta tb):=by
 intro pins s σ H Q I h
 exact wpAny_BinOp (zNA ha hb I h fun v u s2 x y H2 I2 rx ry q=>ho pins s2 σ H2 x y v u Q I2 rx ry q)
theorem zNF {op:UnaryOp} {r:V->Hp->VK->Prop} (ho:UnR X (unaryOp op) r) (ha:PE X a ta):PE X (.UnaryOp op a pos) (tUn r ta):=by
 intro pins s σ H Q I h
 exact UnaryOp_ (thn (ha pins s σ H _ I h) fun v s1 ⟨x,H1,I1,r1,q1⟩=>ho pins s1 σ H1 x v Q I1 r1 q1)
theorem opI {f:Value->Value->Sem Value} {C:Int->Int->Prop} {g:Int->Int->Int}
  (rule:∀ (i j:Int) (t u:Tok) (s:Shared) (Q:Value->Shared->Prop) (E:Value->Shared->Prop),C i j->Q (.int (g i j) s.toks) { s with toks:=s.toks+1 }->wpAny (model X.prog X.w) X.A (f (.int i t) (.int j u)) Q E s):
  OpR X f (rI C fun i j=>.int (g i j)):=by
 intro pins s σ H x y v u Q I rx ry h
 obtain ⟨i,j,rfl,rfl,hc,q⟩:=h
 obtain ⟨t,rfl⟩:=rx
 obtain ⟨t',rfl⟩:=ry
 exact rule i j t t' s _ _ hc ⟨.int (g i j),H,I.tok _,⟨_,rfl⟩,q⟩
theorem zNO {f:Value->Value->Sem Value} {g:Int->Int->Int}
  (rule:∀ (i j:Int) (t u:Tok) (s:Shared) (Q:Value->Shared->Prop) (E:Value->Shared->Prop),Q (.int (g i j) s.toks) { s with toks:=s.toks+1 }->wpAny (model X.prog X.w) X.A (f (.int i t) (.int j u)) Q E s):
  OpR X f (rI0 fun i j=>.int (g i j)):=by
 intro pins s σ H x y v u Q I rx ry h
 obtain ⟨i,j,rfl,rfl,q⟩:=h
 obtain ⟨t,rfl⟩:=rx
 obtain ⟨t',rfl⟩:=ry
 exact rule i j t t' s _ _ ⟨.int (g i j),H,I.tok _,⟨_,rfl⟩,q⟩
theorem zNK {f:Value->Value->Sem Value} {g:Int->Int->Bool}
  (rule:∀ (i j:Int) (t u:Tok) (s:Shared) (Q:Value->Shared->Prop) (E:Value->Shared->Prop),Q (.bool (g i j)) s->wpAny (model X.prog X.w) X.A (f (.int i t) (.int j u)) Q E s):
  OpR X f (rI0 fun i j=>.bl (g i j)):=by
 intro pins s σ H x y v u Q I rx ry h
 obtain ⟨i,j,rfl,rfl,q⟩:=h
 obtain ⟨t,rfl⟩:=rx
 obtain ⟨t',rfl⟩:=ry
 exact rule i j t t' s _ _ ⟨.bl (g i j),H,I,rfl,q⟩
def zMM (i j:Int):Prop:=(-(2^64) < i/\i < 2^64)∨(-(2^64) < j/\j < 2^64)
theorem zMM.ok {i j:Int} (h:zMM i j):IntMulOk i j:=by
 rcases h with ⟨h1,h2⟩ | ⟨h1,h2⟩
 ·exact .of_left (intBits_le_64 h1 h2)
 ·exact .of_right (intBits_le_64 h1 h2)
theorem zLg:OpR X (binaryOp .Add) (rI0 fun i j=>.int (i+j)):=zNO fun _ _ _ _ _ _ _ q=>add_int q
theorem jO:OpR X (binaryOp .Sub) (rI0 fun i j=>.int (i - j)):=zNO fun _ _ _ _ _ _ _ q=>sub_int q
theorem gJ:OpR X (binaryOp .Mod) (rI (fun _ j=>j≠0) fun i j=>.int (i.fmod j)):=opI fun _ _ _ _ _ _ _ hc q=>mod_int' hc q
theorem unI {f:Value->Sem Value} {g:Int->Int}
  (rule:∀ (i:Int) (t:Tok) (s:Shared) (Q:Value->Shared->Prop) (E:Value->Shared->Prop),Q (.int (g i) s.toks) { s with toks:=s.toks+1 }->wpAny (model X.prog X.w) X.A (f (.int i t)) Q E s):
  UnR X f (rU fun i=>.int (g i)):=by
 intro pins s σ H x v Q I rx h
 obtain ⟨i,rfl,q⟩:=h
 obtain ⟨t,rfl⟩:=rx
 exact rule i t s _ _ ⟨.int (g i),H,I.tok _,⟨_,rfl⟩,q⟩
theorem zMF:UnR X (unaryOp .USub) (rU fun i=>.int (-i)):=unI fun _ _ _ _ _ q=>neg_int q
end
section
variable {X:Cx} {a b c:Expr} {ta tb tc:TE} {pos:Pos}
theorem xB:OpR X (compareOp .Lt) (rI0 fun i j=>.bl (decide (i < j))):=zNK fun _ _ _ _ _ _ _ q=>lt_int q
theorem zGw:OpR X (compareOp .Gt) (rI0 fun i j=>.bl (decide (j < i))):=zNK fun _ _ _ _ _ _ _ q=>gt_int q
theorem OpR.or {f:Value->Value->Sem Value} {r r':R2} (h:OpR X f r) (h':OpR X f r'):OpR X f (fun x y H Q=>r x y H Q∨r' x y H Q):=by
 intro pins s σ H x y v u Q I rx ry q
 rcases q with q | q
 ·exact h pins s σ H x y v u Q I rx ry q
 ·exact h' pins s σ H x y v u Q I rx ry q
theorem bK (b:Expr) {op:CmpOp} (h:op≠.In:=by decide) (h2:op≠.NotIn:=by decide):behindInMarks op b=false:=by
 have e1:(op==CmpOp.In)=false:=by cases op<;>first | rfl | exact absurd rfl h
 have e2:(op==CmpOp.NotIn)=false:=by cases op<;>first | rfl | exact absurd rfl h2
 cases b<;>simp [behindInMarks,e1,e2]
theorem zJJ {op:CmpOp} {r:R2} (ho:OpR X (compareOp op) r) (ha:PE X a ta) (hb:PE X b tb) (hm:behindInMarks op b=false):PE X (.Compare a [op] [b] pos) (tOp r ta tb):=by
 intro pins s σ H Q I h
 exact wpAny_Compare1 (zNA ha hb I h fun v u s2 x y H2 I2 rx ry q=>ho pins s2 σ H2 x y v u Q I2 rx ry q) hm
abbrev zMy (t:TE):TT:=fun σ H Q=>t σ H fun x H'=>∃ k,x=.bl k/\Q k H'
theorem zGc {op:CmpOp} {r:R2} (ho:OpR X (compareOp op) r) (ha:PE X a ta) (hb:PE X b tb) (hm:behindInMarks op b=false):PT X (.Compare a [op] [b] pos) (zMy (tOp r ta tb)):=by
 intro pins s σ H Q I h
 refine wpAny_isTrue_Compare1 (thn (ha pins s σ H _ I h) fun v s1 ⟨x,H1,I1,r1,q1⟩=>thn (hb pins s1 σ H1 _ I1 q1) fun u s2 ⟨y,H2,I2,r2,q2⟩=>
  thn (ho pins s2 σ H2 x y v u _ I2 r1 r2 q2) fun c s3 ⟨z,H3,I3,r3,k,e,q3⟩=>?_) hm
 subst e
 cases r3
 exact wpAny_truthy_bool ⟨H3,I3,q3⟩
theorem zCy:(sizeLine:Nat) < 2^63:=by rw [sizeLine_eq];decide
theorem zDx {x:V} {us:List Value} (r:dE [x] us):∃ u,us=[u]/\cS x u:=by
 cases r with
 | cons r1 r2=>cases r2;exact ⟨_,rfl,r1⟩
theorem zMR {x y:V} {us:List Value} (r:dE [x,y] us):∃ u w',us=[u,w']/\cS x u/\cS y w':=by
 cases r with
 | cons r1 r2=>
  cases r2 with
  | cons r3 r4=>cases r4;exact ⟨_,_,rfl,r1,r3⟩
theorem rE:uT X (.builtin "abs") (fun xs H Q=>∃ i,xs=[.int i]/\Q (.int (if i < 0 then -i else i)) H):=by
 intro pins s σ H xs us Q I r h
 obtain ⟨i,rfl,q⟩:=h
 obtain ⟨u,rfl,t,rfl⟩:=zDx r
 exact call_abs_int fun u tk=>⟨.int (if i < 0 then -i else i),H,I.tok _,⟨_,rfl⟩,q⟩
end
end L2
namespace L2
open PySem PySem.Spec PyProof.Rows
section
variable {prog:Program} {w:World} {A:Around} {E:Value->Shared->Prop} {s:Shared} {K:PySem.W.Frag} {x dx C f:Addr} {mA:Str->Option Value} {name:Str} {v:Value}
end
section
variable {P:Program} {w:World} {H H':Hp} {h h':Heap} {a C dx:Addr} {fs fs':List (Str×V)}
end
section
variable {X:Cx} {pins:List (Addr×Obj)} {σ:St} {H:Hp} {s:Shared} {a C dx:Addr} {fs:List (Str×V)} {f:Str} {v:V} {A:Around} {E:Value->Shared->Prop}
end
section
variable {X:Cx} {o e value:Expr} {f:Str} {pos pos' tpos:Pos} {ta tv:TE}
end
section
variable {X:Cx} {pins:List (Addr×Obj)} {σ:St} {H:Hp} {s:Shared} {A:Around} {E:Value->Shared->Prop} {Q:Value->Shared->Prop} {c:Value} {b:Bool}
end
end L2
namespace L2
open PySem PySem.Spec PyProof.Rows
structure Room (k:Nat) (A:Around):Prop where
 hd:A.handled=none
 dp:A.depth+3 * k+5 < recursionLimit
 un:A.units+16 * k+200 < cLine
theorem Room.mono {j k:Nat} {A:Around} (r:Room k A) (h:j<=k):Room j A:=⟨r.hd,by have:=r.dp;omega,by have:=r.un;omega⟩
theorem Room.deeper {k:Nat} {A:Around} (r:Room (k+1) A) (env:Env):Room k (A.deeper env):=
 ⟨r.hd,by have:=r.dp;show A.depth+1+3 * k+5 < _;omega,by have:=r.un;show A.units+3+16 * k+200 < _;omega⟩
theorem Room.depth {k:Nat} {A:Around} (r:Room k A):A.depth < recursionLimit:=by have:=r.dp;omega
theorem Room.units {k:Nat} {A:Around} (r:Room k A):A.units+64 < cLine:=by have:=r.un;omega
abbrev zOH:TA:=fun _ H Q=>Q [] H
abbrev zMV (ta:TE) (tr:TA):TA:=fun σ H Q=>ta σ H fun x H1=>tr σ H1 fun xs H2=>Q (x::xs) H2
section
variable {X:Cx} {e:Expr} {es:List Expr} {te:TE} {t:TA} {pos:Pos}
theorem qK:PA X [] zOH:=fun _ _ _ _ H Q I h=>Calls.spliced_nil ⟨[],H,I,.nil,h⟩
theorem jS (ha:PE X e te) (hr:PA X es t) (hs:starEach (e::es) X.env=(false,eval e X.env)::starEach es X.env:=by rfl):PA X (e::es) (zMV te t):=by
 intro pos pins s σ H Q I h
 rw [hs]
 show wpAny _ _ (spliced ((false,eval e X.env)::backTo pos (starEach es X.env))) _ _ s
 refine Calls.spliced_cons (thn (ha pins s σ H _ I h) fun u s1 ⟨x,H1,I1,r1,q1⟩=>?_)
 exact thn (hr pos pins s1 σ H1 _ I1 q1) fun us s2 ⟨xs,H2,I2,r2,q2⟩=>⟨x::xs,H2,I2,.cons r1 r2,q2⟩
abbrev zOA (t:TA):TE:=fun σ H Q=>t σ H fun xs H1=>xs.length<=sizeLine/\∀ p,H1 p=none->Q (.ref p) (upd H1 p (.tup xs))
abbrev zOK (t:TA):TE:=fun σ H Q=>t σ H fun xs H1=>xs.length<=sizeLine/\∀ p,H1 p=none->Q (.ref p) (upd H1 p (.lst xs))
theorem zKM {x1} (h:PA X es t):PE X (.Tuple es x1 pos) (zOA t):=by
 intro pins s σ H Q I hq
 refine wpAny_Tuple_spliced (thn (h pos pins s σ H _ I hq) fun us s1 ⟨xs,H1,I1,r,z,q⟩=>⟨by rw [<-r.length];exact z,?_⟩)
 have hf:H1 s1.heap.objs.size=none:=I1.hok.fresh (Nat.le_refl _)
 refine ⟨.ref s1.heap.objs.size,upd H1 s1.heap.objs.size (.tup xs),I1.laid (t':=s1.toks) (fun b u e=>Heap.get?_push_of_some _ e) (Nat.le_refl _) ?_,rfl,q _ hf⟩
 exact ⟨z,us,r,⟨_,Heap.get?_push_size _ rfl,rfl,_,rfl⟩⟩
theorem zMg (h:PA X es t):PE X (.List es pos) (zOK t):=by
 intro pins s σ H Q I hq
 refine wpAny_List_spliced (thn (h pos pins s σ H _ I hq) fun us s1 ⟨xs,H1,I1,r,z,q⟩=>⟨by rw [<-r.length];exact z,?_⟩)
 have hf:H1 s1.heap.objs.size=none:=I1.hok.fresh (Nat.le_refl _)
 refine ⟨.ref s1.heap.objs.size,upd H1 s1.heap.objs.size (.lst xs),I1.laid (t':=s1.toks) (fun b u e=>Heap.get?_push_of_some _ e) (Nat.le_refl _) ?_,rfl,q _ hf⟩
 exact ⟨z,us,0,r,Heap.get?_push_size _ rfl⟩
end
abbrev Sp:=List V->Hp->VK->XK->Prop
abbrev CXT:=List Env->Hp->Shared->XK->Value->Shared->Prop
structure Env0 (P:Program) (w:World) (K:PySem.W.Frag) (mg:Str->Option Value) (base:Heap) (A:Around) (outer:List Env) (s:Shared) (H:Hp):Prop where
 frames:A.frames=some outer
 mod:Mod K mg base
 bs:∀ b o,base.get? b=some o->s.heap.get? b=some o/\H b=none
 bsz:base.objs.size<=s.heap.objs.size
 funs:s.heap.FunFrames base outer
 frf:∀ b∈frs outer,H b=none
 hok:HOk P w H s.heap
 bare:AllBare s.gens
def CE (outer:List Env) (P:Program) (w:World) (H:Hp) (s:Shared) (Q:VK) (u:Value) (s':Shared):Prop:=
 ∃ v H',s'.os=s.os/\AllBare s'.gens/\Un (frs outer) [] H H' s.heap s'.heap/\HOk P w H' s'.heap/\cS v u/\Q v H'
def CR (CX:CXT) (outer:List Env) (P:Program) (w:World) (H:Hp) (s:Shared) (Q:VK) (E:XK) (r:Result) (s':Shared):Prop:=
 match r with
 | .ok (.ret u)=>CE outer P w H s Q u s'
 | .ok _=>False
 | .error e=>CX outer H s E e s'
structure FnOk (P:Program) (w:World) (K:PySem.W.Frag) (mg:Str->Option Value) (base:Heap) (CX:CXT) (k:Nat) (f:Addr) (fd:FuncData) (ps:List Str) (sp:Sp):Prop where
 len:∀ vs H Q E,sp vs H Q E->vs.length=ps.length
 run:∀ (A:Around) (outer:List Env) (s:Shared) (H:Hp) (args:Args) (us:List Value) (vs:List V) (Q:VK) (E:XK),Room k A->Env0 P w K mg base A outer s H->BindsTo s fd args (ps.zip us)->dE vs us->sp vs H Q E->
  codeAny (model P w) A (.call (.ref f) args) (CR CX outer P w H s Q E) s
theorem FnOk.mono {P:Program} {w:World} {K:PySem.W.Frag} {mg:Str->Option Value} {base:Heap} {CX:CXT} {j k:Nat} {f:Addr} {fd:FuncData} {ps:List Str} {sp:Sp} (F:FnOk P w K mg base CX j f fd ps sp) (h:j<=k):
  FnOk P w K mg base CX k f fd ps sp:=⟨F.len,fun A outer s H args us vs Q E hr=>F.run A outer s H args us vs Q E (hr.mono h)⟩
theorem FnOk.imp {P:Program} {w:World} {K:PySem.W.Frag} {mg:Str->Option Value} {base:Heap} {CX:CXT} {k:Nat} {f:Addr} {fd:FuncData} {ps:List Str} {sp sp':Sp} (F:FnOk P w K mg base CX k f fd ps sp)
  (h:∀ vs H Q E,sp' vs H Q E->sp vs H Q E):FnOk P w K mg base CX k f fd ps sp':=
 ⟨fun vs H Q E q=>F.len vs H Q E (h _ _ _ _ q),fun A outer s H args us vs Q E hr he hb hv hs=>F.run A outer s H args us vs Q E hr he hb hv (h _ _ _ _ hs)⟩
theorem Env0.in1 {P:Program} {w:World} {K:PySem.W.Frag} {mg:Str->Option Value} {base:Heap} {A:Around} {outer:List Env} {s:Shared} {H:Hp} (e:Env0 P w K mg base A outer s H):
  Env0 P w K mg base A.in1 outer s H:=⟨e.frames,e.mod,e.bs,e.bsz,e.funs,e.frf,e.hok,e.bare⟩
section
variable {X:Cx} {pins:List (Addr×Obj)} {σ:St} {H:Hp} {s s':Shared}
theorem Inv.env0 (I:Inv X pins σ H s):Env0 X.prog X.w X.K X.mg X.base X.A X.stack s H:=
 ⟨I.ok.frames,I.ok.mod,I.bs,Nat.le_trans I.ok.bsz I.sz,I.stack,I.stkFree,I.hok,I.bare⟩
theorem Inv.after {Q:VK} {u:Value} (I:Inv X pins σ H s) (h:CE X.stack X.prog X.w H s Q u s'):EP X pins σ Q u s':=by
 obtain ⟨v,H',os,bare,un,hok,r,q⟩:=h
 obtain ⟨hh,g,d,t,os'⟩:=s'
 obtain rfl:os'=s.os:=os
 exact ⟨v,H',I.call (h':=hh) (g':=g) (d':=d) (t':=t) (ch:=[]) un hok bare (fun b z=>absurd z (by simp)),r,q⟩
end
abbrev zJK (sp:Sp) (dvs:List V) (E:XK) (t:TA):TE:=fun σ H Q=>t σ H fun vs H1=>sp (vs++dvs) H1 Q E
def zBe (K:PySem.W.Frag) (fd:FuncData) (ps:List Str) (ds:List Value):Prop:=
 ∀ (s:Shared) (us:List Value),K.In s.heap->(us++ds).length=ps.length->BindsTo s fd ⟨us,[]⟩ (ps.zip (us++ds))
theorem zBe.all {K:PySem.W.Frag} {fd:FuncData} {ps:List Str} (h:∀ us:List Value,us.length=ps.length->bindArgs fd ⟨us,[]⟩=pure (ps.zip us)):zBe K fd ps []:=fun s us _ hl=>by
 rw [List.append_nil] at hl ⊢
 exact .of_eq (h us hl)
def zCC (CX:CXT) (X:Cx) (E:XK):Prop:=∀ (pins:List (Addr×Obj)) (σ:St) (H:Hp) (s:Shared) (e:Value) (s':Shared),Inv X pins σ H s->CX X.stack H s E e s'->X.xe e s'
section
variable {X:Cx} {CX:CXT} {k:Nat} {f C:Addr} {fd:FuncData} {ps:List Str} {sp:Sp} {dvs:List V} {ds:List Value} {E:XK} {x m:Str} {p pos apos:Pos} {e o:Expr} {es:List Expr} {ta:TE} {t:TA}
theorem zMo {pins:List (Addr×Obj)} {σ:St} {H:Hp} {s:Shared} {Q:VK} {us:List Value} {vs:List V} (F:FnOk X.prog X.w X.K X.mg X.base CX k f fd ps sp) (hr:Room k X.A) (hb:zBe X.K fd ps ds) (hd:dE dvs ds) (hx:zCC CX X E)
  (I:Inv X pins σ H s) (r:dE vs us) (h:sp (vs++dvs) H Q E):wpAny (model X.prog X.w) X.A (call (.ref f) us) (EP X pins σ Q) X.xe s:=by
 have r2:dE (vs++dvs) (us++ds):=r.append hd
 have hl:(us++ds).length=ps.length:=by rw [<-r2.length];exact F.len _ _ _ _ h
 refine wpAny_call (codeAny_mono (F.run X.A X.stack s H ⟨us,[]⟩ (us++ds) (vs++dvs) Q E hr I.env0 (hb s us I.kIn hl) r2 h) fun r s' hq=>?_)
 cases r with
 | error e=>exact hx pins σ H s e s' I hq
 | ok fl=>
  cases fl with
  | ret u=>exact I.after hq
  | next=>exact False.elim hq
  | brk=>exact False.elim hq
  | cont=>exact False.elim hq
theorem zBr (F:FnOk X.prog X.w X.K X.mg X.base CX k f fd ps sp) (hr:Room k X.A) (hg:Gl X x) (hm:X.mg x=some (.ref f)) (hk:PySem.W.keepIn X.K (.ref f)=true) (hb:zBe X.K fd ps ds) (hd:dE dvs ds) (hx:zCC CX X E)
  (ha:PA X (e::es) t) (hdb:(x==("__debug__" : Str))=false:=by decide) (he:starEach (e::es) X.env=(false,eval e X.env)::starEach es X.env:=by rfl) (hpl:(backTo pos (starEach es X.env)).any (·.1)=false:=by rfl):
  PE X (.Call (.Name x p) (e::es) [] pos) (zJK sp dvs E t):=by
 intro pins s σ H Q I h
 refine wpAny_Call_Name_kw (zBS I hg hm ?_ hdb)
 refine PySem.W.callWith_K (h₀:=X.base) I.ok.mod.kin hk (thn (ha pos pins s σ H _ I h) fun us s1 ⟨vs,H1,I1,r,q⟩=>⟨I1.kIn,?_⟩) he hpl
 exact zMo F hr hb hd hx I1 r q
end
section
variable {X:Cx} {CX:CXT} {k:Nat} {f C:Addr} {fd:FuncData} {ps ks:List Str} {sp:Sp} {E:XK} {x m:Str} {p pos apos kpos:Pos} {e o:Expr} {es:List Expr} {kws:List Keyword} {te ta:TE} {t tk:TA} {nm:Option Str}
variable {g:List Value->List Value->List Value} {gV:List V->List V->List V}
end
structure FnScope (N P:List Str) (sc:Scope):Prop where
 kind:sc.kind=.function
 co:sc.isCoroutine=false
 gen:sc.isGenerator=false
 nd:N.Nodup
 pre:N.take P.length=P
 par:∀ x∈P,sc.names.lookup x=some .local∨sc.names.lookup x=some .cell
 nofree:∀ y∈sc.names,y.2≠.free
theorem zAq {kindOf:Str->Option NameKind} {x:Str}:∀ {binds:List (Str×Value)} {m:Str->Option Value},(∀ v,(x,v)∉binds)->bindL kindOf binds m x=m x
 | [],_,_=>rfl
 | (n,v)::r,m,h=>by
  unfold bindL
  rw [zAq fun w hw=>h w (List.mem_cons_of_mem _ hw)]
  split
  ·have:x≠n:=by rintro rfl;exact h v List.mem_cons_self
   simp [this]
  ·rfl
theorem zBm {kindOf:Str->Option NameKind} {x:Str}:∀ {binds:List (Str×Value)} {m:Str->Option Value},(∀ v,(x,v)∉binds)->bindC kindOf binds m x=m x
 | [],_,_=>rfl
 | (n,v)::r,m,h=>by
  unfold bindC
  rw [zBm fun w hw=>h w (List.mem_cons_of_mem _ hw)]
  split
  ·rfl
  ·have:x≠n:=by rintro rfl;exact h v List.mem_cons_self
   simp [this]
theorem zAI {kindOf:Str->Option NameKind} {x:Str} {v:Value}:∀ {P:List Str} {vs:List Value} {i:Nat} {m:Str->Option Value},P.Nodup->P[i]?=some x->vs[i]?=some v->kindOf x=some .local->
  bindL kindOf (P.zip vs) m x=some v
 | [],_,_,_,_,h,_,_=>by simp at h
 | _::_,[],_,_,_,_,h,_=>by simp at h
 | p::P,w::vs,0,m,nd,h1,h2,hk=>by
  simp at h1 h2;subst h1;subst h2
  show bindL kindOf ((p,w)::P.zip vs) m p=_
  unfold bindL
  rw [zAq fun v hv=>(List.nodup_cons.mp nd).1 (List.of_mem_zip hv).1,if_pos hk]
  simp
 | p::P,w::vs,i+1,m,nd,h1,h2,hk=>by
  show bindL kindOf ((p,w)::P.zip vs) m x=_
  unfold bindL
  exact zAI (i:=i) (List.nodup_cons.mp nd).2 (by simpa using h1) (by simpa using h2) hk
theorem zAP {kindOf:Str->Option NameKind} {x:Str} {v:Value}:∀ {P:List Str} {vs:List Value} {i:Nat} {m:Str->Option Value},P.Nodup->P[i]?=some x->vs[i]?=some v->kindOf x≠some .local->
  bindC kindOf (P.zip vs) m x=some v
 | [],_,_,_,_,h,_,_=>by simp at h
 | _::_,[],_,_,_,_,h,_=>by simp at h
 | p::P,w::vs,0,m,nd,h1,h2,hk=>by
  simp at h1 h2;subst h1;subst h2
  show bindC kindOf ((p,w)::P.zip vs) m p=_
  unfold bindC
  rw [zBm fun v hv=>(List.nodup_cons.mp nd).1 (List.of_mem_zip hv).1,if_neg hk]
  simp
 | p::P,w::vs,i+1,m,nd,h1,h2,hk=>by
  show bindC kindOf ((p,w)::P.zip vs) m x=_
  unfold bindC
  exact zAP (i:=i) (List.nodup_cons.mp nd).2 (by simpa using h1) (by simpa using h2) hk
def start (N:List Str) (vs:List V):St:=vs.map some++List.replicate (N.length - vs.length) none
def zDX (CX:CXT) (P:Program) (w:World) (K:PySem.W.Frag) (mg:Str->Option Value) (base:Heap) (N:List Str) (qual:Str) (scope:Scope) (f:Addr) (cd:Value) (A:Around) (outer:List Env) (s:Shared) (H:Hp) (E:XK):Cx where
 prog:=P
 w:=w
 K:=K
 mg:=mg
 base:=base
 A:=A.deeper (envOfC qual scope s.heap.objs.size f cd)
 N:=N
 s₀:=s
 H₀:=H
 env:=envOfC qual scope s.heap.objs.size f cd
 outer:=outer
 stack:=envOfC qual scope s.heap.objs.size f cd::outer
 ex:=[]
 calm:=true
 fn:=fun _=>true
 pn:=[]
 xe:=fun e s'=>wpAny (model P w) (A.deeper (envOfC qual scope s.heap.objs.size f cd)) (leaving (envOfC qual scope s.heap.objs.size f cd) e) (fun _ s''=>CX outer H s E e s'') (fun e' s''=>CX outer H s E e' s'') s'
theorem zCS {sc:Scope} {n:Nat} {x:Str} (h:sc.names.lookup x=some .cell):∃ c,(cellsFrom n sc.names []).lookup x=some c:=by
 have q:=PySem.W.cellsFrom_some sc.names n [] (.inl h)
 exact Option.isSome_iff_exists.mp q
theorem zFw {CX:CXT} {P:Program} {w:World} {K:PySem.W.Frag} {mg:Str->Option Value} {base:Heap} {N ps:List Str} {qual:Str} {scope:Scope} {f:Addr} {cd:Value} {A:Around} {outer:List Env} {s s1:Shared} {H:Hp} {E:XK} {us:List Value} {vs:List V}
  (S:FnScope N ps scope) (hd:A.handled=none) (e0:Env0 P w K mg base A outer s H) (hl:vs.length=ps.length) (r:dE vs us)
  (x:InCallC s s.heap.objs.size (bindL (envOfC qual scope s.heap.objs.size f cd).kindOf (ps.zip us) fun _=>none) (cellsFrom (s.heap.objs.size+1) scope.names []) (bindC (envOfC qual scope s.heap.objs.size f cd).kindOf (ps.zip us) fun _=>none) s1):
  Inv (zDX CX P w K mg base N qual scope f cd A outer s H E) [] (start N vs) H s1:=by
 have hpl:ps.length<=N.length:=by have:=congrArg List.length S.pre;rw [List.length_take] at this;omega
 obtain ⟨h1,tk,rfl,hk⟩:=x.done
 have noA:∀ b:Addr,b∉(zDX CX P w K mg base N qual scope f cd A outer s H E).ex:=fun b z=>absurd (show b∈([]:List Addr) from z) (by simp)
 refine ⟨⟨e0.mod,S.kind,rfl,rfl,Nat.le_refl _,fun y z c h1 h2=>?_,fun y hy=>?_,fun y c _ h=>?_,fun _=>hd,Around.frames_deeper e0.frames,.inr ⟨rfl,rfl⟩,fun b z=>absurd z (noA b),e0.bs,e0.bsz,fun b _ _=>noA b,fun b z=>absurd z (noA b),e0.funs,e0.frf⟩,
  rfl,e0.bare,Un.kept hk,⟨_,x.toInCall.ns,fun i y v h1 h2 h3=>?_⟩,fun y c h=>⟨_,x.cell y c h⟩,e0.hok.fresh (Nat.le_refl _),fun y c h=>?_,fun p hp=>absurd (show p∈([]:List (Addr×Obj)) from hp) (by simp),e0.hok.kept hk,?_⟩
 ·exact name_of_addr x.apart (PySem.mem_of_lookup h1) (PySem.mem_of_lookup h2)
 ·have hy:scope.names.lookup y=some .cell∨scope.names.lookup y=some .free:=hy
  rcases hy with hy | hy
  ·exact zCS hy
  ·exact absurd rfl (S.nofree _ (PySem.mem_of_lookup hy))
 ·exact Nat.le_of_lt (x.above y c (PySem.mem_of_lookup h))
 ·have hi:i < vs.length:=by
   unfold start at h2
   by_cases hi:i < vs.length
   ·exact hi
   ·rw [List.getElem?_append_right (by simpa using hi)] at h2
    rw [List.getElem?_replicate] at h2
    split at h2<;>cases h2
  have ha:vs[i]?=some v:=by
   unfold start at h2
   rw [List.getElem?_append_left (by simpa using hi),List.getElem?_map] at h2
   cases e:vs[i]? with
   | none=>rw [e] at h2;cases h2
   | some a=>rw [e] at h2;cases h2;rfl
  obtain ⟨u,hu,rv⟩:=r.get ha
  have hp:ps[i]?=some y:=by
   rw [<-S.pre,List.getElem?_take_of_lt (by omega)];exact h1
  have ndP:ps.Nodup:=by rw [<-S.pre];exact S.nd.sublist (List.take_sublist _ _)
  refine ⟨u,rv,?_⟩
  rcases S.par y (List.mem_of_getElem? hp) with k | k
  ·exact .inl ⟨k,zAI ndP hp hu k⟩
  ·obtain ⟨c,e⟩:=zCS (n:=s.heap.objs.size+1) k
   refine .inr ⟨.inl k,c,e,?_⟩
   have q:=x.cell y c e
   rw [zAP ndP hp hu (by show scope.names.lookup y≠_;rw [k];decide)] at q
   exact q
 ·exact e0.hok.fresh (Nat.le_of_lt (x.above y c (PySem.mem_of_lookup h)))
 ·unfold start
  show _=N.length
  rw [List.length_append,List.length_map,List.length_replicate]
  omega
theorem zME {CX:CXT} {P:Program} {w:World} {K:PySem.W.Frag} {mg:Str->Option Value} {base:Heap} {k:Nat} {f:Addr} {name qual:Str} {params:Arguments} {body:List Stmt} {scope:Scope} {dV kV doc pm cdv ct oc:Value} {an od:Option Addr}
  {osl:Array (Option Value)} {N ps:List Str} {sp:Sp} (lk:K.lookup f=some ⟨oc,od,.func (PySem.W.fnOf name qual params body scope dV kV doc pm an cdv ct),osl⟩) (hcd:PySem.W.codeIn K cdv qual=true) (S:FnScope N ps scope)
  (len:∀ vs H Q E,sp vs H Q E->vs.length=ps.length)
  (hbody:∀ (A:Around) (outer:List Env) (s:Shared) (H:Hp) (vs:List V) (Q:VK) (E:XK),Room k (A.deeper (envOfC qual scope s.heap.objs.size f cdv))->sp vs H Q E->
   ∃ t,PSs (zDX CX P w K mg base N qual scope f cdv A outer s H E) body t/\t { nx:=fun _ H'=>Q .non H',rt:=Q } (start N vs) H):
  FnOk P w K mg base CX (k+1) f (PySem.W.fnOf name qual params body scope dV kV doc pm an cdv ct) ps sp:=by
 refine ⟨len,fun A outer s H args us vs Q E hr e0 hb r hsp=>?_⟩
 have hl:=len _ _ _ _ hsp
 have KX:K.In s.heap:=e0.mod.kin.keeps fun b o e=>(e0.bs b o e).1
 have lim:s.heap.NoLimit:=e0.mod.nolimit.keeps fun b o e=>(e0.bs b o e).1
 have hkind:∀ y∈ps.zip us,scope.names.lookup y.1=some .local∨(scope.names.lookup y.1=some .cell/\((cellsFrom (s.heap.objs.size+1) scope.names []).lookup y.1).isSome=true):=fun ⟨n,v⟩ hy=>by
  rcases S.par n (List.of_mem_zip hy).1 with q | q
  ·exact .inl q
  ·exact .inr ⟨q,PySem.W.cellsFrom_some _ _ _ (.inl q)⟩
 refine codeAny_call_function hr.depth (KX _ _ lk) rfl S.co S.gen rfl (PySem.W.codeRec_of KX hcd) (hb _ _ _ _ ?_)
 refine wpAny_newFunctionEnv_cells S.kind hkind fun env he s1 x=>?_
 subst he
 refine ⟨lim.keeps x.toInCall.keep,codeAny_func ?_⟩
 obtain ⟨t,ht,hq⟩:=hbody A outer s H vs Q E (hr.deeper _) hsp
 have I:Inv (zDX CX P w K mg base N qual scope f cdv A outer s H E) [] (start N vs) H s1:=zFw S hr.hd e0 hl r x
 refine wpAny_mono (ht [] s1 (start N vs) H _ I hq) (fun fl s' hs=>?_) fun e s' hs=>hs
 have fin:∀ {σ':St} {H':Hp} {v:V} {u:Value},Inv (zDX CX P w K mg base N qual scope f cdv A outer s H E) [] σ' H' s'->cS v u->Q v H'->CE outer P w H s Q u s':=
  fun {σ' H' v u} J rv q=>⟨v,H',J.os,J.bare,J.base,J.hok,rv,q⟩
 cases fl with
 | ret u=>
  obtain ⟨v,σ',H',J,rv,q⟩:=hs
  exact fin J rv q
 | next=>
  obtain ⟨σ',H',J,q⟩:=hs
  exact fin (v:=V.non) (u:=Value.none) J rfl q
 | brk=>
  obtain ⟨_,_,_,q⟩:=hs
  exact False.elim q
 | cont=>
  obtain ⟨_,_,_,q⟩:=hs
  exact False.elim q
end L2
namespace L2
open PySem PySem.Spec PyProof.Rows
section
variable {X:Cx} {x:Str} {p pos:Pos} {e:Expr} {es:List Expr} {t:TA} {id T:String} {r:List V->Hp->VK->Prop}
abbrev tCB (r:List V->Hp->VK->Prop) (t:TA):TE:=fun σ H Q=>t σ H fun vs H1=>r vs H1 Q
theorem xA (hc:uT X (.builtin id) r) (hg:Gl X x) (hm:X.mg x=none) (hv:bootBuiltins x=some (.builtin id)) (ha:PA X (e::es) t) (hn:x ≠ "__name__" := by decide) (hdb:(x==("__debug__" : Str))=false:=by decide)
  (he:starEach (e::es) X.env=(false,eval e X.env)::starEach es X.env:=by rfl) (hpl:(backTo pos (starEach es X.env)).any (·.1)=false:=by rfl):PE X (.Call (.Name x p) (e::es) [] pos) (tCB r t):=by
 intro pins s σ H Q I h
 refine wpAny_Call_Name_kw (mG I hg hm hv ?_ hn hdb)
 exact PyProof.Rows.callWith_builtin1 (thn (ha pos pins s σ H _ I h) fun us s1 ⟨vs,H1,I1,r1,q1⟩=>hc pins s1 σ H1 vs us Q I1 r1 q1) he hpl
theorem zN (hc:uT X (.type T) r) (hg:Gl X x) (hm:X.mg x=none) (hv:bootBuiltins x=some (.type T)) (ha:PA X (e::es) t) (hn:x ≠ "__name__" := by decide) (hdb:(x==("__debug__" : Str))=false:=by decide)
  (he:starEach (e::es) X.env=(false,eval e X.env)::starEach es X.env:=by rfl) (hpl:(backTo pos (starEach es X.env)).any (·.1)=false:=by rfl):PE X (.Call (.Name x p) (e::es) [] pos) (tCB r t):=by
 intro pins s σ H Q I h
 refine wpAny_Call_Name_kw (mG I hg hm hv ?_ hn hdb)
 exact PyProof.Rows.callWith_type1 (thn (ha pos pins s σ H _ I h) fun us s1 ⟨vs,H1,I1,r1,q1⟩=>hc pins s1 σ H1 vs us Q I1 r1 q1) he hpl
end
end L2
namespace HT
open PySem PyProof.Rows
section
open PySem.SeqAt
open PySem.AutoSeq1 (wpAny_loadPart')
open PySem.MeetsSeq PySem.MeetsSeq2 PySem.MeetsSeq3
end
section
variable {prog:Program} {w:World} {A:Around} {E:Value->Shared->Prop} {s:Shared}
theorem cat_tup {t b:Addr} {vs ws:List Value} {Q:Value->Shared->Prop} (ht:IsTup s.heap t vs.toArray) (hb:IsTup s.heap b ws.toArray) (hv:vs≠[])
  (h1:ws=[]->Q (.ref t) s) (h2:ws≠[]->Q (.ref s.heap.objs.size) { s with heap:=s.heap.push { cls:=.type "tuple", data:=.seq (vs++ws).toArray } })
  (hsz:vs.length+ws.length<=sizeLine):wpAny (model prog w) A (binaryOp .Add (.ref t) (.ref b)) Q E s:=by
 obtain ⟨⟨cls,dd,data,sl⟩,ho,hc,n,hd⟩:=id ht
 obtain ⟨⟨cls2,dd2,data2,sl2⟩,ho2,hc2,n2,hd2⟩:=id hb
 simp only at hc hd hc2 hd2
 subst hc hd hc2 hd2
 have e:vs.toArray++ws.toArray=(vs++ws).toArray:=by simp
 by_cases hw:ws=[]
 ·exact concat_meets ⟨_,ho,rfl⟩ ⟨_,ho2,rfl⟩ noFill_tuple_add seq_tuple_add PySem.F.slot_tuple_add PySem.F.entry_tuple_add (PySem.F.args_tuple_add_2 _ _)
   (tuple_addW1 t b vs.toArray ws.toArray n n2 dd dd2 sl sl2 (by simpa using hv) (by simp [hw])) ⟨ho,ho2,h1 hw⟩
 ·refine concat_meets ⟨_,ho,rfl⟩ ⟨_,ho2,rfl⟩ noFill_tuple_add seq_tuple_add PySem.F.slot_tuple_add PySem.F.entry_tuple_add (PySem.F.args_tuple_add_2 _ _)
   (tuple_addW2 t b vs.toArray ws.toArray n n2 dd dd2 sl sl2 (by simpa using hv) (by simpa using hw) (by rw [List.size_toArray,List.size_toArray];exact hsz)) ⟨ho,ho2,?_⟩
  rw [e]
  exact h2 hw
def sIx (n d:Nat):Option Int->Nat
 | none=>d
 | some v=>if v < 0 then (v+(n:Int)).toNat else min v.toNat n
end
end HT
namespace L2
open PySem PySem.Spec PyProof.Rows
abbrev TO:=St->Hp->(Option Int->Hp->Prop)->Prop
def PO (X:Cx) (e:Option Expr) (t:TO):Prop:=
 ∀ (pins:List (Addr×Obj)) (s:Shared) (σ:St) (H:Hp) (Q:Option Int->Hp->Prop),Inv X pins σ H s->t σ H Q->
  wpAny (model X.prog X.w) X.A (evalPart e X.env) (fun u s'=>∃ o H',Inv X pins σ H' s'/\IsPart u o/\Q o H') X.xe s
abbrev zJL:TO:=fun _ H Q=>Q none H
abbrev zNk (t:TE):TO:=fun σ H Q=>t σ H fun x H1=>∃ i,x=.int i/\Q (some i) H1
section
variable {X:Cx} {e:Expr} {te:TE} {lo hi:Option Expr} {tl th:TO} {pos p2:Pos}
theorem zKa:PO X none zJL:=by
 intro pins s σ H Q I h
 rw [evalPart_none]
 exact wpAny_pure ⟨none,H,I,.none,h⟩
theorem zKf (h:PE X e te):PO X (some e) (zNk te):=by
 intro pins s σ H Q I hw
 rw [evalPart_some]
 refine thn (h pins s σ H _ I hw) fun u s1 ⟨x,H1,I1,r1,q1⟩=>?_
 obtain ⟨i,rfl,q⟩:=q1
 obtain ⟨t,rfl⟩:=r1
 exact ⟨some i,H1,I1,.int i t,q⟩
def SlR (X:Cx) (r:V->Option Int->Option Int->Hp->VK->Prop):Prop:=
 ∀ (pins:List (Addr×Obj)) (s:Shared) (σ:St) (H:Hp) (x:V) (v vl vu:Value) (lo hi:Option Int) (sl:Addr) (Q:VK),Inv X pins σ H s->cS x v->s.heap.IsSliceOf sl vl vu .none->IsPart vl lo->IsPart vu hi->r x lo hi H Q->
  ∃ T id,typeLookup (.type T) "__getitem__" = pure (some (.builtin id))/\s.TypeIs v T/\wpAny (model X.prog X.w) X.A (getItem v (.ref sl)) (EP X pins σ Q) X.xe s
abbrev tSl (r:V->Option Int->Option Int->Hp->VK->Prop) (te:TE) (tl th:TO):TE:=fun σ H Q=>te σ H fun x H1=>tl σ H1 fun l H2=>th σ H2 fun u H3=>r x l u H3 Q
theorem zHV {r:V->Option Int->Option Int->Hp->VK->Prop} (hr:SlR X r) (he:PE X e te) (hl:PO X lo tl) (hu:PO X hi th):PE X (.Subscript e (.Slice lo hi none p2) pos) (tSl r te tl th):=by
 intro pins s σ H Q I h
 refine Subscript_ (thn (he pins s σ H _ I h) fun v s1 ⟨x,H1,I1,r1,q1⟩=>?_)
 refine wpAny_Slice (thn (hl pins s1 σ H1 _ I1 q1) fun vl s2 ⟨l,H2,I2,pl,q2⟩=>thn (hu pins s2 σ H2 _ I2 q2) fun vu s3 ⟨u,H3,I3,pu,q3⟩=>?_)
 rw [evalPart_none]
 refine wpAny_pure ?_
 have I4:Inv X pins σ H3 { s3 with heap:=s3.heap.push { cls:=.type "slice", data:=.fields #[vl,vu,.none] } }:=I3.kept (t':=s3.toks) fun b ob q=>Heap.get?_push_of_some _ q
 obtain ⟨T,id,hT,ht,hg⟩:=hr pins { s3 with heap:=s3.heap.push { cls:=.type "slice", data:=.fields #[vl,vu,.none] } } σ H3 x v vl vu l u s3.heap.objs.size Q I4 r1 (Heap.IsSliceOf.new ..) pl pu q3
 show wpAny (model X.prog X.w) X.A (subscriptTail e (.Slice lo hi none p2) v (.ref s3.heap.objs.size)) (EP X pins σ Q) X.xe { s3 with heap:=s3.heap.push { cls:=.type "slice", data:=.fields #[vl,vu,.none] } }
 exact tail_any (ops:=[.ref s3.heap.objs.size,v]) ht hT hg (by with_unfolding_all rfl)
def zKJ (xs:List V) (lo hi:Option Int):List V:=(xs.drop (HT.sIx xs.length 0 lo)).take (HT.sIx xs.length xs.length hi - HT.sIx xs.length 0 lo)
theorem zCr (xs:List V) (lo hi:Option Int):(zKJ xs lo hi).length<=xs.length:=by
 unfold zKJ
 rw [List.length_take,List.length_drop]
 omega
def zLm (K:PySem.W.Frag):R2:=fun x y H Q=>∃ a b xs ys,x=.ref a/\y=.ref b/\SqT K H a xs/\SqT K H b ys/\xs≠[]/\xs.length+ys.length<=sizeLine/\
 (ys=[]->Q (.ref a) H)/\(ys≠[]->∀ p,H p=none->Q (.ref p) (upd H p (.tup (xs++ys))))
theorem dE.nil_iff {xs:List V} {us:List Value} (r:dE xs us):us=[] ↔ xs=[]:=by
 cases r with
 | nil=>simp
 | cons _ _=>simp
theorem zJS:OpR X (binaryOp .Add) (zLm X.K):=by
 intro pins s σ H x y v u Q I rx ry h
 obtain ⟨a,b,xs,ys,rfl,rfl,ha,hb,hx,hz,q1,q2⟩:=h
 cases rx
 cases ry
 obtain ⟨its,r1,p1,_⟩:=I.tuple ha
 obtain ⟨its2,r2,p2,_⟩:=I.tuple hb
 refine HT.cat_tup p1 p2 (fun z=>hx (r1.nil_iff.mp z)) (fun z=>⟨.ref a,H,I,rfl,q1 (r2.nil_iff.mp z)⟩) (fun z=>?_) (by rw [<-r1.length,<-r2.length];exact hz)
 refine ⟨.ref s.heap.objs.size,_,I.laid (t':=s.toks) (o:=.tup (xs++ys)) (fun b ob q=>Heap.get?_push_of_some _ q) (Nat.le_refl _) ?_,rfl,q2 (fun w=>z (r2.nil_iff.mpr w)) _ (I.hok.fresh (Nat.le_refl _))⟩
 exact ⟨by rw [List.length_append];exact hz,_,r1.append r2,IsTup.new _ _⟩
end
end L2
namespace L2
open PySem PySem.Spec PyProof.Rows
def ixN (n:Nat) (i:Int):Option Nat:=if 0<=i then (if i < n then some i.toNat else none) else if -(n:Int)<=i then some (i+n).toNat else none
def atI {α:Type} (xs:List α) (i:Int):Option α:=(ixN xs.length i).bind fun j=>xs[j]?
theorem zEZ {n:Nat} {i:Int} {j:Nat} (h:ixN n i=some j):seqIndex? i n=some j/\j < n/\-(n:Int)<=i/\i < n:=by
 unfold ixN at h
 by_cases h0:0<=i
 ·rw [if_pos h0] at h
  by_cases h1:i < n
  ·rw [if_pos h1] at h
   have e:i.toNat=j:=Option.some.inj h
   exact ⟨by rw [seqIndex_of h0 h1,e],by omega,by omega,h1⟩
  ·rw [if_neg h1] at h;cases h
 ·rw [if_neg h0] at h
  by_cases h1:-(n:Int)<=i
  ·rw [if_pos h1] at h
   have e:(i+n).toNat=j:=Option.some.inj h
   exact ⟨by rw [seqIndex_neg (by omega) h1,e],by omega,h1,by omega⟩
  ·rw [if_neg h1] at h;cases h
theorem zEN {α:Type} {xs:List α} {i:Int} {v:α} (h:atI xs i=some v):∃ j,seqIndex? i xs.length=some j/\xs[j]?=some v/\j < xs.length/\-(xs.length:Int)<=i/\i < xs.length:=by
 unfold atI at h
 cases e:ixN xs.length i with
 | none=>rw [e] at h;cases h
 | some j=>
  rw [e] at h
  obtain ⟨h1,h2,h3,h4⟩:=zEZ e
  exact ⟨j,h1,h,h2,h3,h4⟩
theorem zCd {α:Type} {xs:List α} {j:Nat} {v:α} (h:xs[j]?=some v):atI xs (j:Int)=some v:=by
 have hj:j < xs.length:=(List.getElem?_eq_some_iff.mp h).1
 have e:ixN xs.length (j:Int)=some j:=by
  unfold ixN
  rw [if_pos (by omega),if_pos (by omega)];simp
 unfold atI;rw [e];exact h
def zBv (b:Expr):Prop:=∀ o i,subscripted b false o i=operate [o,i] (getItem o i)
def IxR (X:Cx) (r:R2):Prop:=
 ∀ (value slice:Expr) (pins:List (Addr×Obj)) (s:Shared) (σ:St) (H:Hp) (x y:V) (v u:Value) (Q:VK),Inv X pins σ H s->cS x v->cS y u->r x y H Q->
  subscripted slice false v u=operate [v,u] (getItem v u)->wpAny (model X.prog X.w) X.A (subscriptTail value slice v u) (EP X pins σ Q) X.xe s
def MtR (X:Cx) (id:String) (r:V->List V->Hp->VK->Prop):Prop:=
 ∀ (pins:List (Addr×Obj)) (s:Shared) (σ:St) (H:Hp) (x:V) (xs:List V) (v:Value) (us:List Value) (Q:VK),Inv X pins σ H s->cS x v->dE xs us->r x xs H Q->
  wpAny (model X.prog X.w) X.A (call (.builtin id) (v::us)) (EP X pins σ Q) X.xe s
section
variable {X:Cx} {a b:Expr} {ta tb:TE} {pos:Pos}
theorem IxR.or {r r':R2} (h:IxR X r) (h':IxR X r'):IxR X (fun x y H Q=>r x y H Q∨r' x y H Q):=by
 intro value slice pins s σ H x y v u Q I rx ry q hs
 rcases q with q | q
 ·exact h value slice pins s σ H x y v u Q I rx ry q hs
 ·exact h' value slice pins s σ H x y v u Q I rx ry q hs
theorem zDB {r:R2} (hr:IxR X r) (ha:PE X a ta) (hb:PE X b tb) (hs:zBv b):PE X (.Subscript a b pos) (tOp r ta tb):=by
 intro pins s σ H Q I h
 exact Subscript_ (zNA ha hb I h fun v u s2 x y H2 I2 rx ry q=>hr a b pins s2 σ H2 x y v u Q I2 rx ry q (hs _ _))
def zMG (K:PySem.W.Frag):R2:=fun x y H Q=>∃ p xs i v,x=.ref p/\y=.int i/\SqL K H p xs/\atI xs i=some v/\Q v H
def zMH (K:PySem.W.Frag):R2:=fun x y H Q=>∃ p xs i v,x=.ref p/\y=.int i/\SqT K H p xs/\atI xs i=some v/\Q v H
theorem zKx:IxR X (zMG X.K):=by
 intro value slice pins s σ H x y v u Q I rx ry h hs
 obtain ⟨p,xs,i,z,rfl,rfl,hq,he,q⟩:=h
 cases rx
 obtain ⟨t,rfl⟩:=ry
 obtain ⟨its,r,pl,hz⟩:=I.list hq
 obtain ⟨j,h1,h2,h3,h4,h5⟩:=zEN he
 obtain ⟨w,ew,rw'⟩:=r.get h2
 have hl:=r.length
 have hn:=zCy
 have fin:EP X pins σ Q w s:=⟨z,H,I,rw',q⟩
 by_cases h0:0<=i
 ·have hj:i.toNat=j:=by
   rw [seqIndex_of h0 h5] at h1
   exact Option.some.inj h1
  exact item_listR pl.isList h0 (by omega) (by rw [hj];simpa using ew) fin hs
 ·have hj:(i+(its.toArray.size:Int)).toNat=j:=by
   rw [seqIndex_neg (by omega) h4] at h1
   rw [List.size_toArray,<-hl]
   exact Option.some.inj h1
  exact subscriptTail_builtinR (x:=w) pl.isList.typeIs slot_list_getitem.lookup
   (wpAny_getItem_list_neg (Q:=fun r s'=>r=w/\EP X pins σ Q r s') pl.isList (by omega) (by rw [List.size_toArray]<;>omega) (by omega) (by rw [hj];simpa using ew) ⟨rfl,fin⟩) hs
theorem zMr:IxR X (zMH X.K):=by
 intro value slice pins s σ H x y v u Q I rx ry h hs
 obtain ⟨p,xs,i,z,rfl,rfl,hq,he,q⟩:=h
 cases rx
 obtain ⟨t,rfl⟩:=ry
 obtain ⟨its,r,pl,hz⟩:=I.tuple hq
 obtain ⟨j,h1,h2,h3,h4,h5⟩:=zEN he
 obtain ⟨w,ew,rw'⟩:=r.get h2
 have hl:=r.length
 have hn:=zCy
 have fin:EP X pins σ Q w s:=⟨z,H,I,rw',q⟩
 exact subscriptTail_builtinR (x:=w) pl.typeIs slot_tuple_getitem.lookup
  (getItem_tuple (j:=j) (Q:=fun r s'=>r=w/\EP X pins σ Q r s') pl (by omega) (by omega) (by rw [List.size_toArray,<-hl];exact h1) (by simpa using ew) ⟨rfl,fin⟩) hs
theorem zDL (its:List Value) (n j:Nat) (u:Value):Obj.mapSeq (·.setIfInBounds j u) { cls:=.type "list", data:=.seq its.toArray n }={ cls:=.type "list", data:=.seq (its.set j u).toArray n }:=by
 simp [Obj.mapSeq]
theorem Inv.lst {pins:List (Addr×Obj)} {σ:St} {H:Hp} {s:Shared} {p:Addr} {xs:List V} (I:Inv X pins σ H s) (h:H p=some (.lst xs)):
  ∃ (its:List Value) (n:Nat),dE xs its/\s.heap.get? p=some { cls:=.type "list", data:=.seq its.toArray n }/\xs.length<=sizeLine:=by
 obtain ⟨z,its,n,r,e⟩:=I.hok p _ h
 exact ⟨its,n,r,e,z⟩
theorem Inv.lstUpd {pins:List (Addr×Obj)} {σ:St} {H:Hp} {s:Shared} {p:Addr} {xs ys:List V} {its its':List Value} {n n':Nat} {f:Obj->Obj} (I:Inv X pins σ H s) (h:H p=some (.lst xs))
  (ho:s.heap.get? p=some { cls:=.type "list", data:=.seq its.toArray n }) (hf:f { cls:=.type "list", data:=.seq its.toArray n }={ cls:=.type "list", data:=.seq its'.toArray n' }) (r:dE ys its') (hz:ys.length<=sizeLine) (t:Nat):
  Inv X pins σ (upd H p (.lst ys)) { s with heap:=s.heap.update p f,toks:=t }:=by
 have e:(s.heap.update p f).get? p=some { cls:=.type "list", data:=.seq its'.toArray n' }:=by
  rw [Heap.get?_update_self f ho (by rw [hf]<;>rfl),hf]
 refine I.write (x:=p) (e:=p) (by rw [h];trivial) (.inl rfl) (fun b u hb q=>(Heap.get?_update_other _ _ (Ne.symm hb)).trans q) ⟨_,e⟩ ?_
 exact ⟨hz,its',n',r,e⟩
def zNe:V->V->V->Hp->(Hp->Prop)->Prop:=fun o i v H Q=>∃ p xs k j,o=.ref p/\i=.int k/\H p=some (.lst xs)/\ixN xs.length k=some j/\Q (upd H p (.lst (xs.set j v)))
theorem zHb:zOh X zNe:=by
 intro pins s σ H o i v ov iv u Q I ro ri rv h
 obtain ⟨p,xs,k,j,rfl,rfl,hp,hj,q⟩:=h
 cases ro
 obtain ⟨t,rfl⟩:=ri
 obtain ⟨its,n,r,ho,hz⟩:=I.lst hp
 obtain ⟨h1,h2,h3,h4⟩:=zEZ hj
 have hl:=r.length
 have hn:=zCy
 have I':Inv X pins σ (upd H p (.lst (xs.set j v))) { s with heap:=s.heap.update p (Obj.mapSeq (·.setIfInBounds j u)) }:=
  I.lstUpd hp ho (zDL its n j u) (r.set rv j) (by rw [List.length_set];exact hz) s.toks
 by_cases h0:0<=k
 ·have hk:k.toNat=j:=by
   rw [seqIndex_of h0 h4] at h1
   exact Option.some.inj h1
  exact PySem.W.ki_setAt ho h0 (by omega) (by rw [List.size_toArray,<-hl];exact h4) (by rw [hk];exact ⟨_,I',q⟩)
 ·have hk:(k+(its.toArray.size:Int)).toNat=j:=by
   rw [seqIndex_neg (by omega) h3] at h1
   rw [List.size_toArray,<-hl]
   exact Option.some.inj h1
  exact PySem.W.ki_setBack ho (by omega) (by rw [List.size_toArray,<-hl];exact h3) (by omega) (by rw [hk];exact ⟨_,I',q⟩)
theorem zAV (lo hi:Option Int) (n:Nat):(sliceBounds lo hi none n).1=((HT.sIx n 0 lo:Nat):Int)/\(sliceBounds lo hi none n).2.1=((HT.sIx n n hi:Nat):Int)/\(sliceBounds lo hi none n).2.2=1:=by
 refine ⟨?_,?_,rfl⟩
 ·cases lo with
  | none=>simp [sliceBounds,HT.sIx]
  | some i=>
   simp only [sliceBounds,HT.sIx,Option.getD_none,show (1:Int) > 0 by decide,if_true]
   by_cases h:i < 0
   ·simp only [h,if_true]<;>omega
   ·simp only [h,if_false]<;>omega
 ·cases hi with
  | none=>simp [sliceBounds,HT.sIx]
  | some i=>
   simp only [sliceBounds,HT.sIx,Option.getD_none,show (1:Int) > 0 by decide,if_true]
   by_cases h:i < 0
   ·simp only [h,if_true]<;>omega
   ·simp only [h,if_false]<;>omega
theorem wU (its:List Value) (lo hi:Option Int):slicePick its.toArray lo hi none=((its.drop (HT.sIx its.length 0 lo)).take (HT.sIx its.length its.length hi - HT.sIx its.length 0 lo)).toArray:=by
 obtain ⟨h1,h2,h3⟩:=zAV lo hi its.toArray.size
 unfold slicePick
 rw [h1,h2,h3]
 simp only [sliceRange_one,pick_run,List.size_toArray]<;>rfl
def zOv (K:PySem.W.Frag):V->Option Int->Option Int->Hp->VK->Prop:=fun x lo hi H Q=>∃ a xs,x=.ref a/\SqL K H a xs/\∀ p,H p=none->Q (.ref p) (upd H p (.lst (zKJ xs lo hi)))
theorem zKr:SlR X (zOv X.K):=by
 intro pins s σ H x v vl vu lo hi sl Q I rx hs pl pu h
 obtain ⟨a,xs,rfl,hx,q⟩:=h
 cases rx
 obtain ⟨its,r,ht,hz⟩:=I.list hx
 have hlen:=r.length
 refine ⟨"list", _,slot_list_getitem.lookup,ht.isList.typeIs,?_⟩
 refine wpAny_getItem_list_slice ht.isList hs pl pu .none (by simp) ?_ (by rw [List.size_toArray]<;>omega)
 rw [wU,<-hlen]
 refine ⟨.ref s.heap.objs.size,_,I.laid (t':=s.toks) (o:=.lst (zKJ xs lo hi)) (fun b ob q=>Heap.get?_push_of_some _ q) (Nat.le_refl _) ?_,rfl,q _ (I.hok.fresh (Nat.le_refl _))⟩
 exact ⟨Nat.le_trans (zCr xs lo hi) hz,_,0,(r.drop (HT.sIx xs.length 0 lo)).take (HT.sIx xs.length xs.length hi - HT.sIx xs.length 0 lo),Heap.get?_push_size _ rfl⟩
theorem aR:uT X (.builtin "len") (fun xs H Q=>∃ p ys,xs=[.ref p]/\(SqL X.K H p ys∨SqT X.K H p ys)/\Q (.int ys.length) H):=by
 intro pins s σ H xs us Q I r h
 obtain ⟨p,ys,rfl,hq,q⟩:=h
 obtain ⟨u,rfl,rx⟩:=zDx r
 cases rx
 have hn:=zCy
 rcases hq with hq | hq
 ·obtain ⟨its,r',pl,hz⟩:=I.list hq
  have hlen:=r'.length
  exact Calls.call_len_list pl.isList (by simp only [List.size_toArray]<;>omega) ⟨.int ys.length,H,I.tok _,⟨s.toks+1,by rw [List.size_toArray,hlen]⟩,q⟩
 ·obtain ⟨its,r',pl,hz⟩:=I.tuple hq
  have hlen:=r'.length
  exact len_tuple pl (by simp only [List.size_toArray]<;>omega) ⟨.int ys.length,H,I.tok _,⟨s.toks+1,by rw [List.size_toArray,hlen]⟩,q⟩
theorem zAW:uT X (.type "list") (fun xs H Q=>∃ p ys,xs=[.ref p]/\(SqL X.K H p ys∨SqT X.K H p ys)/\∀ l,H l=none->Q (.ref l) (upd H l (.lst ys))):=by
 intro pins s σ H xs us Q I r h
 obtain ⟨p,ys,rfl,hq,q⟩:=h
 obtain ⟨u,rfl,rx⟩:=zDx r
 cases rx
 have fin:∀ (its:List Value),dE ys its->ys.length<=sizeLine->∀ (h':Heap) (c':Nat),(∀ b o',s.heap.get? b=some o'->h'.get? b=some o')->
   h'.get? s.heap.objs.size=some { cls:=.type "list", dict:=none,data:=.seq its.toArray c',slots:=#[] }->EP X pins σ Q (.ref s.heap.objs.size) { s with heap:=h' }:=fun its r' hz h' c' kp e=>
  ⟨.ref s.heap.objs.size,_,I.laid (t':=s.toks) kp (Nat.le_refl _) (show kK X.prog X.w _ h' _ (.lst ys) from ⟨hz,its,c',r',e⟩),rfl,q _ (I.hok.fresh (Nat.le_refl _))⟩
 rcases hq with hq | hq
 ·obtain ⟨its,r',pl,hz⟩:=I.list hq
  have hlen:=r'.length
  obtain ⟨o,ho,hc,n,hd⟩:=pl.isList
  exact call_list_seq p (.inl rfl) ho hc hd (fun h' c' kp e=>fin its r' hz h' c' kp e) (by simp only [List.size_toArray]<;>omega)
 ·obtain ⟨its,r',pl,hz⟩:=I.tuple hq
  have hlen:=r'.length
  obtain ⟨o,ho,hc,n,hd⟩:=pl
  exact call_list_seq p (.inr rfl) ho hc hd (fun h' c' kp e=>fin its r' hz h' c' kp e) (by simp only [List.size_toArray]<;>omega)
theorem jX:uT X (.type "tuple") (fun xs H Q=>∃ p ys,xs=[.ref p]/\((SqL X.K H p ys/\∀ l,H l=none->Q (.ref l) (upd H l (.tup ys)))∨(SqT X.K H p ys/\Q (.ref p) H))):=by
 intro pins s σ H xs us Q I r h
 obtain ⟨p,ys,rfl,h⟩:=h
 obtain ⟨u,rfl,rx⟩:=zDx r
 cases rx
 rcases h with ⟨hq,q⟩ | ⟨hq,q⟩
 ·obtain ⟨its,r',pl,hz⟩:=I.list hq
  have hlen:=r'.length
  refine call_tuple_list pl.isList (fun h' kp=>?_) (by simp only [List.size_toArray]<;>omega)
  have I1:Inv X pins σ H { s with heap:=h' }:=I.kept (t':=s.toks) kp
  have I2:Inv X pins σ (upd H h'.objs.size (.tup ys)) { s with heap:=h'.push { cls:=.type "tuple", data:=.seq its.toArray } }:=
   I1.laid (t':=s.toks) (fun b o e=>Heap.get?_push_of_some _ e) (Nat.le_refl _) (show kK X.prog X.w _ _ _ (.tup ys) from ⟨hz,its,r',IsTup.new _ _⟩)
  exact ⟨.ref h'.objs.size,_,I2,rfl,q _ (I1.hok.fresh (Nat.le_refl _))⟩
 ·obtain ⟨its,r',pl,hz⟩:=I.tuple hq
  exact call_tuple_same pl ⟨.ref p,H,I,rfl,q⟩
def tyV (K:PySem.W.Frag) (T:String) (x:V) (H:Hp):Prop:=match x with
 | .str _=>T = "str"
 | .int _=>T = "int"
 | .ref p=>(T = "list" /\ ∃ xs,SqL K H p xs)∨(T = "tuple" /\ ∃ o,K.lookup p=some o/\o.cls=.type "tuple" /\ o.dict=none)∨
   (T = "dict" /\ ((∃ kvs,H p=some (.dK kvs))∨∃ kvs,H p=some (.dT kvs)))∨(T = "set" /\ ∃ S n,H p=some (.set S n))
 | _=>False
theorem zIV {pins:List (Addr×Obj)} {σ:St} {H:Hp} {s:Shared} {T:String} {x:V} {v:Value} (I:Inv X pins σ H s) (r:cS x v) (ty:tyV X.K T x H):
  s.TypeIs v T/\∀ a,v=.ref a->∃ ob,s.heap.get? a=some ob/\ob.dict=none:=by
 cases x with
 | str z=>
  obtain ⟨t,rfl⟩:=r
  cases (show T = "str" from ty)
  exact ⟨typeIs_str s z t,fun _ e=>nomatch e⟩
 | int i=>
  obtain ⟨t,rfl⟩:=r
  cases (show T = "int" from ty)
  exact ⟨typeIs_int s i t,fun _ e=>nomatch e⟩
 | ref p=>
  cases r
  rcases ty with ⟨rfl,xs,hq⟩ | ⟨rfl,o,hk,hc,hd⟩ | ⟨rfl,hk⟩ | ⟨rfl,S,n,hk⟩
  ·obtain ⟨its,_,pl,_⟩:=I.list hq
   refine ⟨pl.isList.typeIs,fun a e=>?_⟩
   cases e
   obtain ⟨o,n,e,c,hd,_⟩:=pl
   exact ⟨o,e,hd⟩
  ·refine ⟨⟨o,I.kIn p o hk,hc⟩,fun a e=>?_⟩
   cases e
   exact ⟨o,I.kIn _ o hk,hd⟩
  ·have z:∃ o,s.heap.get? p=some o/\o.ExactDict:=by
    rcases hk with ⟨kvs,hk⟩ | ⟨kvs,hk⟩
    ·obtain ⟨_,_,_,_,o,_,_,e,ex,_⟩:=I.hok p _ hk
     exact ⟨o,e,ex⟩
    ·obtain ⟨_,_,_,_,o,_,_,e,ex,_⟩:=I.hok p _ hk
     exact ⟨o,e,ex⟩
   obtain ⟨o,e,ex⟩:=z
   refine ⟨⟨o,e,ex.1⟩,fun a e2=>?_⟩
   cases e2
   exact ⟨o,e,ex.2.1⟩
  ·obtain ⟨o,_,_,_,e,ex,_⟩:=I.hok p _ hk
   refine ⟨⟨o,e,ex.1⟩,fun a e2=>?_⟩
   cases e2
   exact ⟨o,e,ex.2.1⟩
 | _=>exact False.elim ty
abbrev zOM (K:PySem.W.Frag) (T:String) (r:V->List V->Hp->VK->Prop) (to:TE):TE:=fun σ H Q=>to σ H fun x H1=>tyV K T x H1/\r x [] H1 Q
abbrev tBM (K:PySem.W.Frag) (T:String) (r:V->List V->Hp->VK->Prop) (to:TE) (t:TA):TE:=fun σ H Q=>to σ H fun x H1=>tyV K T x H1/\t σ H1 fun xs H2=>r x xs H2 Q
variable {o e:Expr} {es:List Expr} {to:TE} {t:TA} {name:Str} {apos cpos:Pos} {T id:String} {r:V->List V->Hp->VK->Prop}
theorem zLH (pa:PlainAttrs T) (slot:Slot T name id) (hty:typeOf (.builtin id)=pure (.type "method_descriptor")) (hm:MtR X id r) (ho:PE X o to)
  (hbase:attributeBase o name X.env (eval o X.env)=eval o X.env:=by rfl) (hline:(apos.endLine==cpos.line)=true:=by rfl):PE X (.Call (.Attribute o name apos) [] [] cpos) (zOM X.K T r to):=by
 intro pins s σ H Q I h
 refine wpAny_Call_method0_late hbase hline (thn (ho pins s σ H _ I h) fun v s1 ⟨x,H1,I1,r1,ty,q1⟩=>?_)
 obtain ⟨h1,h2⟩:=zIV I1 r1 ty
 exact ⟨T,id,pa,slot,hty,h1,h2,Calls.callWith_builtin rfl (PySem.evalArgs_none (hm pins s1 σ H1 x [] v [] Q I1 r1 .nil q1))⟩
theorem zNm (pa:PlainAttrs T) (slot:Slot T name id) (hty:typeOf (.builtin id)=pure (.type "method_descriptor")) (hm:MtR X id r) (ho:PE X o to) (ha:PA X (e::es) t)
  (hbase:attributeBase o name X.env (eval o X.env)=eval o X.env:=by rfl)
  (hfew:((backTo cpos (starEach (e::es) X.env)).all (fun x=>!x.1) && (backToKw cpos (keywordEach [] X.env)).all (fun x=>x.1.isSome)
   && decide ((e::es).length+([]:List Keyword).length+(if ([]:List Keyword).isEmpty then 0 else 1) < 30))=true:=by rfl)
  (hline:(apos.endLine==cpos.line)=true:=by rfl) (hs:starEach (e::es) X.env=(false,eval e X.env)::starEach es X.env:=by rfl) (hplain:(backTo cpos (starEach es X.env)).any (·.1)=false:=by rfl):
  PE X (.Call (.Attribute o name apos) (e::es) [] cpos) (tBM X.K T r to t):=by
 intro pins s σ H Q I h
 refine wpAny_Call_method_late hbase hfew hline rfl (thn (ho pins s σ H _ I h) fun v s1 ⟨x,H1,I1,r1,ty,q1⟩=>?_)
 obtain ⟨h1,h2⟩:=zIV I1 r1 ty
 refine ⟨T,id,pa,slot,hty,h1,h2,?_⟩
 have hA:=ha cpos pins s1 σ H1 _ I1 q1
 rw [hs] at hA ⊢
 refine Calls.callWith_builtin (by show (false || (backTo cpos (starEach es X.env)).any (·.1))=false;rw [hplain]<;>rfl) (Calls.evalArgs_plain ?_)
 exact thn hA fun us s2 ⟨vs,H2,I2,r2,q2⟩=>hm pins s2 σ H2 x vs v us Q I2 r1 r2 q2
end
end L2
namespace L2
open PySem PySem.Spec PyProof.Rows
def MtM (X:Cx) (id:String) (r:V->List V->Hp->VK->Prop):Prop:=
 ∀ (pins:List (Addr×Obj)) (s:Shared) (σ:St) (H:Hp) (x:V) (xs:List V) (v:Value) (us:List Value) (Q:VK),Inv X pins σ H s->cS x v->dE xs us->r x xs H Q->
  wpAny (model X.prog X.w) X.A (call (.builtin id) (v::us)) (EP X pins σ Q) X.xe s
theorem dE.one:∀ {x:V} {us:List Value},dE [x] us->∃ u,us=[u]/\cS x u
 | _,_,.cons r .nil=>⟨_,rfl,r⟩
theorem dE.zero:∀ {us:List Value},dE [] us->us=[]
 | _,.nil=>rfl
theorem dE.dropLast {xs:List V} {us:List Value} (h:dE xs us):dE xs.dropLast us.dropLast:=by
 induction h with
 | nil=>exact .nil
 | cons r t ih=>
  cases t with
  | nil=>exact .nil
  | cons q t'=>exact .cons r ih
theorem dE.rep {xs:List V} {us:List Value} (h:dE xs us):∀ k:Nat,dE (List.replicate k xs).flatten (List.replicate k us).flatten
 | 0=>.nil
 | k+1=>by
  rw [List.replicate_succ,List.replicate_succ,List.flatten_cons,List.flatten_cons]
  exact dE.append h (dE.rep h k)
theorem zEc {α:Type} (l:List α):l.eraseIdx (l.length - 1)=l.dropLast:=by
 induction l with
 | nil=>rfl
 | cons a r ih=>
  cases r with
  | nil=>rfl
  | cons b r=>
   have e:(a::b::r).length - 1=((b::r).length - 1)+1:=by
    have h1:(a::b::r).length=r.length+2:=rfl
    have h2:(b::r).length=r.length+1:=rfl
    omega
   rw [e,List.eraseIdx_cons_succ,ih]
   all_goals rfl
theorem zBf (its:List Value):∀ (k:Nat) (acc:List Value),
  List.foldl (fun x1 x2=>x1++x2) acc.toArray (List.replicate k its.toArray)=(acc++(List.replicate k its).flatten).toArray
 | 0,acc=>by simp
 | k+1,acc=>by
  have e:acc.toArray++its.toArray=(acc++its).toArray:=by simp
  have e2:(acc++its)++(List.replicate k its).flatten=acc++(List.replicate (k+1) its).flatten:=by
   rw [List.replicate_succ,List.flatten_cons,List.append_assoc]
  rw [<-e2,<-zBf its k (acc++its),<-e,List.replicate_succ,List.foldl_cons]
section
variable {X:Cx} {pins:List (Addr×Obj)} {σ:St} {H:Hp} {s:Shared} {l b:Addr} {xs ys zs:List V}
theorem Inv.lset {its its':List Value} {n:Nat} {f:Array Value->Array Value} {t':Nat} (I:Inv X pins σ H s) (hH:H l=some (.lst xs))
  (e:s.heap.get? l=some { cls:=.type "list", data:=.seq its.toArray n }) (hf:f its.toArray=its'.toArray) (hv:dE ys its') (hz:ys.length<=sizeLine):
  Inv X pins σ (upd H l (.lst ys)) { s with heap:=s.heap.update l (Obj.mapSeq f),toks:=t' }:=by
 have q:=PySem.IsL.update e f
 rw [hf] at q
 refine I.write (x:=l) (e:=l) (by rw [hH];exact trivial) (.inl rfl) (fun b' u hb hu=>(Heap.get?_update_other s.heap (Obj.mapSeq f) (Ne.symm hb)).trans hu) ⟨_,q⟩ ?_
 exact ⟨hz,its',_,hv,q⟩
theorem Inv.lnew {its:List Value} {t':Nat} (I:Inv X pins σ H s) (hv:dE ys its) (hz:ys.length<=sizeLine):
  Inv X pins σ (upd H s.heap.objs.size (.lst ys)) { s with heap:=s.heap.push { cls:=.type "list", data:=.seq its.toArray },toks:=t' }:=
 I.laid (fun _ _ q=>Heap.get?_push_of_some _ q) (Nat.le_refl _) ⟨hz,its,0,hv,Heap.get?_push_size _ rfl⟩
theorem Inv.fresh (I:Inv X pins σ H s):H s.heap.objs.size=none:=I.hok.fresh (Nat.le_refl _)
theorem Inv.lstM (I:Inv X pins σ H s) (hH:H l=some (.lst xs)):xs.length<=sizeLine/\∃ (its:List Value) (n:Nat),dE xs its/\xs.length=its.length/\s.heap.get? l=some { cls:=.type "list", data:=.seq its.toArray n }:=by
 obtain ⟨z,its,n,r,e⟩:=I.hok l _ hH
 exact ⟨z,its,n,r,r.length,e⟩
theorem zHY {n:Nat} (h:n<=sizeLine):Builtin.List.listTooLong n=false:=by
 unfold Builtin.List.listTooLong
 exact decide_eq_false (by omega)
end
section
variable {X:Cx}
def zJO:V->List V->Hp->VK->Prop:=fun x vs H Q=>∃ l xs y,x=.ref l/\vs=[y]/\H l=some (.lst xs)/\xs.length < sizeLine/\Q .non (upd H l (.lst (xs++[y])))
theorem sC:MtM X "list.append" zJO:=by
 intro pins s σ H x vs v us Q I rx rv h
 obtain ⟨l,xs,y,rfl,rfl,hH,hz,q⟩:=h
 cases rx
 obtain ⟨u,rfl,ru⟩:=rv.one
 obtain ⟨z,its,n,r,hl,e⟩:=I.lstM hH
 refine call_meets F.slot_list_append ⟨_,e,rfl⟩ F.entry_list_append (F.args_list_append_2 _ _) (PySem.list_append l its.toArray n u (by rw [List.size_toArray];omega)) ⟨e,?_⟩
 refine ⟨.non,_,I.lset (its':=its++[u]) hH e (by simp) (r.append (.cons ru .nil)) ?_,rfl,q⟩
 rw [List.length_append,List.length_singleton]
 omega
def zOt:V->List V->Hp->VK->Prop:=fun x vs H Q=>∃ l xs y,x=.ref l/\vs=[]/\H l=some (.lst xs)/\xs[xs.length - 1]?=some y/\Q y (upd H l (.lst xs.dropLast))
theorem zMt:MtM X "list.pop" zOt:=by
 intro pins s σ H x vs v us Q I rx rv h
 obtain ⟨l,xs,y,rfl,rfl,hH,hy,q⟩:=h
 cases rx
 have hus:=rv.zero
 subst hus
 obtain ⟨z,its,n,r,hl,e⟩:=I.lstM hH
 obtain ⟨u,hu,ru⟩:=r.get hy
 have hy':its.toArray[its.toArray.size - 1]?=some u:=by
  show its.toArray[its.length - 1]?=some u
  rw [<-Array.getElem?_toList,<-hl]
  exact hu
 refine call_meets F.slot_list_pop ⟨_,e,rfl⟩ F.entry_list_pop (F.args_list_pop_1 _) (MeetsSeq.list_pop_last l its.toArray n u hy' (by rw [List.size_toArray];omega)) ⟨e,?_⟩
 refine ⟨y,_,I.lset (its':=its.dropLast) hH e ?_ r.dropLast ?_,ru,q⟩
 ·show its.toArray.eraseIdxIfInBounds (its.toArray.size - 1)=its.dropLast.toArray
  rw [List.size_toArray,List.eraseIdxIfInBounds_toArray,zEc]
 ·rw [List.length_dropLast]
  omega
def zOD:R2:=fun x y H Q=>∃ l k xs,x=.ref l/\y=.int k/\H l=some (.lst xs)/\-(2^63)<=k/\k < 2^63/\xs.length * k.toNat<=sizeLine/\
 ∀ p,H p=none->Q (.ref p) (upd H p (.lst (List.replicate k.toNat xs).flatten))
theorem zKH {α:Type} (xs:List α) (k:Nat):(List.replicate k xs).flatten.length=k * xs.length:=by
 induction k with
 | zero=>simp
 | succ k ih=>rw [List.replicate_succ,List.flatten_cons,List.length_append,ih,Nat.succ_mul,Nat.add_comm]
theorem zLi:OpR X (binaryOp .Mult) zOD:=by
 intro pins s σ H x y v u Q I rx ry h
 obtain ⟨l,k,xs,rfl,rfl,hH,h1,h2,hz,q⟩:=h
 cases rx
 obtain ⟨t,rfl⟩:=ry
 obtain ⟨z,its,n,r,hl,e⟩:=I.lstM hH
 have hlen:its.toArray.size * k.toNat<=sizeLine:=by rw [List.size_toArray,<-hl];exact hz
 have hcap:¬ its.toArray.size * k.toNat > (2^63 - 1) / 8:=by
  have:(sizeLine:Nat)<=(2^63 - 1) / 8:=by decide
  omega
 have hfit:¬ (!Builtin.List.listFitsIndex k)=true:=by
  rw [fitsIndex_both h1 h2]
  exact Bool.false_ne_true
 have hlong:¬ Builtin.List.listTooLong (its.toArray.size * k.toNat)=true:=by
  rw [zHY hlen]
  exact Bool.false_ne_true
 have hnew:List.foldl (fun x1 x2=>x1++x2) #[] (List.replicate (if its.toArray.isEmpty=true then 0 else k.toNat) its.toArray)=(List.replicate k.toNat its).flatten.toArray:=by
  have f0:∀ m:Nat,List.foldl (fun x1 x2=>x1++x2) #[] (List.replicate m its.toArray)=(List.replicate m its).flatten.toArray:=fun m=>by
   have:=zBf its m []
   rw [List.nil_append] at this
   exact this
  rw [f0]
  cases its with
  | nil=>simp
  | cons a r'=>rw [if_neg (by simp)]
 refine wpAny_binaryOp_repeat_ref (T := "list") (U := "int") (by decide) ⟨_,e,rfl⟩ (fun s'=>typeIs_int s' k t) noFill_list_mul F.fills_int_mul F.slot_int_rmul repeat_list F.slot_int_index.lookup
  (call_meets F.slot_int_rmul (typeIs_int s k t) F.entry_int_rmul (F.args_int_rmul_2 _ _) (int___rmul___int_list k t l its.toArray n)
   ⟨e,rfl,⟨_,e,rfl⟩,call_meets F.slot_list_mul ⟨_,e,rfl⟩ F.entry_list_mul (F.args_list_mul_2 _ _) (AutoListH.list___mul___list_int_3 l its.toArray n k t hfit hcap hlong) ⟨e,?_⟩⟩)
 rw [hnew]
 exact ⟨.ref _,_,I.lnew (t':=s.toks) (r.rep k.toNat) (by rw [zKH,Nat.mul_comm];exact hz),rfl,q _ I.fresh⟩
end
section
variable {prog:Program} {w:World} {A:Around} {E:Value->Shared->Prop} {s:Shared}
set_option maxRecDepth 100000 in
end
section
variable {X:Cx}
end
end L2
namespace Att
open PySem PySem.W PySem.Calls PyProof.Rows
theorem tH {P:Params} {h:Heap}:∀ (ns:List Int) (vs:List Value),WellAll P h vs (ns.map WData.int)->IntsAre vs ns:=by
 intro ns
 induction ns with
 | nil=>
  intro vs w
  rw [List.map_nil] at w
  cases w
  exact .nil
 | cons n ns ih=>
  intro vs w
  rw [List.map_cons] at w
  cases w with
  | cons a b=>
   cases a
   exact .cons _ _ (ih _ b)
theorem zER {l:OpenLaw} {n:Nat} (hn:l.most=some n) {P:Params} {h:Heap} {args:List WData} {vals:List Value}
  (hpre:l.row.toRowW.claim.pre args=true) (hwl:WellAll P h vals args):
  ∃ a vs ns,vals=[Value.ref a]/\args=[WData.list (ns.map WData.int)]/\h.get? a=some { cls:=.type "list", data:=.seq vs.toArray }/\IntsAre vs ns/\ns.length<=n:=by
 have hsh:WShape.hasAll [] args [.list .int]=true:=(pre_splitW hpre).1
 have hc:l.pre.holds [] { args:=args }=true:=(pre_splitW hpre).2
 obtain ⟨d,r,rfl,h1,h2⟩:=hasAllW_cons hsh
 obtain rfl:=hasAllW_nil h2
 obtain ⟨xs,rfl,h3⟩:=hasW_list h1
 obtain ⟨ns,rfl⟩:=items_int h3
 have hlen:ns.length<=n:=by
  unfold OpenLaw.pre at hc
  have h4:(WTm.not (.lt (.lit (.int (n:Int))) (.len (.arg 0)))).holds [] { args:=[.list (ns.map .int)] }=true:=by
   have h4:=(holds_andW hc).1
   rw [hn] at h4
   exact h4
  have h5:=condW_of h4 (w_not (w_lt w_lit (w_len_list (w_arg rfl))))
  rw [List.length_map] at h5
  refine Nat.le_of_not_lt fun q=>?_
  have q':(n:Int) < ((ns.length:Nat):Int):=by omega
  first
   | (rw [decide_eq_true q'] at h5;exact absurd h5 (by decide))
   | (simp at h5;omega)
 cases hwl with
 | cons w1 w2=>
  cases w2
  cases w1 with
  | list ho hall=>exact ⟨_,_,ns,rfl,rfl,ho,tH ns _ hall,hlen⟩
theorem zEQ (l:OpenLaw) (args:List WData):l.row.toRowW.claim.post args (.bool true) args=true:=
 postW_of (r:=l.row.toRowW) (X:=(true==true))
  (show WShape.has [] (.bool true) .bool=true by first | rfl | decide | simp [WShape.has,WShape.arms,WShape.armsAll])
  (show (WTm.eq .res (.lit (.bool true))).value [] { args:=args,res:=some (.bool true),after:=args }=some (.bool (true==true)) from w_eq_bool (w_res rfl) w_lit) rfl
theorem attach_call {l:OpenLaw} {n:Nat} {q:Program} {loose:List Str} {XP:(Str->Option Value)->Heap->Prop} {YP:World->Heap->Prop} {d:DefRec}
  (hn:l.most=some n) (hdf:d.params.defaults=[])
  (call:∀ (w:World) (s₀ s₁:Shared) (mg mb:Str->Option Value) (fa:Addr) (o:Obj) (pm cd doc:Value) (a:Addr) (vs:List Value) (ns:List Int),
   Ground q loose [] XP w s₀ mg mb s₁.heap->YP w s₁.heap->
   s₁.heap.get? fa=some o->o.data=.func (docDef d.name d.params d.body d.scope pm cd doc)->s₁.heap.CodeRec cd d.name->mg d.name=some (.ref fa)->
   s₁.heap.get? a=some { cls:=.type "list", data:=.seq vs.toArray }->IntsAre vs ns->ns.length<=n->s₁.gens=#[]->
   codeAny (model l.prog w) callerA (.call (.ref fa) ⟨[.ref a],[]⟩) (fun r s'=>r=.ok (.ret (.bool true))/\OldK s₁.heap s'.heap/\s'.os=s₁.os/\AllBare s'.gens) s₁):
  WalkO q loose XP YP l.row.toRowW d [] (fun f vs=>PySem.call f vs):=by
 intro w s₀ s₁ mg mb G Y fa o pm cd doc dV kV ho hd hcd hD hmg hg args vals as hpre hlay hrd hwl hlo
 obtain rfl:dV=.none:=Dflts.none hD hdf
 obtain rfl:kV=.none:=Dflts.noKw hD
 obtain ⟨a,vs,ns,rfl,rfl,hobj,hints,hlen⟩:=zER hn hpre hwl
 refine enter_call (codeAny_mono (call w s₀ s₁ mg mb fa o pm cd doc a vs ns G Y ho (fd_plain hd) hcd hmg hobj hints hlen hg) fun r s' hq=>?_)
 obtain ⟨rfl,h2,h3,h4⟩:=hq
 exact ⟨.inl ⟨.bool true,.bool true,[],rfl,fun _=>rfl,.bool true,zEQ l _,fun _=>⟨List.Pairwise.nil,fun _ hm=>(nomatch hm)⟩⟩,h2,h3,h4⟩
section
variable {prog:Program} {w:World} {A:Around} {E:Value->Shared->Prop} {s:Shared} {K:Frag}
end
end Att
namespace L2
open PySem PySem.Spec PyProof.Rows
theorem zV:∀ {vs:List Value} {ns:List Int},IntsAre vs ns->dE (ns.map V.int) vs
 | _,_,.nil=>.nil
 | _,_,.cons n t h=>.cons ⟨t,rfl⟩ (zV h)
def zOr (H:Hp):Prop:=∀ b,H b=none∨∃ o xs,H b=some (.frz o (.lst xs))
end L2
namespace L2
open PySem PySem.Spec PyProof.Rows
end L2
namespace L2
open PySem PySem.Spec PyProof.Rows
def iW (s:Stmt):Arguments:=match s with
 | .FunctionDef _ a _ _ _ _ _ _ _ _=>a
 | _=>{ posonlyargs:=[],args:=[],vararg:=none,kwonlyargs:=[],kw_defaults:=[],kwarg:=none,defaults:=[] }
def eX (s:Stmt):List Stmt:=match s with
 | .FunctionDef _ _ b _ _ _ _ _ _ _=>b
 | _=>[]
def aK (s:Stmt):Scope:=match s with
 | .FunctionDef _ _ _ _ _ _ sc _ _ _=>sc
 | _=>{ kind:=.function,names:=[],isGenerator:=false,isCoroutine:=false }
structure Fun (K:PySem.W.Frag) (x qual:Str) (st:Stmt) (f:Addr) (fd:FuncData):Prop where
 ex:∃ (oc:Value) (od:Option Addr) (kV doc pm:Value) (an:Option Addr) (cdv ct:Value) (osl:Array (Option Value)),
  fd=PySem.W.fnOf x qual (iW st) (eX st) (aK st) .none kV doc pm an cdv ct/\K.lookup f=some ⟨oc,od,.func fd,osl⟩/\PySem.W.codeIn K cdv qual=true
 kp:PySem.W.keepIn K (.ref f)=true
section
variable {P:Program} {w:World} {K:PySem.W.Frag} {mg:Str->Option Value} {base:Heap}
theorem Fun.binds {x qual:Str} {st:Stmt} {f:Addr} {fd:FuncData} {ps:List Str} (F:Fun K x qual st f fd)
  (h:∀ (kV doc pm:Value) (an:Option Addr) (cdv ct:Value) (us:List Value),us.length=ps.length->bindArgs (PySem.W.fnOf x qual (iW st) (eX st) (aK st) .none kV doc pm an cdv ct) ⟨us,[]⟩=pure (ps.zip us)):zBe K fd ps []:=by
 obtain ⟨oc,od,kV,doc,pm,an,cdv,ct,osl,rfl,lk,hcd⟩:=F.ex
 exact .all (h kV doc pm an cdv ct)
theorem vZ {x qual:Str} {st:Stmt} {f:Addr} {oc:Value} {od an:Option Addr} {osl:Array (Option Value)} {kV doc pm cdv ct:Value} (l:K.lookup f=some ⟨oc,od,.func (PySem.W.fnOf x qual (iW st) (eX st) (aK st) .none kV doc pm an cdv ct),osl⟩)
  (c:PySem.W.codeIn K cdv qual=true) (k:PySem.W.keepIn K (.ref f)=true):Fun K x qual st f (PySem.W.fnOf x qual (iW st) (eX st) (aK st) .none kV doc pm an cdv ct):=⟨⟨oc,od,kV,doc,pm,an,cdv,ct,osl,rfl,l,c⟩,k⟩
end
section
variable {X:Cx}
theorem pv (i:Nat) {x:Str} {pos:Pos} (hN:X.N[i]?=some x:=by rfl) (hv:Vis X.env.scope x:=by first | exact Or.inl rfl | exact Or.inr (Or.inl rfl) | exact Or.inr (Or.inr rfl)) (hd:(x==("__debug__" : Str))=false:=by decide)
  (hcd:(x==("__classdict__" : Str))=false:=by decide):PE X (.Name x pos) (zDV i):=sN hN hv hd hcd
end
def Same (H H':Hp):Prop:=∀ b o,H b=some o->H' b=some o
theorem Same.refl (H:Hp):Same H H:=fun _ _ h=>h
theorem Same.trans {H H1 H2:Hp} (a:Same H H1) (b:Same H1 H2):Same H H2:=fun c o h=>b c o (a c o h)
end L2
set_option maxHeartbeats 4000000
set_option exponentiation.threshold 20000
namespace L2
open PySem PySem.Spec PyProof.Rows
section
variable {X:Cx}
variable {tg:Expr}
end
end L2
namespace L2
open PySem PySem.Spec PyProof.Rows
end L2
namespace L2
open PySem PySem.Spec PyProof.Rows
section
variable {P:Program} {w:World} {H H':Hp} {h:Heap} {a:Addr} {o:HO}
theorem kK.here (x:kK P w H h a o):∃ ob,h.get? a=some ob:=by
 cases o with
 | lst xs=>obtain ⟨_,_,_,_,e⟩:=x;exact ⟨_,e⟩
 | tup xs=>obtain ⟨_,_,_,e⟩:=x;obtain ⟨ob,e,_⟩:=e;exact ⟨_,e⟩
 | dK kvs=>obtain ⟨_,_,_,_,e⟩:=x;obtain ⟨ob,_,_,e,_⟩:=e;exact ⟨_,e⟩
 | dT kvs=>obtain ⟨_,_,_,_,ob,_,_,e,_⟩:=x;exact ⟨_,e⟩
 | set S n=>obtain ⟨ob,_,_,_,e,_⟩:=x;exact ⟨_,e⟩
 | ins C dx fs=>obtain ⟨_,_,_,e,_⟩:=x;exact ⟨_,e⟩
 | own y=>exact x
 | xd fs=>obtain ⟨_,⟨ob,_,_,e,_⟩,_⟩:=x;exact ⟨_,e⟩
 | met f y=>exact ⟨_,x⟩
 | rng lo hi=>obtain ⟨_,_,_,e⟩:=x;exact ⟨_,e⟩
 | frz ob u=>exact ⟨_,x.1⟩
 | tbl ps=>exact ⟨_,x⟩
 | ext φ=>exact x.2.1
theorem HOk.none_of (ok:HOk P w H h) (e:h.get? a=none):H a=none:=by
 cases q:H a with
 | none=>rfl
 | some o=>
  obtain ⟨ob,z⟩:=(ok a o q).here
  rw [e] at z;cases z
end
structure Fly (P:Program) (w:World) (l:List Env) (H H':Hp) (s:Shared) (ea:Addr) (cls:Value) (s':Shared):Prop where
 os:s'.os=s.os
 bare:AllBare s'.gens
 un:Un (frs l) [] H H' s.heap s'.heap
 hok:HOk P w H' s'.heap
 ne:H' ea=none
 new:s.heap.get? ea=none
 fly:∃ B a0,Heap.FlyingW B l ea cls a0 s'.heap/\(∀ b o,s'.heap.get? b=some o->((∃ o',s.heap.get? b=some o')∨H' b≠none)->b∉frs l->B.get? b=some o)
def CX1 (P:Program) (w:World):CXT:=fun outer H s E e s'=>∃ ea cls H',e=.ref ea/\Fly P w outer H H' s ea cls s'/\E cls none H'
structure Own (X:Cx):Prop where
 stk:X.stack=X.env::X.outer
 fr:X.env.frame=some X.env.locals
 ex:X.ex=[]
section
variable {X:Cx} {pins:List (Addr×Obj)} {σ:St} {H H':Hp} {s s':Shared} {ea:Addr} {cls:Value}
theorem zDq (O:Own X):frs X.stack=X.env.locals::X.fs:=by
 rw [O.stk]
 show List.filterMap _ (_::_)=_
 rw [List.filterMap_cons,O.fr]
 rfl
theorem Inv.there0 (I:Inv X pins σ H s) (O:Own X) {b:Addr} {o:Obj} (e:X.s₀.heap.get? b=some o):∃ o',s.heap.get? b=some o':=I.base.there b o e (by rw [O.ex];simp)
theorem Inv.ne0 (I:Inv X pins σ H s) {b:Addr} {o:Obj} (e:X.s₀.heap.get? b=some o):b≠X.env.locals:=Nat.ne_of_lt (Nat.lt_of_lt_of_le (Heap.lt_size e) I.ok.above)
theorem Fly.leave (I:Inv X pins σ H s) (O:Own X) (F:Fly X.prog X.w X.stack H H' s ea cls s') {h':Heap} {B:Heap} {a0:Value}
  (hf:Heap.FlyingW B X.stack ea cls a0 s'.heap) (cov:∀ b o,s'.heap.get? b=some o->((∃ o',s.heap.get? b=some o')∨H' b≠none)->b∉frs X.stack->B.get? b=some o)
  (hf':Heap.FlyingW B X.outer ea cls a0 h') (up:s'.heap.UpToSlots h'):Fly X.prog X.w X.outer X.H₀ H' X.s₀ ea cls { s' with heap:=h' }:=by
 have fst:frs X.stack=X.env.locals::X.fs:=zDq O
 have nin:∀ {b:Addr},b≠X.env.locals->b∉X.fs->b∉frs X.stack:=fun h1 h2=>by rw [fst];simp [h1,h2]
 have trk:∀ {b:Addr},H' b≠none->b∉frs X.stack:=fun {b} hb hm=>by
  have h1:=I.stkFree b hm
  obtain ⟨_,o,ho,_⟩:=I.stack.mem hm
  exact hb (F.un.free b o ho h1 (by simp))
 have keepB:∀ {b:Addr} {o:Obj},s'.heap.get? b=some o->((∃ o',s.heap.get? b=some o')∨H' b≠none)->b∉frs X.stack->h'.get? b=some o:=fun e1 e2 e3=>hf'.1 _ _ (cov _ _ e1 e2 e3)
 have slotOf:∀ {b:Addr} {o:Obj},b∈frs X.stack->s'.heap.get? b=some o->∃ sl,h'.get? b=some { o with slots:=sl }:=fun {b o} hm e=>by
  obtain ⟨_,o',ho',hn⟩:=hf.2.2.1.mem hm
  rw [e] at ho';cases ho'
  exact up b o e hn
 refine ⟨F.os.trans I.os,F.bare,⟨?_,?_,?_,?_,?_,?_,?_⟩,?_,F.ne,?_,⟨B,a0,hf',?_⟩⟩
 ·intro b o e n hb hx
  have e1:=I.base.keep b o e n hb (by rw [O.ex];simp)
  have n1:=I.base.free b o e n (by rw [O.ex];simp)
  have hs:b∉frs X.stack:=nin (I.ne0 e) hb
  exact keepB (F.un.keep b o e1 n1 hs (by simp)) (.inl ⟨o,e1⟩) hs
 ·intro b o e n hb hx
  obtain ⟨sl,e1⟩:=I.base.slot b o e n hb (by rw [O.ex];simp)
  have n1:=I.base.free b o e n (by rw [O.ex];simp)
  have hs:b∈frs X.stack:=by rw [fst];exact List.mem_cons_of_mem _ hb
  obtain ⟨sl2,e2⟩:=F.un.slot b _ e1 n1 hs (by simp)
  obtain ⟨sl3,e3⟩:=slotOf hs e2
  exact ⟨sl3,e3⟩
 ·intro b o e n hx
  obtain ⟨o1,e1⟩:=I.there0 O e
  exact F.un.free b o1 e1 (I.base.free b o e n (by rw [O.ex];simp)) (by simp)
 ·intro b o e hx
  obtain ⟨o1,e1⟩:=I.there0 O e
  obtain ⟨o2,e2⟩:=F.un.there b o1 e1 (by simp)
  by_cases hs:b∈frs X.stack
  ·obtain ⟨sl,e3⟩:=slotOf hs e2
   exact ⟨_,e3⟩
  ·exact ⟨o2,keepB e2 (.inl ⟨o1,e1⟩) hs⟩
 ·exact fun b xs e=>F.un.tups b xs (I.base.tups b xs e)
 ·exact fun b o u e=>F.un.frzs b o u (I.base.frzs b o u e)
 ·intro b ps e
  obtain ⟨m1,e1⟩:=I.base.tbls b ps e
  obtain ⟨m2,e2⟩:=F.un.tbls b _ e1
  exact ⟨m1++m2,by rw [e2,Array.append_assoc]⟩
 ·intro a o e
  refine (F.hok a o e).stay (fun b u hb z=>?_) (fun b z=>z) (fun b xs z=>z)
  have hb':H' b≠none:=by
   rcases hb with rfl | hb
   ·rw [e];simp
   ·rw [hb];simp
  exact keepB z (.inr hb') (trk hb')
 ·show X.s₀.heap.get? ea=none
  cases q:X.s₀.heap.get? ea with
  | none=>rfl
  | some o=>
   obtain ⟨o1,e1⟩:=I.there0 O q
   rw [F.new] at e1;cases e1
 ·intro b o e c hb
  have c':(∃ o',s.heap.get? b=some o')∨H' b≠none:=by
   rcases c with ⟨o',c⟩ | c
   ·exact .inl (I.there0 O c)
   ·exact .inr c
  have hs:b∉frs X.stack:=by
   rcases c with ⟨o',c⟩ | c
   ·exact nin (I.ne0 c) hb
   ·exact trk c
  have ex:∃ o2,s'.heap.get? b=some o2:=by
   rcases c' with ⟨o',c1⟩ | c1
   ·exact F.un.there b o' c1 (by simp)
   ·cases q:H' b with
    | none=>exact absurd q c1
    | some u=>exact (F.hok b u q).here
  obtain ⟨o2,e2⟩:=ex
  have z:=keepB e2 c' hs
  have z':h'.get? b=some o:=e
  rw [z] at z';cases z'
  exact cov b o e2 c' hs
end
end L2
namespace L2
open PySem PySem.Spec PyProof.Rows
section
variable {X:Cx} {pins:List (Addr×Obj)} {σ:St} {H H':Hp} {s s':Shared} {ea:Addr} {cls:Value}
theorem zLt (l:List Env):∀ env∈l,∀ b,env.frame=some b->b∈frs l:=fun env he b hb=>List.mem_filterMap.mpr ⟨env,he,hb⟩
theorem Fly.made (I:Inv X pins σ H s) (O:Own X) {vs:List Value} (hx:Heap.MadeExcOf s.heap s'.heap ea cls vs) (hos:s'.os=s.os) (hg:AllBare s'.gens) {h':Heap} {t:Addr}
  (hf':Heap.FlyingW (PySem.W.hideAll s.heap (frs X.stack)) X.outer ea cls (.ref t) h') (up:s'.heap.UpToSlots h'):Fly X.prog X.w X.outer X.H₀ H X.s₀ ea cls { s' with heap:=h' }:=by
 have fst:frs X.stack=X.env.locals::X.fs:=zDq O
 have nin:∀ {b:Addr},b≠X.env.locals->b∉X.fs->b∉frs X.stack:=fun h1 h2=>by rw [fst];simp [h1,h2]
 have trk:∀ {b:Addr},H b≠none->b∉frs X.stack:=fun {b} hb hm=>hb (I.stkFree b hm)
 have keepB:∀ {b:Addr} {o:Obj},s.heap.get? b=some o->b∉frs X.stack->h'.get? b=some o:=fun e1 e3=>hf'.1 _ _ (PySem.W.hideAll_get _ e1 e3)
 have slotOf:∀ {b:Addr} {o:Obj},b∈frs X.stack->s.heap.get? b=some o->∃ sl,h'.get? b=some { o with slots:=sl }:=fun {b o} hm e=>by
  obtain ⟨_,o',ho',hn⟩:=I.stack.mem hm
  rw [e] at ho';cases ho'
  exact up b o (hx.keeps b o e) hn
 refine ⟨hos.trans I.os,hg,⟨?_,?_,?_,?_,?_,?_,?_⟩,?_,?_,?_,⟨_,_,hf',?_⟩⟩
 ·intro b o e n hb hx'
  exact keepB (I.base.keep b o e n hb (by rw [O.ex];simp)) (nin (I.ne0 e) hb)
 ·intro b o e n hb hx'
  obtain ⟨sl,e1⟩:=I.base.slot b o e n hb (by rw [O.ex];simp)
  have hs:b∈frs X.stack:=by rw [fst];exact List.mem_cons_of_mem _ hb
  obtain ⟨sl3,e3⟩:=slotOf hs e1
  exact ⟨sl3,e3⟩
 ·exact fun b o e n hx'=>I.base.free b o e n (by rw [O.ex];simp)
 ·intro b o e hx'
  obtain ⟨o1,e1⟩:=I.there0 O e
  by_cases hs:b∈frs X.stack
  ·obtain ⟨sl,e3⟩:=slotOf hs e1
   exact ⟨_,e3⟩
  ·exact ⟨o1,keepB e1 hs⟩
 ·exact fun b xs e=>I.base.tups b xs e
 ·exact fun b o u e=>I.base.frzs b o u e
 ·exact fun b ps e=>I.base.tbls b ps e
 ·intro a o e
  refine (I.hok a o e).stay (fun b u hb z=>?_) (fun b z=>z) (fun b xs z=>z)
  have hb':H b≠none:=by
   rcases hb with rfl | hb
   ·rw [e];simp
   ·rw [hb];simp
  exact keepB z (trk hb')
 ·exact I.hok.none_of hx.new
 ·show X.s₀.heap.get? ea=none
  cases q:X.s₀.heap.get? ea with
  | none=>rfl
  | some o=>
   obtain ⟨o1,e1⟩:=I.there0 O q
   rw [hx.new] at e1;cases e1
 ·intro b o e c hb
  have hs:b∉frs X.stack:=by
   rcases c with ⟨o',c⟩ | c
   ·exact nin (I.ne0 c) hb
   ·exact trk c
  have ex:∃ o2,s.heap.get? b=some o2:=by
   rcases c with ⟨o',c1⟩ | c1
   ·exact I.there0 O c1
   ·cases q:H b with
    | none=>exact absurd q c1
    | some u=>exact (I.hok b u q).here
  obtain ⟨o2,e2⟩:=ex
  have z:=keepB e2 hs
  have z':h'.get? b=some o:=e
  rw [z] at z';cases z'
  exact PySem.W.hideAll_get _ e2 hs
end
section
variable {CX:CXT} {P:Program} {w:World} {K:PySem.W.Frag} {mg:Str->Option Value} {base:Heap} {N:List Str} {qual:Str} {scope:Scope} {f:Addr} {cd:Value} {A:Around} {outer:List Env} {s₀:Shared} {H₀:Hp} {E:XK}
theorem zIe:Own (zDX CX P w K mg base N qual scope f cd A outer s₀ H₀ E):=⟨rfl,rfl,rfl⟩
theorem zNv {E':XK} (h:∀ c H',E' c none H'->E c none H'):zCC (CX1 P w) (zDX (CX1 P w) P w K mg base N qual scope f cd A outer s₀ H₀ E) E':=by
 intro pins σ H s e s' I hc
 obtain ⟨ea,cls,H',rfl,F,q⟩:=hc
 obtain ⟨B,a0,hf,cov⟩:=F.fly
 have O:Own (zDX (CX1 P w) P w K mg base N qual scope f cd A outer s₀ H₀ E):=zIe
 exact wpAny_leaves_onW (I.ok.frames.trans (congrArg some O.stk)) O.fr hf fun h' hf' up=>⟨ea,cls,H',rfl,F.leave I O hf cov hf' up,h _ _ q⟩
theorem zBI {pins:List (Addr×Obj)} {σ:St} {H:Hp} {s s':Shared} {ea:Addr} {cls:Value} {vs:List Value} (I:Inv (zDX (CX1 P w) P w K mg base N qual scope f cd A outer s₀ H₀ E) pins σ H s)
  (hx:Heap.MadeExcOf s.heap s'.heap ea cls vs) (hos:s'.os=s.os) (hg:AllBare s'.gens) (q:E cls none H):(zDX (CX1 P w) P w K mg base N qual scope f cd A outer s₀ H₀ E).xe (.ref ea) s':=by
 have O:Own (zDX (CX1 P w) P w K mg base N qual scope f cd A outer s₀ H₀ E):=zIe
 have hst:=O.stk
 exact wpAny_leaves_madeW (base:=PySem.W.hideAll s.heap (frs (zDX (CX1 P w) P w K mg base N qual scope f cd A outer s₀ H₀ E).stack)) (h:=s.heap) (I.ok.frames.trans (congrArg some O.stk)) O.fr (fun b o z=>PySem.W.of_hideAll _ z)
  (PySem.W.funFrames_hide (I.stack) (zLt _)) hx fun h' t hf' _ _ up=>⟨ea,cls,H,rfl,Fly.made I O hx hos hg hf' up,q⟩
end
structure Err (K:PySem.W.Frag) (mg:Str->Option Value) (x:Str) (C:Addr):Prop where
 own:∀ h:Heap,K.In h->∃ bm newId B initId,OwnCls x C bm newId mg h/\ExcBaseFacts B newId initId bm
end L2
namespace L3
open PySem
inductive D where
 | non | bl (b:Bool) | int (i:Int) | str (x:Str) | tup (ds:List D) | lst (ds:List D)
inductive Res (α:Type) where
 | ok (a:α) | err (c:Str) | no
def Res.bind {α β:Type} (x:Res α) (f:α->Res β):Res β:=match x with
 | .ok a=>f a
 | .err c=>.err c
 | .no=>.no
inductive Sl where
 | un | val (d:D) | own (ds:List D) | exc (c:Str) | tab (T:List (Str×Str))
abbrev Rho:=List Sl
inductive Rt where
 | v (d:D) | f (ds:List D)
def Rt.d:Rt->D
 | .v d=>d
 | .f ds=>.lst ds
inductive Fl where
 | nx (ρ:Rho) | ret (r:Rt) | brk (ρ:Rho) | ctn (ρ:Rho)
abbrev Ev:=Rho->Res D
abbrev Fv:=Rho->Res (List D)
abbrev Tv:=Rho->Res Bool
abbrev Sv:=Rho->Res Fl
abbrev Mir:=List D->Res Rt
mutual
def eqD:D->D->Bool
 | .non,.non=>true
 | .bl a,.bl b=>a==b
 | .bl a,.int b=>(if a then 1 else 0)==b
 | .int a,.bl b=>a==(if b then 1 else 0)
 | .int a,.int b=>a==b
 | .str a,.str b=>a==b
 | .tup ds,.tup es=>zGk ds es
 | .lst ds,.lst es=>zGk ds es
 | _,_=>false
def zGk:List D->List D->Bool
 | [],[]=>true
 | d::ds,e::es=>eqD d e && zGk ds es
 | _,_=>false
end
mutual
def dep:D->Nat
 | .tup ds=>depS ds+1
 | .lst ds=>depS ds+1
 | _=>0
def depS:List D->Nat
 | []=>0
 | d::ds=>max (dep d) (depS ds)
end
mutual
def noL:D->Bool
 | .tup ds=>noLs ds
 | .lst _=>false
 | _=>true
def noLs:List D->Bool
 | []=>true
 | d::ds=>noL d && noLs ds
end
theorem qF:∀ {ds:List D} {d:D},d∈ds->dep d<=depS ds
 | e::ds,d,h=>by
  rw [depS]
  rcases List.mem_cons.mp h with rfl | h
  ·exact Nat.le_max_left ..
  ·exact Nat.le_trans (qF h) (Nat.le_max_right ..)
theorem zBL {n:Nat}:∀ {ds:List D},(∀ d∈ds,dep d<=n)->depS ds<=n
 | [],_=>Nat.zero_le _
 | d::ds,h=>by
  rw [depS]
  exact Nat.max_le.mpr ⟨h d List.mem_cons_self,zBL fun e he=>h e (List.mem_cons_of_mem _ he)⟩
theorem zHT:∀ {ds:List D},noLs ds=true ↔ ∀ d∈ds,noL d=true
 | []=>by simp [noLs]
 | d::ds=>by rw [noLs,Bool.and_eq_true,zHT];simp
theorem lU:∀ (ds es:List D),zGk ds es=((List.range (min ds.length es.length)).all (fun j=>eqD (ds.getD j .non) (es.getD j .non)) && ds.length==es.length)
 | [],[]=>rfl
 | [],e::es=>by simp [zGk]
 | d::ds,[]=>by simp [zGk]
 | d::ds,e::es=>by
  rw [zGk,lU ds es]
  have h:min (d::ds).length (e::es).length=min ds.length es.length+1:=by simp only [List.length_cons];omega
  rw [h,List.range_succ_eq_map]
  simp [List.all_map,Function.comp_def,Bool.and_assoc]
mutual
theorem oH:∀ d:D,eqD d d=true
 | .non=>rfl
 | .bl b=>by simp [eqD]
 | .int i=>by simp [eqD]
 | .str x=>by simp [eqD]
 | .tup ds=>by rw [eqD];exact sU ds
 | .lst ds=>by rw [eqD];exact sU ds
theorem sU:∀ ds:List D,zGk ds ds=true
 | []=>rfl
 | d::ds=>by rw [zGk,oH d,sU ds];rfl
end
def nb (i:Int):Nat:=i.natAbs.log2+1
theorem zKl (i:Int):i.natAbs < 2^nb i:=Nat.lt_log2_self
theorem zNo {i:Int} {m:Nat} (h:i.natAbs < 2^m) (hm:0 < m):nb i<=m:=by
 unfold nb
 by_cases h0:i.natAbs=0
 ·rw [h0];exact hm
 ·exact (Nat.log2_lt h0).mpr h
def iV (i j:Int):Bool:=(decide (-(2^64) < i) && decide (i < 2^64)) || (decide (-(2^64) < j) && decide (j < 2^64)) || decide (nb i+nb j<=134217728)
def kJ (j:Int):Bool:=decide (j≠0) && decide (nb j<=9000)
def rS (i j:Int):Bool:=decide (0<=j) && decide ((nb i:Int) * j<=2^27)
abbrev Op2:=D->D->Res D
def zDN:Op2
 | .int i,.int j=>.ok (.int (i+j))
 | .tup a,.tup b=>if a.length+b.length<=16777216 then .ok (.tup (a++b)) else .no
 | _,_=>.no
def zCi:Op2
 | .int i,.int j=>.ok (.int (i+j))
 | _,_=>.no
def sQ:Op2
 | .int i,.int j=>.ok (.int (i - j))
 | _,_=>.no
def oJ:Op2
 | .int i,.int j=>if iV i j=true then .ok (.int (i * j)) else .no
 | _,_=>.no
def zCG:Op2
 | .int i,.int j=>if kJ j=true then .ok (.int (i.fdiv j)) else .no
 | _,_=>.no
def zBp:Op2
 | .int i,.int j=>if j≠0 then .ok (.int (i.fmod j)) else .no
 | _,_=>.no
def zJP:Op2
 | .int i,.int j=>if rS i j=true then .ok (.int (i^j.toNat)) else .no
 | _,_=>.no
def oEq (x y:D):Res D:=if dep x<=50 then .ok (.bl (eqD x y)) else .no
def oNe (x y:D):Res D:=if dep x<=50 then .ok (.bl (!eqD x y)) else .no
def oLt:Op2
 | .int i,.int j=>.ok (.bl (decide (i < j)))
 | _,_=>.no
def oLe:Op2
 | .int i,.int j=>.ok (.bl (decide (i<=j)))
 | _,_=>.no
def oGt:Op2
 | .int i,.int j=>.ok (.bl (decide (j < i)))
 | _,_=>.no
def oGe:Op2
 | .int i,.int j=>.ok (.bl (decide (j<=i)))
 | _,_=>.no
def atD (ds:List D) (i:Int):Option D:=if 0<=i then ds[i.toNat]? else if 0<=(ds.length:Int)+i then ds[((ds.length:Int)+i).toNat]? else none
def ofO {α:Type}:Option α->Res α
 | some a=>.ok a
 | none=>.no
def oIx:Op2
 | .tup ds,.int i=>ofO (atD ds i)
 | .lst ds,.int i=>ofO (atD ds i)
 | _,_=>.no
def oIn:Op2
 | d,.lst ds=>if depS ds<=50 then .ok (.bl (ds.any fun e=>eqD e d)) else .no
 | d,.tup ds=>if depS ds<=50 then .ok (.bl (ds.any fun e=>eqD e d)) else .no
 | _,_=>.no
def tN:Op2
 | d,.lst ds=>if depS ds<=50 then .ok (.bl (!(ds.any fun e=>eqD e d))) else .no
 | d,.tup ds=>if depS ds<=50 then .ok (.bl (!(ds.any fun e=>eqD e d))) else .no
 | _,_=>.no
def zHA:D->Res D
 | .int i=>.ok (.int (-i))
 | _=>.no
def zOw:D->Res D
 | .bl b=>.ok (.bl (!b))
 | _=>.no
def aJ (i:Nat) (ρ:Rho):Res D:=match ρ[i]? with
 | some (.val d)=>.ok d
 | _=>.no
def eC (d:D) (_ρ:Rho):Res D:=.ok d
def eOp (o:Op2) (a b:Ev) (ρ:Rho):Res D:=(a ρ).bind fun x=>(b ρ).bind fun y=>o x y
def eUn (o:D->Res D) (a:Ev) (ρ:Rho):Res D:=(a ρ).bind o
def zLR (a b:Ev) (ρ:Rho):Res D:=(a ρ).bind fun x=>match x with
 | .bl c=>if c=true then b ρ else .ok (.bl false)
 | _=>.no
def eOr (a b:Ev) (ρ:Rho):Res D:=(a ρ).bind fun x=>match x with
 | .bl c=>if c=true then .ok (.bl true) else b ρ
 | _=>.no
def eIf (t:Tv) (a b:Ev) (ρ:Rho):Res D:=(t ρ).bind fun c=>if c=true then a ρ else b ρ
def aNil (_ρ:Rho):Res (List D):=.ok []
def aE (e:Ev) (r:Fv) (ρ:Rho):Res (List D):=(e ρ).bind fun d=>(r ρ).bind fun ds=>.ok (d::ds)
def wG (a:Fv) (ρ:Rho):Res D:=(a ρ).bind fun ds=>if ds.length<=16777216 then .ok (.tup ds) else .no
def aV (m:Mir) (a:Fv) (ρ:Rho):Res D:=(a ρ).bind fun ds=>(m ds).bind fun r=>.ok r.d
def kM:List D->Res D
 | [.lst ds]=>.ok (.int ds.length)
 | [.tup ds]=>.ok (.int ds.length)
 | _=>.no
def zIT:List D->Res D
 | [.int i]=>.ok (.int (if i < 0 then -i else i))
 | _=>.no
def zOR:List D->Res D
 | [.int i,.int j]=>.ok (.int (if j > i then j else i))
 | _=>.no
def zOq:List D->Res D
 | [.int i,.int j]=>.ok (.int (if j < i then j else i))
 | _=>.no
def zIi:List D->Res D
 | [.lst ds]=>.ok (.tup ds)
 | [.tup ds]=>.ok (.tup ds)
 | _=>.no
def eB (b:List D->Res D) (a:Fv) (ρ:Rho):Res D:=(a ρ).bind b
def tyN:D->String
 | .non => "NoneType" | .bl _ => "bool" | .int _ => "int" | .str _ => "str" | .tup _ => "tuple" | .lst _ => "list"
def isT (T:String) (d:D):Bool:=tyN d==T || (T == "int" && tyN d == "bool")
def zHd (T:String) (a:Ev) (ρ:Rho):Res D:=(a ρ).bind fun d=>.ok (.bl (isT T d))
def isNon:D->Bool
 | .non=>true
 | _=>false
def Sl.frz:Sl->Sl
 | .own ds=>.val (.lst ds)
 | s=>s
def zMK (e:Ev) (ρ:Rho):Res D:=(e (ρ.map Sl.frz)).bind fun d=>if noL d=true then .ok d else .no
def tY (a:Fv) (ρ:Rho):Res (List D):=(a ρ).bind fun ds=>if ds.length<=16777216 then .ok ds else .no
def fB (m:Mir) (a:Fv) (ρ:Rho):Res (List D):=(a ρ).bind fun ds=>(m ds).bind fun r=>match r with
 | .f ds=>.ok ds
 | .v _=>.no
def zGU (a:Fv) (ρ:Rho):Res (List D):=(a ρ).bind fun ds=>match ds with
 | [.lst ds]=>.ok ds
 | [.tup ds]=>.ok ds
 | _=>.no
def zMJ (a b:Ev) (ρ:Rho):Res (List D):=(a ρ).bind fun x=>(b ρ).bind fun y=>match x,y with
 | .lst ds,.lst es=>if ds.length+es.length<=16777216 then .ok (ds++es) else .no
 | _,_=>.no
def eF (f:Fv) (ρ:Rho):Res D:=(f ρ).bind fun ds=>.ok (.lst ds)
def cut (n:Nat) (i:Option Int) (d:Nat):Nat:=match i with
 | none=>d
 | some i=>if 0<=i then min i.toNat n else ((n:Int)+i).toNat
def kI (ds:List D) (lo hi:Option Int):List D:=(ds.drop (cut ds.length lo 0)).take (cut ds.length hi ds.length - cut ds.length lo 0)
abbrev Ov:=Rho->Res (Option Int)
def oN (_ρ:Rho):Res (Option Int):=.ok none
def oS (e:Ev) (ρ:Rho):Res (Option Int):=(e ρ).bind fun d=>match d with
 | .int i=>.ok (some i)
 | _=>.no
def fSl (a:Ev) (lo hi:Ov) (ρ:Rho):Res (List D):=(a ρ).bind fun x=>(lo ρ).bind fun l=>(hi ρ).bind fun h=>match x with
 | .lst ds=>.ok (kI ds l h)
 | _=>.no
def zOP (a:Ev) (lo hi:Ov) (ρ:Rho):Res D:=(a ρ).bind fun x=>(lo ρ).bind fun l=>(hi ρ).bind fun h=>match x with
 | .tup ds=>if (kI ds l h).length < ds.length then .ok (.tup (kI ds l h)) else .no
 | _=>.no
def dW (e:Ev) (ρ:Rho):Res Bool:=(e ρ).bind fun d=>match d with
 | .bl b=>.ok b
 | _=>.no
def tFrzB (t:Tv) (ρ:Rho):Res Bool:=t (ρ.map Sl.frz)
def kN (t:Tv) (ρ:Rho):Res Bool:=(t ρ).bind fun b=>.ok (!b)
def zEa (t u:Tv) (ρ:Rho):Res Bool:=(t ρ).bind fun b=>if b=true then u ρ else .ok false
def zCt (t u:Tv) (ρ:Rho):Res Bool:=(t ρ).bind fun b=>if b=true then .ok true else u ρ
def sNext (ρ:Rho):Res Fl:=.ok (.nx ρ)
def bF (a b:Sv) (ρ:Rho):Res Fl:=(a ρ).bind fun f=>match f with
 | .nx ρ'=>b ρ'
 | f=>.ok f
def sIf (t:Tv) (a b:Sv) (ρ:Rho):Res Fl:=(t ρ).bind fun c=>if c=true then a ρ else b ρ
def dI (i:Nat) (e:Ev) (ρ:Rho):Res Fl:=(e ρ).bind fun d=>.ok (.nx (ρ.set i (.val d)))
def zEh (i:Nat) (f:Fv) (ρ:Rho):Res Fl:=(f ρ).bind fun ds=>.ok (.nx (ρ.set i (.own ds)))
def zAO (e:Ev) (ρ:Rho):Res Fl:=(e ρ).bind fun _=>.ok (.nx ρ)
def gX (e:Ev) (ρ:Rho):Res Fl:=(e (ρ.map Sl.frz)).bind fun d=>.ok (.ret (.v d))
def jW (f:Fv) (ρ:Rho):Res Fl:=(f (ρ.map Sl.frz)).bind fun ds=>.ok (.ret (.f ds))
def gH (i:Nat) (ρ:Rho):Res Fl:=match ρ[i]? with
 | some (.own ds)=>.ok (.ret (.f ds))
 | _=>.no
def sRetN (_ρ:Rho):Res Fl:=.ok (.ret (.v .non))
def kD (c:Str) (a:Fv) (ρ:Rho):Res Fl:=(a ρ).bind fun ds=>if ds.length<=16777216 then .err c else .no
def sNo (_ρ:Rho):Res Fl:=.no
def zDF (i:Nat) (e:Ev) (ρ:Rho):Res Fl:=match ρ[i]? with
 | some (.own ds)=>(e ρ).bind fun d=>if ds.length < 16777216 then .ok (.nx (ρ.set i (.own (ds++[d])))) else .no
 | _=>.no
def zMQ (i:Nat) (k e:Ev) (ρ:Rho):Res Fl:=(e ρ).bind fun d=>match ρ[i]? with
 | some (.own ds)=>(k ρ).bind fun j=>match j with
  | .int j=>if 0<=j/\j < ds.length then .ok (.nx (ρ.set i (.own (ds.set j.toNat d)))) else if -(ds.length:Int)<=j/\j < 0 then .ok (.nx (ρ.set i (.own (ds.set (j+ds.length).toNat d)))) else .no
  | _=>.no
 | _=>.no
def zMv (i:Nat) (ρ:Rho):Res Fl:=match ρ[i]? with
 | some (.own ds)=>if ds.length=0 then .no else .ok (.nx (ρ.set i (.own ds.dropLast)))
 | _=>.no
def zIm (i:Nat) (o:Op2) (e:Ev) (ρ:Rho):Res Fl:=match ρ[i]? with
 | some (.val x)=>(e ρ).bind fun y=>(o x y).bind fun d=>.ok (.nx (ρ.set i (.val d)))
 | _=>.no
def sFrz (s:Sv) (ρ:Rho):Res Fl:=s (ρ.map Sl.frz)
def noErr {α:Type}:Res α->Res α
 | .err _=>.no
 | r=>r
abbrev Gv:=D->Rho->Res Rho
def gName (i:Nat) (d:D) (ρ:Rho):Res Rho:=.ok (ρ.set i (.val d))
def zHp (gs:List D->Rho->Res Rho) (d:D) (ρ:Rho):Res Rho:=match d with
 | .tup ds=>gs ds ρ
 | _=>.no
def zHy (ds:List D) (ρ:Rho):Res Rho:=match ds with
 | []=>.ok ρ
 | _=>.no
def rA (g:Gv) (r:List D->Rho->Res Rho) (ds:List D) (ρ:Rho):Res Rho:=match ds with
 | d::ds=>(g d ρ).bind fun ρ'=>r ds ρ'
 | []=>.no
def zOz (g:Gv) (f:Ev) (ρ:Rho):Res Fl:=(f ρ).bind fun d=>(g d ρ).bind fun ρ'=>.ok (.nx ρ')
def eP (g:Gv) (b:Sv):List D->Rho->Res Fl
 | [],ρ=>.ok (.nx ρ)
 | d::ds,ρ=>(g d ρ).bind fun ρ1=>(b ρ1).bind fun f=>match f with
  | .nx ρ2=>eP g b ds ρ2
  | .ctn ρ2=>eP g b ds ρ2
  | .brk ρ2=>.ok (.nx ρ2)
  | .ret r=>.ok (.ret r)
def rD (it:Fv) (g:Gv) (b:Sv) (ρ:Rho):Res Fl:=(it ρ).bind fun ds=>eP g b ds ρ
def rL (e:Ev) (ρ:Rho):Res (List D):=(e ρ).bind fun d=>match d with
 | .lst ds=>.ok ds
 | .tup ds=>.ok ds
 | _=>.no
def rng (lo:Int) (n:Nat) (c:Int):List D:=(List.range n).map fun (i:Nat)=>D.int (lo+(i:Int) * c)
def zBd (a:Fv) (ρ:Rho):Res (List D):=(a ρ).bind fun ds=>match ds with
 | [.int j]=>if -(2^62)<=j/\j < 2^62 then .ok (rng 0 j.toNat 1) else .no
 | _=>.no
def zBg (a:Fv) (ρ:Rho):Res (List D):=(a ρ).bind fun ds=>match ds with
 | [.int i,.int j]=>if -(2^62)<=i/\i < 2^62/\-(2^62)<=j/\j < 2^62 then .ok (rng i (j - i).toNat 1) else .no
 | _=>.no
def wh (t:Tv) (b:Sv):Nat->Rho->Res Fl
 | 0,_=>.no
 | n+1,ρ=>(t ρ).bind fun c=>if c=true then (b ρ).bind fun f=>match f with
   | .nx ρ2=>wh t b n ρ2
   | .ctn ρ2=>wh t b n ρ2
   | .brk ρ2=>.ok (.nx ρ2)
   | .ret r=>.ok (.ret r)
  else .ok (.nx ρ)
open Classical in
def eT (t:Tv) (b:Sv) (ρ:Rho):Res Fl:=if h:∃ n,wh t b n ρ≠.no then wh t b h.choose ρ else .no
theorem zG {t:Tv} {b:Sv}:∀ {n:Nat} {ρ:Rho} {k:Nat},wh t b n ρ≠.no->n<=k->wh t b k ρ=wh t b n ρ
 | 0,ρ,k,h,_=>absurd rfl h
 | n+1,ρ,0,h,l=>absurd l (by omega)
 | n+1,ρ,k+1,h,l=>by
  rw [wh,wh]
  rw [wh] at h
  cases ht:t ρ with
  | no=>rfl
  | err c=>rfl
  | ok c=>
   rw [ht] at h
   simp only [Res.bind] at h ⊢
   cases c with
   | false=>rfl
   | true=>
    simp only [if_true] at h ⊢
    cases hb:b ρ with
    | no=>rfl
    | err c=>rfl
    | ok f=>
     rw [hb] at h
     cases f with
     | nx ρ2=>exact zG h (by omega)
     | ctn ρ2=>exact zG h (by omega)
     | brk ρ2=>rfl
     | ret r=>rfl
theorem fW {t:Tv} {b:Sv} {n:Nat} {ρ:Rho} (h:wh t b n ρ≠.no):eT t b ρ=wh t b n ρ:=by
 have hx:∃ n,wh t b n ρ≠.no:=⟨n,h⟩
 unfold eT
 rw [dif_pos hx]
 rcases Nat.le_total n hx.choose with l | l
 ·exact zG h l
 ·exact (zG hx.choose_spec l).symm
theorem nQ {t:Tv} {b:Sv} {ρ:Rho} (h:eT t b ρ≠.no):∃ n,eT t b ρ=wh t b n ρ:=by
 unfold eT at h ⊢
 split
 ·exact ⟨_,rfl⟩
 ·rename_i hx;rw [dif_neg hx] at h;exact absurd rfl h
theorem zX {t:Tv} {b:Sv} {ρ:Rho}:eT t b ρ=((t ρ).bind fun c=>if c=true then (b ρ).bind fun f=>match f with
   | .nx ρ2=>eT t b ρ2
   | .ctn ρ2=>eT t b ρ2
   | .brk ρ2=>.ok (.nx ρ2)
   | .ret r=>.ok (.ret r)
  else .ok (.nx ρ)):=by
 have key:∀ n,wh t b (n+1) ρ≠.no->wh t b (n+1) ρ=((t ρ).bind fun c=>if c=true then (b ρ).bind fun f=>match f with
   | .nx ρ2=>eT t b ρ2
   | .ctn ρ2=>eT t b ρ2
   | .brk ρ2=>.ok (.nx ρ2)
   | .ret r=>.ok (.ret r)
  else .ok (.nx ρ)):=by
  intro n h
  rw [wh] at h ⊢
  cases ht:t ρ with
  | no=>rfl
  | err c=>rfl
  | ok c=>
   rw [ht] at h
   simp only [Res.bind] at h ⊢
   cases c with
   | false=>rfl
   | true=>
    simp only [if_true] at h ⊢
    cases hb:b ρ with
    | no=>rfl
    | err c=>rfl
    | ok f=>
     rw [hb] at h
     cases f with
     | nx ρ2=>exact (fW h).symm
     | ctn ρ2=>exact (fW h).symm
     | brk ρ2=>rfl
     | ret r=>rfl
 by_cases h:eT t b ρ=.no
 ·rw [h]
  cases ht:t ρ with
  | no=>rfl
  | err c=>
   exfalso
   have q:wh t b 1 ρ=.err c:=by rw [wh,ht];rfl
   have:=fW (t:=t) (b:=b) (ρ:=ρ) (n:=1) (by rw [q];exact fun z=>by cases z)
   rw [h,q] at this;cases this
  | ok c=>
   simp only [Res.bind]
   cases c with
   | false=>
    exfalso
    have q:wh t b 1 ρ=.ok (.nx ρ):=by rw [wh,ht];rfl
    have:=fW (t:=t) (b:=b) (ρ:=ρ) (n:=1) (by rw [q];exact fun z=>by cases z)
    rw [h,q] at this;cases this
   | true=>
    simp only [if_true]
    cases hb:b ρ with
    | no=>rfl
    | err c=>
     exfalso
     have q:wh t b 1 ρ=.err c:=by rw [wh,ht];simp [Res.bind,hb]
     have:=fW (t:=t) (b:=b) (ρ:=ρ) (n:=1) (by rw [q];exact fun z=>by cases z)
     rw [h,q] at this;cases this
    | ok f=>
     have again:∀ ρ2,(f=.nx ρ2∨f=.ctn ρ2)->eT t b ρ2=.no:=by
      intro ρ2 hf
      by_cases h2:eT t b ρ2=.no
      ·exact h2
      ·exfalso
       obtain ⟨n,e⟩:=nQ h2
       have q:wh t b (n+1) ρ=wh t b n ρ2:=by
        rw [wh,ht]
        simp only [Res.bind,if_true,hb]
        rcases hf with rfl | rfl<;>rfl
       have h3:wh t b (n+1) ρ≠.no:=by rw [q,<-e];exact h2
       have:=fW h3
       rw [h] at this
       exact h3 this.symm
     cases f with
     | nx ρ2=>exact (again ρ2 (.inl rfl)).symm
     | ctn ρ2=>exact (again ρ2 (.inr rfl)).symm
     | brk ρ2=>
      exfalso
      have q:wh t b 1 ρ=.ok (.nx ρ2):=by rw [wh,ht];simp [Res.bind,hb]
      have:=fW (t:=t) (b:=b) (ρ:=ρ) (n:=1) (by rw [q];exact fun z=>by cases z)
      rw [h,q] at this;cases this
     | ret r=>
      exfalso
      have q:wh t b 1 ρ=.ok (.ret r):=by rw [wh,ht];simp [Res.bind,hb]
      have:=fW (t:=t) (b:=b) (ρ:=ρ) (n:=1) (by rw [q];exact fun z=>by cases z)
      rw [h,q] at this;cases this
 ·obtain ⟨n,e⟩:=nQ h
  cases n with
  | zero=>rw [e] at h;exact absurd rfl h
  | succ n=>rw [e];exact key n (by rw [<-e];exact h)
def zIY (f:Fv) (g:Ev) (ρ:Rho):Res (List D):=(f ρ).bind fun ds=>(g ρ).bind fun d=>match d with
 | .int k=>if 0<=k/\k < 2^62/\ds.length * k.toNat<=16777216 then .ok (List.replicate k.toNat ds).flatten else .no
 | _=>.no
def lZ (_ρ:Rho):Res Bool:=.ok true
def hZ (t:Tv) (f:Ev) (ρ:Rho):List D->Res (List D)
 | []=>.ok []
 | d::ds=>(noErr (t (ρ++[.val d]))).bind fun c=>if c=true then (noErr (f (ρ++[.val d]))).bind fun e=>(hZ t f ρ ds).bind fun es=>.ok (e::es) else hZ t f ρ ds
def lC (it:Fv) (t:Tv) (f:Ev) (ρ:Rho):Res (List D):=(it ρ).bind fun ds=>if ds.length<=16777215 then hZ t f ρ ds else .no
def start (n:Nat) (ds:List D):Rho:=ds.map Sl.val++List.replicate (n - ds.length) .un
def fin:Fl->Res Rt
 | .nx _=>.ok (.v .non)
 | .ret r=>.ok r
 | .brk _=>.no
 | .ctn _=>.no
def fn (p n:Nat) (b:Sv) (ds:List D):Res Rt:=if ds.length=p then (b (start n ds)).bind fin else .no
def zMI (e:Ev) (ρ:Rho):Res (List D):=(e ρ).bind fun d=>match d with
 | .tup ds=>.ok ds.reverse
 | _=>.no
def zGK:D->Option (List D)
 | .lst ds=>some ds
 | .tup ds=>some ds
 | _=>none
def iY:List D->List D->List D
 | a::r,b::q=>.tup [a,b]::iY r q
 | _,_=>[]
def zHf (a:Fv) (ρ:Rho):Res (List D):=(a ρ).bind fun ds=>match ds with
 | [x,y]=>match zGK x,zGK y with
  | some xs,some ys=>.ok (iY xs ys)
  | _,_=>.no
 | _=>.no
def fH (f:Ev) (ρ:Rho):List D->Res (List D)
 | []=>.ok []
 | .tup [a,b]::ds=>(noErr (f (ρ++[.val a,.val b]))).bind fun e=>(fH f ρ ds).bind fun es=>.ok (e::es)
 | _::_=>.no
def qM (it:Fv) (f:Ev) (ρ:Rho):Res (List D):=(it ρ).bind fun ds=>if ds.length<=16777215 then fH f ρ ds else .no
def zOC:D->Option Str
 | .str x=>some x
 | .int i=>if i.natAbs.log2 < 1920 then some (toString i) else none
 | _=>none
def zOs:Str->List D->Option Str
 | a,[]=>some a
 | a,d::r=>match zOC d with
  | some x=>if x.length<=sizeLine/\(a++x).length<=sizeLine then zOs (a++x) r else none
  | none=>none
def qS:List D->Option (List Int)
 | []=>some []
 | .int i::ds=>match qS ds with
  | some ns=>some (i::ns)
  | none=>none
 | _::_=>none
def zBR:List D->Res D
 | [.lst ds]=>(match qS ds with
  | some ns=>.ok (.int ns.sum)
  | none=>.no)
 | [.tup ds]=>(match qS ds with
  | some ns=>.ok (.int ns.sum)
  | none=>.no)
 | _=>.no
def chO:Option Nat->Res D
 | some c=>.ok (.str ⟨#[c]⟩)
 | none=>.no
def slS (l u:Option Int):D->Res D
 | .str x=>if x.length<=sizeLine then .ok (.str (Txt.slice x l u)) else .no
 | _=>.no
def pH (T:List (Str×Str)):D->Res D
 | .str x=>.ok (.bl (!(T.lookup x).isSome))
 | _=>.no
def zKK:Option Str->Res D
 | some y=>.ok (.str y)
 | none=>.no
def tR (T:List (Str×Str)):D->Res D
 | .str x=>zKK (T.lookup x)
 | _=>.no
end L3
namespace L3
open PySem
end L3
namespace L3
open PySem
def gA (kz:List Int) (π:List Nat):Prop:=π.Perm (List.range kz.length)/\π.Pairwise (fun i j=>kz.getD i 0<=kz.getD j 0)
def zGN (b:Int):D->Res Int
 | .tup [.int t,.int d]=>if kJ d && iV t (b.fdiv d) then .ok (t * b.fdiv d) else .no
 | _=>.no
def nF (b:Int):List D->Res (List Int)
 | []=>.ok []
 | d::r=>(zGN b d).bind fun k=>(nF b r).bind fun ks=>.ok (k::ks)
def jB (π:List Nat):List D:=π.map fun i:Nat=>D.int (i:Int)
theorem zJh {b k:Int} {d:D} (h:zGN b d=.ok k):∃ t c,d=.tup [.int t,.int c]/\kJ c=true/\iV t (b.fdiv c)=true/\k=t * b.fdiv c:=by
 unfold zGN at h
 split at h
 ·rename_i t c
  split at h
  ·rename_i hc
   rw [Bool.and_eq_true] at hc
   cases h
   exact ⟨t,c,rfl,hc.1,hc.2,rfl⟩
  ·cases h
 ·cases h
theorem yT {b:Int}:∀ {rows:List D} {kz:List Int},nF b rows=.ok kz->kz.length=rows.length/\∀ (j:Nat) (k:Int),kz[j]?=some k->∃ d,rows[j]?=some d/\zGN b d=.ok k
 | [],kz,h=>by cases h;exact ⟨rfl,fun j k z=>by simp at z⟩
 | d::r,kz,h=>by
  unfold nF at h
  cases e:zGN b d with
  | no=>rw [e] at h;cases h
  | err c=>rw [e] at h;cases h
  | ok k0=>
   rw [e] at h
   have h':(nF b r).bind (fun ks=>Res.ok (k0::ks))=.ok kz:=h
   cases e2:nF b r with
   | no=>rw [e2] at h';cases h'
   | err c=>rw [e2] at h';cases h'
   | ok ks=>
    rw [e2] at h'
    cases h'
    obtain ⟨h1,h2⟩:=yT e2
    refine ⟨by rw [List.length_cons,List.length_cons,h1],fun j k z=>?_⟩
    cases j with
    | zero=>simp at z;subst z;exact ⟨d,rfl,e⟩
    | succ j=>exact h2 j k (by simpa using z)
def zCH (ρ:Rho):Res (List Int):=match ρ[0]?,ρ[1]? with
 | some (Sl.val (.lst rows)),some (Sl.val (.int b))=>if rows.length < 64 then nF b rows else .no
 | _,_=>.no
def xU (sa sb:Sv) (ds:List D):Res (List Int):=if ds.length=1 then (match sa (L3.start 3 ds) with
 | .ok (.nx ρ)=>(match sb ρ with
  | .ok (.nx ρ')=>zCH ρ'
  | _=>.no)
 | _=>.no) else .no
theorem zCA {b:Int}:∀ {rows:List D} {c:Str},nF b rows≠.err c
 | [],c,h=>by cases h
 | d::r,c,h=>by
  unfold nF at h
  have k0:∀ c,zGN b d≠.err c:=fun c z=>by
   unfold zGN at z
   split at z
   ·split at z<;>cases z
   ·cases z
  cases e:zGN b d with
  | no=>rw [e] at h;cases h
  | err c'=>exact k0 _ e
  | ok k=>
   rw [e] at h
   have h':(nF b r).bind (fun ks=>Res.ok (k::ks))=.err c:=h
   cases e2:nF b r with
   | no=>rw [e2] at h';cases h'
   | err c'=>exact zCA e2
   | ok ks=>rw [e2] at h';cases h'
theorem zLA {sa sb:Sv} (ds:List D) (c:Str):xU sa sb ds≠.err c:=fun h=>by
 unfold xU zCH at h
 split at h
 ·split at h
  ·split at h
   ·split at h
    ·split at h
     ·exact zCA h
     ·cases h
    ·cases h
   ·cases h
  ·cases h
 ·cases h
theorem zIo {sa sb:Sv} (ds:List D) (h:xU sa sb ds≠.no):ds.length=1:=by
 unfold xU at h
 split at h
 ·assumption
 ·exact absurd rfl h
open Classical in
def nH (kz:List Int) (F:List Nat->Res Fl):Res Fl:=if h:∃ x,∀ π,gA kz π->F π=x then h.choose else .no
theorem zDJ {kz:List Int} {F:List Nat->Res Fl} {π:List Nat} (h:nH kz F≠.no) (hπ:gA kz π):F π=nH kz F:=by
 unfold nH at h ⊢
 split at h
 ·rename_i z;rw [dif_pos z];exact z.choose_spec π hπ
 ·exact absurd rfl h
theorem zDD {kz:List Int} {F:List Nat->Res Fl} {x:Res Fl} {π:List Nat} (hπ:gA kz π) (h:∀ π,gA kz π->F π=x):nH kz F=x:=by
 have z:∃ x,∀ π,gA kz π->F π=x:=⟨x,h⟩
 unfold nH
 rw [dif_pos z,<-z.choose_spec π hπ]
 exact h π hπ
def zES (fs:Fv) (kf:List D->Res (List Int)) (g:Gv) (b r:Sv):Sv:=fun ρ=>((fs ρ).bind kf).bind fun kz=>nH kz fun π=>bF (fun ρ=>eP g b (jB π) ρ) r ρ
end L3
namespace L3
open PySem
end L3
namespace L3
open PySem
abbrev Tri:=D×List D×List D
end L3
namespace L3
open PySem
def zHs (e:Ev):Fv:=fun ρ=>(e ρ).bind fun d=>match d with
 | .lst ds=>.ok ds.reverse
 | _=>.no
def zOi:D->Res (List D)
 | .lst ds=>.ok ds.reverse
 | _=>.no
theorem revL_l {ds:List D}:zOi (.lst ds)=.ok ds.reverse:=rfl
theorem iRevL_at {e:Ev} {ρ:Rho}:zHs e ρ=(e ρ).bind zOi:=by
 unfold zHs
 congr
end L3
namespace Fq
theorem zDc {a b:Int} (ha:0<=a) (hb:0 < b):Int.gcd b (a % b)=Int.gcd a b:=by
 obtain ⟨m,rfl⟩:=Int.eq_ofNat_of_zero_le ha
 obtain ⟨n,rfl⟩:=Int.eq_ofNat_of_zero_le (Int.le_of_lt hb)
 show Nat.gcd n (m % n)=Nat.gcd m n
 rw [Nat.gcd_comm n (m % n),Nat.gcd_comm m n,Nat.gcd_rec n m]
def dv (t b:Int):Int:=if b < 0 then -(Int.gcd t b:Int) else (Int.gcd t b:Int)
theorem zKp {t b:Int} (hb:b≠0):0 < (Int.gcd t b:Int):=by
 have h:Int.gcd t b≠0:=fun h=>hb (Int.gcd_eq_zero_iff.mp h).2
 omega
theorem zKW {t b:Int} (hb:b≠0):dv t b≠0:=by
 have:=zKp (t:=t) hb
 unfold dv;split<;>omega
theorem xR (t b:Int):dv t b ∣ t:=by
 unfold dv;split
 ·exact Int.neg_dvd.mpr (Int.gcd_dvd_left ..)
 ·exact Int.gcd_dvd_left ..
theorem zCK (t b:Int):dv t b ∣ b:=by
 unfold dv;split
 ·exact Int.neg_dvd.mpr (Int.gcd_dvd_right ..)
 ·exact Int.gcd_dvd_right ..
theorem nA {t d:Int} (h:d ∣ t):t.fdiv d=t / d:=by
 rw [Int.fdiv_eq_ediv]
 simp [h]
theorem wI {t b:Int} (hb:b≠0):t.fdiv (dv t b)=(Rat.divInt t b).num:=by
 rw [nA (xR t b),Rat.num_divInt,Int.gcd_comm b t]
 unfold dv
 rcases Int.lt_trichotomy b 0 with h | h | h
 ·rw [if_pos h,Int.sign_eq_neg_one_of_neg h,Int.ediv_neg]
  have:(-1:Int) * t=-t:=by omega
  rw [this,Int.neg_ediv_of_dvd (Int.gcd_dvd_left ..)]
 ·exact absurd h hb
 ·rw [if_neg (by omega),Int.sign_eq_one_of_pos h,Int.one_mul]
theorem vY {t b:Int} (hb:b≠0):b.fdiv (dv t b)=((Rat.divInt t b).den:Int):=by
 rw [nA (zCK t b),Rat.den_divInt,if_neg hb,Int.gcd_comm b t]
 unfold dv
 rcases Int.lt_trichotomy b 0 with h | h | h
 ·rw [if_pos h,Int.ediv_neg,Int.natCast_ediv]
  have e:((b.natAbs:Nat):Int)=-b:=by omega
  rw [e,Int.neg_ediv_of_dvd (Int.gcd_dvd_right ..)]
 ·exact absurd h hb
 ·rw [if_neg (by omega),Int.natCast_ediv]
  have e:((b.natAbs:Nat):Int)=b:=by omega
  rw [e]
theorem cW (q:Rat):(q.den:Int)≠0:=by have:=q.den_nz;omega
theorem jD (q:Rat):(0:Int) < (q.den:Int):=by have:=q.den_nz;omega
theorem zFM (p q:Rat):Rat.divInt (p.num * q.den+q.num * p.den) (p.den * q.den)=p+q:=by
 rw [<-Rat.divInt_add_divInt _ _ (cW p) (cW q),Rat.num_divInt_den,Rat.num_divInt_den]
theorem zGq (p q:Rat):Rat.divInt (p.num * q.den - q.num * p.den) (p.den * q.den)=p - q:=by
 rw [<-Rat.divInt_sub_divInt _ _ (cW p) (cW q),Rat.num_divInt_den,Rat.num_divInt_den]
theorem zGa (p q:Rat):Rat.divInt (p.num * q.num) (p.den * q.den)=p * q:=by
 rw [<-Rat.divInt_mul_divInt,Rat.num_divInt_den,Rat.num_divInt_den]
theorem zFE (p q:Rat):Rat.divInt (p.num * q.den) (p.den * q.num)=p / q:=by
 rw [<-Rat.divInt_mul_divInt,Rat.num_divInt_den,Rat.div_def,Rat.inv_def]
theorem zGg {q:Rat}:q.num≠0 ↔ q≠0:=by
 constructor
 ·intro h e;exact h (by rw [e];rfl)
 ·intro h e;exact h (Rat.num_eq_zero.mp e)
def Sz (n:Nat) (q:Rat):Prop:=q.num.natAbs < 2^n/\q.den < 2^n
theorem Sz.mono {m n:Nat} {q:Rat} (h:Sz m q) (l:m<=n):Sz n q:=
 ⟨Nat.lt_of_lt_of_le h.1 (Nat.pow_le_pow_right (by decide) l),Nat.lt_of_lt_of_le h.2 (Nat.pow_le_pow_right (by decide) l)⟩
theorem zLQ {t b:Int} (hb:b≠0):(Rat.divInt t b).num.natAbs<=t.natAbs:=by
 rw [<-wI hb,nA (xR t b),Int.natAbs_ediv_of_dvd (xR t b)]
 exact Nat.div_le_self ..
theorem zCQ {t b:Int} (hb:b≠0):(Rat.divInt t b).den<=b.natAbs:=by
 rw [Rat.den_divInt,if_neg hb]
 exact Nat.div_le_self ..
theorem Sz.of {n:Nat} {t b:Int} (hb:b≠0) (ht:t.natAbs < 2^n) (h:b.natAbs < 2^n):Sz n (Rat.divInt t b):=
 ⟨Nat.lt_of_le_of_lt (zLQ hb) ht,Nat.lt_of_le_of_lt (zCQ hb) h⟩
theorem dX {a b:Int} {m n:Nat} (ha:a.natAbs < 2^m) (hb:b.natAbs < 2^n):(a * b).natAbs < 2^(m+n):=by
 rw [Int.natAbs_mul,Nat.pow_add]
 exact Nat.mul_lt_mul'' ha hb
theorem zLK {a b:Int} {m:Nat} (ha:a.natAbs < 2^m) (hb:b.natAbs < 2^m):(a+b).natAbs < 2^(m+1):=by
 rw [Nat.pow_succ];omega
theorem zMf {a b:Int} {m:Nat} (ha:a.natAbs < 2^m) (hb:b.natAbs < 2^m):(a - b).natAbs < 2^(m+1):=by
 rw [Nat.pow_succ];omega
theorem Sz.d {n:Nat} {q:Rat} (h:Sz n q):((q.den:Int)).natAbs < 2^n:=h.2
theorem Sz.add {m n:Nat} {p q:Rat} (hp:Sz m p) (hq:Sz n q):Sz (m+n+1) (p+q):=by
 rw [<-zFM]
 refine Sz.of (by have:=jD p;have:=jD q;exact Int.mul_ne_zero (cW p) (cW q)) (zLK (dX hp.1 hq.d) ?_) ?_
 ·rw [Nat.add_comm m n];exact dX hq.1 hp.d
 ·exact Nat.lt_of_lt_of_le (dX hp.d hq.d) (Nat.pow_le_pow_right (by decide) (by omega))
theorem Sz.sub {m n:Nat} {p q:Rat} (hp:Sz m p) (hq:Sz n q):Sz (m+n+1) (p - q):=by
 rw [<-zGq]
 refine Sz.of (Int.mul_ne_zero (cW p) (cW q)) (zMf (dX hp.1 hq.d) ?_) ?_
 ·rw [Nat.add_comm m n];exact dX hq.1 hp.d
 ·exact Nat.lt_of_lt_of_le (dX hp.d hq.d) (Nat.pow_le_pow_right (by decide) (by omega))
theorem Sz.mul {m n:Nat} {p q:Rat} (hp:Sz m p) (hq:Sz n q):Sz (m+n) (p * q):=by
 rw [<-zGa]
 exact Sz.of (Int.mul_ne_zero (cW p) (cW q)) (dX hp.1 hq.1) (dX hp.d hq.d)
theorem Sz.div {m n:Nat} {p q:Rat} (hp:Sz m p) (hq:Sz n q) (h:q≠0):Sz (m+n) (p / q):=by
 rw [<-zFE]
 exact Sz.of (Int.mul_ne_zero (cW p) (zGg.mpr h)) (dX hp.1 hq.d) (dX hp.d hq.1)
theorem zCB {q:Rat} (h:0 < q):0 < q.num:=by
 have:=Rat.num_nonneg.mpr (Rat.le_of_lt h)
 have h2:q.num≠0:=zGg.mpr (by intro z;rw [z] at h;exact absurd h (by decide))
 omega
theorem zGp {q:Rat} (h:0 < q):q⁻¹.num=q.den:=by
 rw [Rat.num_inv,Int.sign_eq_one_of_pos (zCB h),Int.one_mul]
theorem zGC {q:Rat} (h:0 < q):(q⁻¹.den:Int)=q.num:=by
 have:=zCB h
 rw [Rat.den_inv,if_neg (by omega)]
 omega
theorem Sz.inv {n:Nat} {q:Rat} (h:Sz n q) (h0:0 < q):Sz n q⁻¹:=by
 refine ⟨by rw [zGp h0];exact h.2,?_⟩
 have h1:=h.1
 have:=zGC h0
 omega
end Fq
namespace Fr
open L3 PySem Fq
theorem zIu {t:Tv} {b:Sv} {ρ:Rho} (P:Rho->Prop) (μ:Rho->Nat) (Q:Res Fl->Prop) (h0:P ρ)
  (step:∀ ρ,P ρ->(t ρ=.ok false/\Q (.ok (.nx ρ)))∨(t ρ=.ok true/\∃ ρ',b ρ=.ok (.nx ρ')/\P ρ'/\μ ρ' < μ ρ)):Q (eT t b ρ):=by
 have main:∀ n ρ,μ ρ<=n->P ρ->Q (eT t b ρ):=by
  intro n
  induction n with
  | zero=>
   intro ρ hn hp
   rw [zX]
   rcases step ρ hp with ⟨h1,h2⟩ | ⟨h1,ρ',h2,h3,h4⟩
   ·rw [h1];exact h2
   ·omega
  | succ n ih=>
   intro ρ hn hp
   rw [zX]
   rcases step ρ hp with ⟨h1,h2⟩ | ⟨h1,ρ',h2,h3,h4⟩
   ·rw [h1];exact h2
   ·rw [h1]
    simp only [Res.bind,if_true,h2]
    exact ih ρ' (by omega) h3
 exact main _ ρ (Nat.le_refl _) h0
theorem zDd {g:Gv} {b:Sv} (P:Nat->Rho->Prop):∀ (ds:List D) (k:Nat) (ρ:Rho),P k ρ->
  (∀ i d ρ,ds[i]?=some d->P (k+i) ρ->∃ ρ1 ρ2,g d ρ=.ok ρ1/\(b ρ1=.ok (.nx ρ2)∨b ρ1=.ok (.ctn ρ2))/\P (k+i+1) ρ2)->∃ ρ',eP g b ds ρ=.ok (.nx ρ')/\P (k+ds.length) ρ'
 | [],k,ρ,h,_=>⟨ρ,rfl,h⟩
 | d::ds,k,ρ,h,st=>by
  obtain ⟨ρ1,ρ2,h1,h2,h3⟩:=st 0 d ρ rfl h
  obtain ⟨ρ',e,hp⟩:=zDd P ds (k+1) ρ2 h3 fun i d' ρ' hd hp=>by
   have:=st (i+1) d' ρ' (by simpa using hd) (by rw [show k+(i+1)=k+1+i by omega];exact hp)
   rw [show k+(i+1)=k+1+i by omega] at this
   exact this
  refine ⟨ρ',?_,by rw [List.length_cons,show k+(ds.length+1)=k+1+ds.length by omega];exact hp⟩
  rw [eP,h1]
  simp only [Res.bind]
  rcases h2 with h2 | h2<;>(rw [h2];exact e)
theorem zCM {g:Gv} {b:Sv} {ds:List D} {ρ:Rho} (P:Rho->Prop) (h0:P ρ) (st:∀ d ρ,d∈ds->P ρ->∃ ρ1 ρ2,g d ρ=.ok ρ1/\(b ρ1=.ok (.nx ρ2)∨b ρ1=.ok (.ctn ρ2))/\P ρ2):∃ ρ',eP g b ds ρ=.ok (.nx ρ')/\P ρ':=by
 obtain ⟨ρ',e,hp⟩:=zDd (fun _=>P) ds 0 ρ h0 fun i d ρ hd hp=>st d ρ (List.mem_of_getElem? hd) hp
 exact ⟨ρ',e,hp⟩
theorem zFN {i:Int} {m:Nat} (h:i.natAbs < 2^m):nb i<=m+1:=zNo (Nat.lt_of_lt_of_le h (Nat.pow_le_pow_right (by decide) (by omega))) (by omega)
theorem bM {i j:Int} {m n:Nat} (hi:i.natAbs < 2^m) (hj:j.natAbs < 2^n) (h:m+n<=100000000):iV i j=true:=by
 unfold iV
 have h1:=zFN hi
 have h2:=zFN hj
 rw [Bool.or_eq_true]
 exact .inr (decide_eq_true (by omega))
theorem zJi {i j:Int} (h1:-(2^64) < j) (h2:j < 2^64):iV i j=true:=by
 unfold iV
 rw [Bool.or_eq_true,Bool.or_eq_true]
 exact .inl (.inr (by rw [decide_eq_true h1,decide_eq_true h2];rfl))
theorem zJl {i j:Int} (h1:-(2^64) < i) (h2:i < 2^64):iV i j=true:=by
 unfold iV
 rw [Bool.or_eq_true,Bool.or_eq_true]
 exact .inl (.inl (by rw [decide_eq_true h1,decide_eq_true h2];rfl))
theorem rK {j:Int} {m:Nat} (h0:j≠0) (hj:j.natAbs < 2^m) (h:m<=8999):kJ j=true:=by
 unfold kJ
 have h1:=zFN hj
 rw [decide_eq_true h0,decide_eq_true (show nb j<=9000 by omega)]
 rfl
theorem okDiv_lit {j:Int} (h0:0 < j) (h:j < 1000000000000000000):kJ j=true:=rK (m:=64) (by omega) (by omega) (by decide)
theorem okMul_litr {i j:Int} (h1:-1000000000000000000 < j) (h2:j < 1000000000000000000):iV i j=true:=zJi (by omega) (by omega)
theorem okMul_litl {i j:Int} (h1:-1000000000000000000 < i) (h2:i < 1000000000000000000):iV i j=true:=zJl (by omega) (by omega)
theorem p10 (n:Nat):(0:Int) < 10^n:=Int.pow_pos (by decide)
theorem p10ne (n:Nat):((10:Int)^n=0)=False:=eq_false (by have:=p10 n;omega)
theorem p10pos2 (n:Nat):(0:Int) < 2 * 10^n:=by have:=p10 n;omega
theorem p10ne2 (n:Nat):((2:Int) * 10^n=0)=False:=eq_false (by have:=p10 n;omega)
theorem okp30:rS 10 30=true:=by decide
def dq (q:Rat):D:=.tup [.int q.num,.int (q.den:Int)]
def dp (p:Rat×Rat):D:=.tup [dq p.1,dq p.2]
theorem eq_dq (p q:Rat):eqD (dq p) (dq q)=decide (p=q):=by
 show ((p.num==q.num) && (((p.den:Int)==(q.den:Int)) && true))=decide (p=q)
 by_cases h:p=q
 ·subst h;simp
 ·rw [decide_eq_false h]
  by_cases h1:p.num=q.num
  ·have h2:p.den≠q.den:=fun e=>h (Rat.ext h1 e)
   have:((p.den:Int)==(q.den:Int))=false:=by simp;omega
   rw [this];simp
  ·simp [h1]
theorem dep_dq (q:Rat):dep (dq q)=1:=rfl
theorem ix_dq0 (q:Rat):oIx (dq q) (.int 0)=.ok (.int q.num):=rfl
theorem ix_dq1 (q:Rat):oIx (dq q) (.int 1)=.ok (.int (q.den:Int)):=rfl
theorem ty_dq (q:Rat):tyN (dq q) = "tuple" := rfl
theorem len_dq (q:Rat):kM [dq q]=.ok (.int 2):=rfl
theorem oEq_dq (p q:Rat):oEq (dq p) (dq q)=.ok (.bl (decide (p=q))):=by
 rw [<-eq_dq];rfl
theorem oNe_dq (p q:Rat):oNe (dq p) (dq q)=.ok (.bl (!decide (p=q))):=by
 rw [<-eq_dq];rfl
theorem noL_dq (q:Rat):noL (dq q)=true:=rfl
theorem zLn (p q:Rat×Rat):eqD (dp p) (dp q)=decide (p=q):=by
 show (eqD (dq p.1) (dq q.1) && (eqD (dq p.2) (dq q.2) && true))=decide (p=q)
 rw [eq_dq,eq_dq]
 obtain ⟨a,b⟩:=p
 obtain ⟨c,d⟩:=q
 simp
theorem dp_mk (a b:Rat):(.tup [dq a,dq b]:D)=dp (a,b):=rfl
theorem ix_dp0 (p:Rat×Rat):oIx (dp p) (.int 0)=.ok (dq p.1):=rfl
theorem ix_dp1 (p:Rat×Rat):oIx (dp p) (.int 1)=.ok (dq p.2):=rfl
theorem ty_dp (p:Rat×Rat):tyN (dp p) = "tuple" := rfl
theorem len_dp (p:Rat×Rat):kM [dp p]=.ok (.int 2):=rfl
theorem dep_dp (p:Rat×Rat):dep (dp p)=2:=rfl
theorem noL_dp (p:Rat×Rat):noL (dp p)=true:=rfl
theorem oEq_dp (p q:Rat×Rat):oEq (dp p) (dp q)=.ok (.bl (decide (p=q))):=by
 rw [<-zLn];rfl
theorem oNe_dp (p q:Rat×Rat):oNe (dp p) (dp q)=.ok (.bl (!decide (p=q))):=by
 rw [<-zLn];rfl
theorem zMn {q:Rat} (h:0 < q):(.tup [.int (q.den:Int),.int q.num]:D)=dq q⁻¹:=by
 unfold dq
 rw [Fq.zGp h,Fq.zGC h]
theorem fdiv_pos (a:Int) {b:Int} (h:0 < b):a.fdiv b=a / b:=Int.fdiv_eq_ediv_of_nonneg a (by omega)
theorem fmod_pos (a:Int) {b:Int} (h:0 < b):a.fmod b=a % b:=Int.fmod_eq_emod_of_nonneg a (by omega)
theorem zKE (a:Int) {b:Int} (h:0<=b):a.fdiv b=a / b:=Int.fdiv_eq_ediv_of_nonneg a h
theorem zBD (a:Int) {b:Int} (h:0<=b):a.fmod b=a % b:=Int.fmod_eq_emod_of_nonneg a h
theorem zCJ:∀ l:List Rat,depS (l.map dq)<=1
 | []=>Nat.zero_le _
 | q::l=>by rw [List.map_cons,depS];exact Nat.max_le.mpr ⟨Nat.le_refl _,zCJ l⟩
theorem wN:∀ l:List (Rat×Rat),depS (l.map dp)<=2
 | []=>Nat.zero_le _
 | q::l=>by rw [List.map_cons,depS];exact Nat.max_le.mpr ⟨Nat.le_refl _,wN l⟩
theorem zNf (l:List (Rat×Rat)):dep (.lst (l.map dp))<=50:=by rw [dep];have:=wN l;omega
theorem zKe (l:List (Rat×Rat)):dep (.tup (l.map dp))<=50:=by rw [dep];have:=wN l;omega
theorem noLs_dps:∀ l:List (Rat×Rat),noLs (l.map dp)=true
 | []=>rfl
 | q::l=>by rw [List.map_cons,noLs,noL_dp,noLs_dps l];rfl
theorem zDU {α:Type} {l:List α} {i:Nat} {a:α} (h:l[i]?=some a):l.take (i+1)=l.take i++[a]:=by rw [List.take_succ,h];rfl
theorem zLL (l:List Rat) (x:Rat):(l.map dq).any (fun e=>eqD e (dq x))=decide (x∈l):=by
 induction l with
 | nil=>rfl
 | cons a l ih=>
  rw [List.map_cons,List.any_cons,ih,eq_dq]
  by_cases c:a=x
  ·subst c;simp
  ·rw [decide_eq_false c,Bool.false_or]
   congr 1
   apply propext
   rw [List.mem_cons]
   exact ⟨.inr,fun h=>h.resolve_left fun z=>c z.symm⟩
theorem tG (l:List Rat) (x:Rat):tN (dq x) (.lst (l.map dq))=.ok (.bl (!decide (x∈l))):=by
 show (if depS (l.map dq)<=50 then _ else _)=_
 rw [if_pos (Nat.le_trans (zCJ l) (by decide)),zLL]
theorem zLj {b:Int} (h:0 < b):(.tup [.int 1,.int b]:D)=dq (Rat.divInt 1 b):=by
 have hb:b≠0:=by omega
 have e:Fq.dv 1 b=1:=by unfold Fq.dv;rw [if_neg (by omega)];simp
 unfold dq
 rw [<-Fq.wI hb,<-Fq.vY hb,e]
 simp
theorem zEC (k:Int):(.tup [.int k,.int 1]:D)=dq (k:Rat):=rfl
end Fr
namespace L3
open PySem
def zEk (b:Sv):Fl->Res Fl
 | .nx ρ=>b ρ
 | .ret r=>.ok (.ret r)
 | .brk ρ=>.ok (.brk ρ)
 | .ctn ρ=>.ok (.ctn ρ)
theorem sSeq_at {a b:Sv} {ρ:Rho}:bF a b ρ=(a ρ).bind (zEk b):=by
 unfold bF;congr;funext f;cases f<;>rfl
def ifF (a b:Sv) (ρ:Rho):Bool->Res Fl
 | true=>a ρ
 | false=>b ρ
theorem sIf_at {t:Tv} {a b:Sv} {ρ:Rho}:sIf t a b ρ=(t ρ).bind (ifF a b ρ):=by
 unfold sIf;congr;funext c;cases c<;>rfl
def zNG (a b:Ev) (ρ:Rho):Bool->Res D
 | true=>a ρ
 | false=>b ρ
theorem eIf_at {t:Tv} {a b:Ev} {ρ:Rho}:eIf t a b ρ=(t ρ).bind (zNG a b ρ):=by
 unfold eIf;congr;funext c;cases c<;>rfl
def zNi (b:Ev) (ρ:Rho):D->Res D
 | .bl true=>b ρ
 | .bl false=>.ok (.bl false)
 | _=>.no
theorem eAnd_at {a b:Ev} {ρ:Rho}:zLR a b ρ=(a ρ).bind (zNi b ρ):=by
 unfold zLR;congr;funext c;cases c<;>try rfl
 rename_i c;cases c<;>rfl
def orF (b:Ev) (ρ:Rho):D->Res D
 | .bl true=>.ok (.bl true)
 | .bl false=>b ρ
 | _=>.no
theorem eOr_at {a b:Ev} {ρ:Rho}:eOr a b ρ=(a ρ).bind (orF b ρ):=by
 unfold eOr;congr;funext c;cases c<;>try rfl
 rename_i c;cases c<;>rfl
def opF (o:Op2) (b:Ev) (ρ:Rho) (x:D):Res D:=(b ρ).bind (o x)
theorem eOp_at {o:Op2} {a b:Ev} {ρ:Rho}:eOp o a b ρ=(a ρ).bind (opF o b ρ):=rfl
def consG (d:D) (ds:List D):Res (List D):=.ok (d::ds)
def consF (r:Fv) (ρ:Rho) (d:D):Res (List D):=(r ρ).bind (consG d)
theorem aCons_at {e:Ev} {r:Fv} {ρ:Rho}:aE e r ρ=(e ρ).bind (consF r ρ):=rfl
def tupF (ds:List D):Res D:=if ds.length<=16777216 then .ok (.tup ds) else .no
theorem eTup_at {a:Fv} {ρ:Rho}:wG a ρ=(a ρ).bind tupF:=rfl
def rtF (r:Rt):Res D:=.ok r.d
def callF (m:Mir) (ds:List D):Res D:=(m ds).bind rtF
theorem eCall_at {m:Mir} {a:Fv} {ρ:Rho}:aV m a ρ=(a ρ).bind (callF m):=rfl
def isTF (T:String) (d:D):Res D:=.ok (.bl (isT T d))
theorem eIsT_at {T:String} {a:Ev} {ρ:Rho}:zHd T a ρ=(a ρ).bind (isTF T):=rfl
def frzF (d:D):Res D:=if noL d=true then .ok d else .no
theorem eFrz_at {e:Ev} {ρ:Rho}:zMK e ρ=(e (ρ.map Sl.frz)).bind frzF:=rfl
def fLstF (ds:List D):Res (List D):=if ds.length<=16777216 then .ok ds else .no
theorem fLst_at {a:Fv} {ρ:Rho}:tY a ρ=(a ρ).bind fLstF:=rfl
def rtFF:Rt->Res (List D)
 | .f ds=>.ok ds
 | .v _=>.no
def fcallF (m:Mir) (ds:List D):Res (List D):=(m ds).bind rtFF
theorem fCall_at {m:Mir} {a:Fv} {ρ:Rho}:fB m a ρ=(a ρ).bind (fcallF m):=by
 unfold fB fcallF;congr
def zFP:List D->Res (List D)
 | [.lst ds]=>.ok ds
 | [.tup ds]=>.ok ds
 | _=>.no
theorem fListF_l {ds:List D}:zFP [.lst ds]=.ok ds:=rfl
theorem fListF_t {ds:List D}:zFP [.tup ds]=.ok ds:=rfl
theorem fList_at {a:Fv} {ρ:Rho}:zGU a ρ=(a ρ).bind zFP:=rfl
def catG (x y:D):Res (List D):=match x,y with
 | .lst ds,.lst es=>if ds.length+es.length<=16777216 then .ok (ds++es) else .no
 | _,_=>.no
def catF (b:Ev) (ρ:Rho) (x:D):Res (List D):=(b ρ).bind (catG x)
theorem fCat_at {a b:Ev} {ρ:Rho}:zMJ a b ρ=(a ρ).bind (catF b ρ):=rfl
def efF (ds:List D):Res D:=.ok (.lst ds)
theorem eF_at {f:Fv} {ρ:Rho}:eF f ρ=(f ρ).bind efF:=rfl
def oSF:D->Res (Option Int)
 | .int i=>.ok (some i)
 | _=>.no
theorem oS_at {e:Ev} {ρ:Rho}:oS e ρ=(e ρ).bind oSF:=by
 unfold oS;congr
def fSlH (x:D) (l h:Option Int):Res (List D):=match x with
 | .lst ds=>.ok (kI ds l h)
 | _=>.no
def fSlG (hi:Ov) (ρ:Rho) (x:D) (l:Option Int):Res (List D):=(hi ρ).bind (fSlH x l)
def fSlF (lo hi:Ov) (ρ:Rho) (x:D):Res (List D):=(lo ρ).bind (fSlG hi ρ x)
theorem fSl_at {a:Ev} {lo hi:Ov} {ρ:Rho}:fSl a lo hi ρ=(a ρ).bind (fSlF lo hi ρ):=rfl
def zOQ (x:D) (l h:Option Int):Res D:=match x with
 | .tup ds=>if (kI ds l h).length < ds.length then .ok (.tup (kI ds l h)) else .no
 | _=>.no
def blF:D->Res Bool
 | .bl b=>.ok b
 | _=>.no
theorem tVal_at {e:Ev} {ρ:Rho}:dW e ρ=(e ρ).bind blF:=by
 unfold dW;congr
def notF (b:Bool):Res Bool:=.ok (!b)
theorem tNotB_at {t:Tv} {ρ:Rho}:kN t ρ=(t ρ).bind notF:=rfl
def zKh (u:Tv) (ρ:Rho):Bool->Res Bool
 | true=>u ρ
 | false=>.ok false
theorem tAndB_at {t u:Tv} {ρ:Rho}:zEa t u ρ=(t ρ).bind (zKh u ρ):=by
 unfold zEa;congr;funext c;cases c<;>rfl
def zNb (u:Tv) (ρ:Rho):Bool->Res Bool
 | true=>.ok true
 | false=>u ρ
theorem tOrB_at {t u:Tv} {ρ:Rho}:zCt t u ρ=(t ρ).bind (zNb u ρ):=by
 unfold zCt;congr;funext c;cases c<;>rfl
def setF (i:Nat) (ρ:Rho) (d:D):Res Fl:=.ok (.nx (ρ.set i (.val d)))
theorem sSet_at {i:Nat} {e:Ev} {ρ:Rho}:dI i e ρ=(e ρ).bind (setF i ρ):=rfl
def ownF (i:Nat) (ρ:Rho) (ds:List D):Res Fl:=.ok (.nx (ρ.set i (.own ds)))
theorem sOwn_at {i:Nat} {f:Fv} {ρ:Rho}:zEh i f ρ=(f ρ).bind (ownF i ρ):=rfl
def dropF (ρ:Rho) (_d:D):Res Fl:=.ok (.nx ρ)
theorem sDrop_at {e:Ev} {ρ:Rho}:zAO e ρ=(e ρ).bind (dropF ρ):=rfl
def retF (d:D):Res Fl:=.ok (.ret (.v d))
theorem sRet_at {e:Ev} {ρ:Rho}:gX e ρ=(e (ρ.map Sl.frz)).bind retF:=rfl
def retFF (ds:List D):Res Fl:=.ok (.ret (.f ds))
theorem sRetF_at {f:Fv} {ρ:Rho}:jW f ρ=(f (ρ.map Sl.frz)).bind retFF:=rfl
def raiseF (c:Str) (ds:List D):Res Fl:=if ds.length<=16777216 then .err c else .no
theorem sRaise_at {c:Str} {a:Fv} {ρ:Rho}:kD c a ρ=(a ρ).bind (raiseF c):=rfl
def appF (i:Nat) (ρ:Rho) (ds:List D) (d:D):Res Fl:=if ds.length < 16777216 then .ok (.nx (ρ.set i (.own (ds++[d])))) else .no
def appS (i:Nat) (e:Ev) (ρ:Rho):Option Sl->Res Fl
 | some (.own ds)=>(e ρ).bind (appF i ρ ds)
 | _=>.no
theorem sApp_at {i:Nat} {e:Ev} {ρ:Rho}:zDF i e ρ=appS i e ρ ρ[i]?:=by
 unfold zDF appS;rfl
def augF (i:Nat) (ρ:Rho) (o:Op2) (x y:D):Res Fl:=(o x y).bind (setF i ρ)
def augS (i:Nat) (o:Op2) (e:Ev) (ρ:Rho):Option Sl->Res Fl
 | some (.val x)=>(e ρ).bind (augF i ρ o x)
 | _=>.no
theorem sAug_at {i:Nat} {o:Op2} {e:Ev} {ρ:Rho}:zIm i o e ρ=augS i o e ρ ρ[i]?:=by
 unfold zIm augS;rfl
def dropG (ρ:Rho) (_r:Rt):Res Fl:=.ok (.nx ρ)
def setG (i:Nat) (ρ:Rho) (r:Rt):Res Fl:=.ok (.nx (ρ.set i (.val r.d)))
def varS:Option Sl->Res D
 | some (.val d)=>.ok d
 | _=>.no
theorem eVar_at {i:Nat} {ρ:Rho}:aJ i ρ=varS ρ[i]?:=by
 unfold aJ varS;rfl
def retS:Option Sl->Res Fl
 | some (.own ds)=>.ok (.ret (.f ds))
 | _=>.no
theorem sRetOwn_at {i:Nat} {ρ:Rho}:gH i ρ=retS ρ[i]?:=by
 unfold gH retS;rfl
def nxF (ρ:Rho):Res Fl:=.ok (.nx ρ)
def unpF (g:Gv) (ρ:Rho) (d:D):Res Fl:=(g d ρ).bind nxF
theorem sUnp_at {g:Gv} {f:Ev} {ρ:Rho}:zOz g f ρ=(f ρ).bind (unpF g ρ):=rfl
def gtF (gs:List D->Rho->Res Rho) (ρ:Rho):D->Res Rho
 | .tup ds=>gs ds ρ
 | _=>.no
theorem gTup_at {gs:List D->Rho->Res Rho} {d:D} {ρ:Rho}:zHp gs d ρ=gtF gs ρ d:=by
 unfold zHp gtF;rfl
theorem gCons_at {g:Gv} {r:List D->Rho->Res Rho} {d:D} {ds:List D} {ρ:Rho}:rA g r (d::ds) ρ=(g d ρ).bind (r ds):=rfl
theorem gNil_at {ρ:Rho}:zHy [] ρ=.ok ρ:=rfl
def forF (g:Gv) (b:Sv) (ρ:Rho) (ds:List D):Res Fl:=eP g b ds ρ
theorem sFor_at {it:Fv} {g:Gv} {b:Sv} {ρ:Rho}:rD it g b ρ=(it ρ).bind (forF g b ρ):=rfl
def zIO:D->Res (List D)
 | .lst ds=>.ok ds
 | .tup ds=>.ok ds
 | _=>.no
theorem seqD_l {ds:List D}:zIO (.lst ds)=.ok ds:=rfl
theorem seqD_t {ds:List D}:zIO (.tup ds)=.ok ds:=rfl
theorem iSeq_at {e:Ev} {ρ:Rho}:rL e ρ=(e ρ).bind zIO:=by
 unfold rL;congr
def zMB:List D->Res (List D)
 | [.int j]=>if -(2^62)<=j/\j < 2^62 then .ok (rng 0 j.toNat 1) else .no
 | _=>.no
theorem iRng1_at {a:Fv} {ρ:Rho}:zBd a ρ=(a ρ).bind zMB:=rfl
def zMC:List D->Res (List D)
 | [.int i,.int j]=>if -(2^62)<=i/\i < 2^62/\-(2^62)<=j/\j < 2^62 then .ok (rng i (j - i).toNat 1) else .no
 | _=>.no
theorem iRng2_at {a:Fv} {ρ:Rho}:zBg a ρ=(a ρ).bind zMC:=rfl
theorem fn_at {p n:Nat} {b:Sv} {ds:List D} (h:ds.length=p):fn p n b ds=(b (start n ds)).bind fin:=by
 unfold fn;rw [if_pos h]
theorem nr {α:Sort _} {a b:α} (h:a=b):a=b:=h
theorem okb {α β:Type} {a:α} {f:α->Res β}:(Res.ok a).bind f=f a:=nr rfl
theorem erb {α β:Type} {c:Str} {f:α->Res β}:(Res.err c).bind f=.err c:=nr rfl
theorem seqF_nx {b:Sv} {ρ:Rho}:zEk b (.nx ρ)=b ρ:=nr rfl
theorem seqF_ret {b:Sv} {r:Rt}:zEk b (.ret r)=.ok (.ret r):=nr rfl
theorem gtF_t {gs:List D->Rho->Res Rho} {ρ:Rho} {ds:List D}:gtF gs ρ (.tup ds)=gs ds ρ:=nr rfl
theorem ifF_t {a b:Sv} {ρ:Rho}:ifF a b ρ true=a ρ:=nr rfl
theorem ifF_f {a b:Sv} {ρ:Rho}:ifF a b ρ false=b ρ:=nr rfl
theorem eifF_t {a b:Ev} {ρ:Rho}:zNG a b ρ true=a ρ:=nr rfl
theorem eifF_f {a b:Ev} {ρ:Rho}:zNG a b ρ false=b ρ:=nr rfl
theorem andF_t {b:Ev} {ρ:Rho}:zNi b ρ (.bl true)=b ρ:=nr rfl
theorem andF_f {b:Ev} {ρ:Rho}:zNi b ρ (.bl false)=.ok (.bl false):=nr rfl
theorem orF_t {b:Ev} {ρ:Rho}:orF b ρ (.bl true)=.ok (.bl true):=nr rfl
theorem orF_f {b:Ev} {ρ:Rho}:orF b ρ (.bl false)=b ρ:=nr rfl
theorem tandF_t {u:Tv} {ρ:Rho}:zKh u ρ true=u ρ:=nr rfl
theorem tandF_f {u:Tv} {ρ:Rho}:zKh u ρ false=.ok false:=nr rfl
theorem torF_t {u:Tv} {ρ:Rho}:zNb u ρ true=.ok true:=nr rfl
theorem torF_f {u:Tv} {ρ:Rho}:zNb u ρ false=u ρ:=nr rfl
theorem oAdd_i {i j:Int}:zDN (.int i) (.int j)=.ok (.int (i+j)):=rfl
theorem oAddI_i {i j:Int}:zCi (.int i) (.int j)=.ok (.int (i+j)):=rfl
theorem oSub_i {i j:Int}:sQ (.int i) (.int j)=.ok (.int (i - j)):=rfl
theorem oMul_i {i j:Int} (h:iV i j=true):oJ (.int i) (.int j)=.ok (.int (i * j)):=if_pos h
theorem oDiv_i {i j:Int} (h:kJ j=true):zCG (.int i) (.int j)=.ok (.int (i.fdiv j)):=if_pos h
theorem oMod_i {i j:Int} (h:j≠0):zBp (.int i) (.int j)=.ok (.int (i.fmod j)):=if_pos h
theorem oPow_i {i j:Int} (h:rS i j=true):zJP (.int i) (.int j)=.ok (.int (i^j.toNat)):=if_pos h
theorem oEq_i {i j:Int}:oEq (.int i) (.int j)=.ok (.bl (decide (i=j))):=rfl
theorem oNe_i {i j:Int}:oNe (.int i) (.int j)=.ok (.bl (!decide (i=j))):=rfl
theorem oLt_i {i j:Int}:oLt (.int i) (.int j)=.ok (.bl (decide (i < j))):=rfl
theorem oLe_i {i j:Int}:oLe (.int i) (.int j)=.ok (.bl (decide (i<=j))):=rfl
theorem oGt_i {i j:Int}:oGt (.int i) (.int j)=.ok (.bl (decide (j < i))):=rfl
theorem oGe_i {i j:Int}:oGe (.int i) (.int j)=.ok (.bl (decide (j<=i))):=rfl
theorem zKC {ds:List D} {i:Int}:oIx (.lst ds) (.int i)=ofO (atD ds i):=rfl
theorem ofO_some {α:Type} {a:α}:ofO (some a)=.ok a:=rfl
theorem oNeg_i {i:Int}:zHA (.int i)=.ok (.int (-i)):=rfl
theorem oNot_b {b:Bool}:zOw (.bl b)=.ok (.bl (!b)):=rfl
theorem bAbs_i {i:Int}:zIT [.int i]=.ok (.int (i.natAbs:Int)):=by
 show Res.ok (D.int (if i < 0 then -i else i))=_
 congr 2;split<;>omega
theorem bMin_i {i j:Int}:zOq [.int i,.int j]=.ok (.int (min i j)):=by
 show Res.ok (D.int (if j < i then j else i))=_
 congr 2;split<;>omega
theorem yW {j:Int} (h1:-(2^62)<=j) (h2:j < 2^62):zMB [.int j]=.ok (rng 0 j.toNat 1):=if_pos ⟨h1,h2⟩
theorem xG {i j:Int} (h1:-(2^62)<=i) (h2:i < 2^62) (h3:-(2^62)<=j) (h4:j < 2^62):zMC [.int i,.int j]=.ok (rng i (j - i).toNat 1):=if_pos ⟨h1,h2,h3,h4⟩
theorem xP {α:Type} {g:Gv} {b:Sv} {ds:List D} {ρ:Rho} {k:Fl->Res α} {Q:Res α->Prop} (P:Rho->Prop) (h0:P ρ)
  (st:∀ d ρ,d∈ds->P ρ->∃ ρ2,(g d ρ).bind b=.ok (.nx ρ2)/\P ρ2) (fi:∀ ρ',P ρ'->Q (k (.nx ρ'))):Q ((eP g b ds ρ).bind k):=by
 suffices h:∃ ρ',eP g b ds ρ=.ok (.nx ρ')/\P ρ' by
  obtain ⟨ρ',e,hp⟩:=h
  rw [e]
  exact fi ρ' hp
 clear fi
 induction ds generalizing ρ with
 | nil=>exact ⟨ρ,rfl,h0⟩
 | cons d ds ih=>
  obtain ⟨ρ2,e,hp⟩:=st d ρ List.mem_cons_self h0
  obtain ⟨ρ',e',hp'⟩:=ih hp fun d' ρ' hd=>st d' ρ' (List.mem_cons_of_mem _ hd)
  refine ⟨ρ',?_,hp'⟩
  rw [eP]
  cases hg:g d ρ with
  | no=>rw [hg] at e;cases e
  | err c=>rw [hg] at e;cases e
  | ok ρ1=>
   rw [hg] at e
   have e2:b ρ1=.ok (.nx ρ2):=e
   simp only [Res.bind,e2]
   exact e'
theorem ty_i {i:Int}:tyN (.int i) = "int" := rfl
theorem ty_b {b:Bool}:tyN (.bl b) = "bool" := rfl
theorem ty_t {ds:List D}:tyN (.tup ds) = "tuple" := rfl
theorem ty_l {ds:List D}:tyN (.lst ds) = "list" := rfl
theorem ty_s {x:Str}:tyN (.str x) = "str" := rfl
theorem ty_n:tyN .non = "NoneType" := rfl
theorem bLen_t {ds:List D}:kM [.tup ds]=.ok (.int ds.length):=rfl
theorem bLen_l {ds:List D}:kM [.lst ds]=.ok (.int ds.length):=rfl
theorem bTup_t {ds:List D}:zIi [.tup ds]=.ok (.tup ds):=rfl
theorem bTup_l {ds:List D}:zIi [.lst ds]=.ok (.tup ds):=rfl
theorem gZ {α:Type} {g:Gv} {b:Sv} {ds:List D} {ρ:Rho} {k:Fl->Res α} {Q:Res α->Prop} (P:Nat->Rho->Prop) (h0:P 0 ρ)
  (st:∀ i d ρ,ds[i]?=some d->P i ρ->∃ ρ2,(g d ρ).bind b=.ok (.nx ρ2)/\P (i+1) ρ2) (fi:∀ ρ',P ds.length ρ'->Q (k (.nx ρ'))):Q ((eP g b ds ρ).bind k):=by
 suffices h:∀ (ds:List D) (j:Nat) (ρ:Rho),P j ρ->(∀ i d ρ,ds[i]?=some d->P (j+i) ρ->∃ ρ2,(g d ρ).bind b=.ok (.nx ρ2)/\P (j+i+1) ρ2)->∃ ρ',eP g b ds ρ=.ok (.nx ρ')/\P (j+ds.length) ρ' by
  obtain ⟨ρ',e,hp⟩:=h ds 0 ρ h0 (fun i d ρ hd hp=>by rw [Nat.zero_add] at hp ⊢;exact st i d ρ hd hp)
  rw [e]
  exact fi ρ' (by rw [Nat.zero_add] at hp;exact hp)
 intro ds
 induction ds with
 | nil=>intro j ρ hp _;exact ⟨ρ,rfl,hp⟩
 | cons d ds ih=>
  intro j ρ hp st
  obtain ⟨ρ2,e,hp2⟩:=st 0 d ρ rfl hp
  obtain ⟨ρ',e',hp'⟩:=ih (j+1) ρ2 hp2 fun i d' ρ' hd hp=>by
   have:=st (i+1) d' ρ' (by simpa using hd) (by rw [show j+(i+1)=j+1+i by omega];exact hp)
   rw [show j+(i+1)=j+1+i by omega] at this
   exact this
  refine ⟨ρ',?_,by rw [List.length_cons,show j+(ds.length+1)=j+1+ds.length by omega];exact hp'⟩
  rw [eP]
  cases hg:g d ρ with
  | no=>rw [hg] at e;cases e
  | err c=>rw [hg] at e;cases e
  | ok ρ1=>
   rw [hg] at e
   have e2:b ρ1=.ok (.nx ρ2):=e
   simp only [Res.bind,e2]
   exact e'
theorem zAm {lo c:Int} {n i:Nat} {d:D} (h:(rng lo n c)[i]?=some d):i < n/\d=.int (lo+(i:Int) * c):=by
 unfold rng at h
 rw [List.getElem?_map] at h
 by_cases hi:i < n
 ·rw [List.getElem?_range hi] at h
  cases h
  exact ⟨hi,rfl⟩
 ·rw [List.getElem?_eq_none (by rw [List.length_range];omega)] at h
  cases h
theorem zIG {lo c:Int} {n:Nat}:(rng lo n c).length=n:=by unfold rng;rw [List.length_map,List.length_range]
def zHu (t:Tv) (f:Ev) (ρ:Rho) (ds:List D):Res (List D):=if ds.length<=16777215 then hZ t f ρ ds else .no
theorem fComp_at {it:Fv} {t:Tv} {f:Ev} {ρ:Rho}:lC it t f ρ=(it ρ).bind (zHu t f ρ):=rfl
theorem zJy {d:D} (h:dep d<=50):oNe d d=.ok (.bl false):=by unfold oNe;rw [if_pos h,oH];rfl
theorem zFC {d:D} (h:dep d<=50):oEq d d=.ok (.bl true):=by unfold oEq;rw [if_pos h,oH]
theorem zGW {ds:List D} {k:Int} (h:0<=k):kI ds none (some k)=ds.take k.toNat:=by
 unfold kI cut
 simp only [h,if_true,List.drop_zero,Nat.sub_zero]
 rcases Nat.le_total k.toNat ds.length with l | l
 ·rw [Nat.min_eq_left l]
 ·rw [Nat.min_eq_right l,List.take_length,List.take_of_length_le l]
theorem zHH {α:Type} (l:List α) (a:Nat):l.drop (min a l.length)=l.drop a:=by
 rcases Nat.le_total a l.length with h | h
 ·rw [Nat.min_eq_left h]
 ·rw [Nat.min_eq_right h,List.drop_length,List.drop_eq_nil_of_le h]
theorem zFt {ds:List D} {a b:Int} (h1:0<=a) (h2:0<=b):kI ds (some a) (some b)=(ds.drop a.toNat).take (b.toNat - a.toNat):=by
 unfold kI cut
 simp only [h1,h2,if_true]
 rw [zHH]
 rcases Nat.le_total ds.length a.toNat with c | c
 ·rw [List.drop_eq_nil_of_le c,List.take_nil,List.take_nil]
 ·rw [Nat.min_eq_left c]
  rcases Nat.le_total b.toNat ds.length with d | d
  ·rw [Nat.min_eq_left d]
  ·rw [Nat.min_eq_right d,List.take_of_length_le (by rw [List.length_drop];exact Nat.le_refl _),List.take_of_length_le (by rw [List.length_drop];exact Nat.sub_le_sub_right d _)]
theorem kO {α:Type} {f:α->D} {l:List α} {i:Int} {a:α} (h0:0<=i) (h:l[i.toNat]?=some a):oIx (.lst (l.map f)) (.int i)=.ok (f a):=by
 show ofO (atD (l.map f) i)=_
 unfold atD
 rw [if_pos h0,List.getElem?_map,h]
 rfl
def popS (i:Nat) (ρ:Rho):Option Sl->Res Fl
 | some (.own ds)=>if ds.length=0 then .no else .ok (.nx (ρ.set i (.own ds.dropLast)))
 | _=>.no
theorem sPop_at {i:Nat} {ρ:Rho}:zMv i ρ=popS i ρ ρ[i]?:=by unfold zMv popS;rfl
theorem oIx_tc {d:D} {ds:List D} {i:Int}:oIx (.tup (d::ds)) (.int i)=ofO (atD (d::ds) i):=rfl
theorem fM {α:Type} {f:α->D} {l:List α} {i:Int} {a:α} (h0:0<=i) (h:l[i.toNat]?=some a):oIx (.tup (l.map f)) (.int i)=.ok (f a):=by
 show ofO (atD (l.map f) i)=_
 unfold atD
 rw [if_pos h0,List.getElem?_map,h]
 rfl
theorem zId {α:Type} {f:α->D} {l:List α} {k:Nat} {a:α} (h0:0 < k) (h:k<=l.length) (h2:l[l.length - k]?=some a):atD (l.map f) (-(k:Int))=some (f a):=by
 unfold atD
 rw [if_neg (by omega),List.length_map,if_pos (by omega),show ((l.length:Int)+-(k:Int)).toNat=l.length - k by omega,List.getElem?_map,h2]
 rfl
theorem zBM {α:Type} {f:α->D} {l:List α} {k:Nat} {i:Int} {a:α} (hi:i=-(k:Int)) (h0:0 < k) (h:k<=l.length) (h2:l[l.length - k]?=some a):oIx (.lst (l.map f)) (.int i)=.ok (f a):=by
 show ofO (atD (l.map f) i)=_
 rw [hi,zId h0 h h2]
 rfl
theorem zED {α:Type} {f:α->D} {l:List α} {k:Nat} {i:Int} {a:α} (hi:i=-(k:Int)) (h0:0 < k) (h:k<=l.length) (h2:l[l.length - k]?=some a):oIx (.tup (l.map f)) (.int i)=.ok (f a):=by
 show ofO (atD (l.map f) i)=_
 rw [hi,zId h0 h h2]
 rfl
theorem zGo {α:Type} {g:Gv} {b:Sv} {ds:List D} {ρ:Rho} {k:Fl->Res α} {Q:Res α->Prop} (P:Nat->Rho->Prop) (h0:P 0 ρ)
  (st:∀ i d ρ,ds[i]?=some d->P i ρ->(∃ ρ2,(g d ρ).bind b=.ok (.nx ρ2)/\P (i+1) ρ2)∨∃ r,(g d ρ).bind b=.ok (.ret r)/\Q (k (.ret r))) (fi:∀ ρ',P ds.length ρ'->Q (k (.nx ρ'))):Q ((eP g b ds ρ).bind k):=by
 suffices h:∀ (ds:List D) (j:Nat) (ρ:Rho),P j ρ->(∀ i d ρ,ds[i]?=some d->P (j+i) ρ->(∃ ρ2,(g d ρ).bind b=.ok (.nx ρ2)/\P (j+i+1) ρ2)∨∃ r,(g d ρ).bind b=.ok (.ret r)/\Q (k (.ret r)))->(∃ ρ',eP g b ds ρ=.ok (.nx ρ')/\P (j+ds.length) ρ')∨∃ r,eP g b ds ρ=.ok (.ret r)/\Q (k (.ret r)) by
  rcases h ds 0 ρ h0 (fun i d ρ hd hp=>by rw [Nat.zero_add] at hp ⊢;exact st i d ρ hd hp) with ⟨ρ',e,hp⟩ | ⟨r,e,hq⟩
  ·rw [e]
   exact fi ρ' (by rw [Nat.zero_add] at hp;exact hp)
  ·rw [e]
   exact hq
 intro ds
 induction ds with
 | nil=>intro j ρ hp _;exact .inl ⟨ρ,rfl,hp⟩
 | cons d ds ih=>
  intro j ρ hp st
  rcases st 0 d ρ rfl hp with ⟨ρ2,e,hp2⟩ | ⟨r,e,hq⟩
  ·have e3:eP g b (d::ds) ρ=eP g b ds ρ2:=by
    rw [eP]
    cases hg:g d ρ with
    | no=>rw [hg] at e;cases e
    | err c=>rw [hg] at e;cases e
    | ok ρ1=>
     rw [hg] at e
     have e2:b ρ1=.ok (.nx ρ2):=e
     simp only [Res.bind,e2]
   rw [e3]
   rcases ih (j+1) ρ2 hp2 (fun i d' ρ' hd hp=>by
    have:=st (i+1) d' ρ' (by simpa using hd) (by rw [show j+(i+1)=j+1+i by omega];exact hp)
    rw [show j+(i+1)=j+1+i by omega] at this
    exact this) with ⟨ρ',e',hp'⟩ | h
   ·exact .inl ⟨ρ',e',by rw [List.length_cons,show j+(ds.length+1)=j+1+ds.length by omega];exact hp'⟩
   ·exact .inr h
  ·refine .inr ⟨r,?_,hq⟩
   rw [eP]
   cases hg:g d ρ with
   | no=>rw [hg] at e;cases e
   | err c=>rw [hg] at e;cases e
   | ok ρ1=>
    rw [hg] at e
    have e2:b ρ1=.ok (.ret r):=e
    simp only [Res.bind,e2]
def zNr (ds:List D):D->Res (List D)
 | .int k=>if 0<=k/\k < 2^62/\ds.length * k.toNat<=16777216 then .ok (List.replicate k.toNat ds).flatten else .no
 | _=>.no
def repF (g:Ev) (ρ:Rho) (ds:List D):Res (List D):=(g ρ).bind (zNr ds)
theorem fRep_at {f:Fv} {g:Ev} {ρ:Rho}:zIY f g ρ=(f ρ).bind (repF g ρ):=by
 unfold zIY repF;congr
theorem zDw {d:D} {k:Nat} (h:k<=16777216):zNr [d] (.int (k:Int))=.ok (List.replicate k d):=by
 have e:∀ n,(List.replicate n [d]).flatten=List.replicate n d:=by
  intro n
  induction n with
  | zero=>rfl
  | succ n ih=>rw [List.replicate_succ,List.flatten_cons,ih];rfl
 unfold zNr
 dsimp only
 rw [if_pos ⟨by omega,by omega,by simp only [List.length_cons,List.length_nil,Int.toNat_natCast];omega⟩,Int.toNat_natCast,e]
theorem zFj {α:Type} {u:α->D} {f:Ev} {ρ:Rho} {g:α->D}:∀ {l:List α},(∀ a∈l,f (ρ++[.val (u a)])=.ok (g a))->hZ lZ f ρ (l.map u)=.ok (l.map g)
 | [],_=>rfl
 | a::l,h=>by
  rw [List.map_cons,hZ,h a List.mem_cons_self]
  simp only [lZ,noErr,Res.bind,if_true]
  rw [zFj fun b hb=>h b (List.mem_cons_of_mem _ hb)]
  rfl
theorem eQ {α:Type} {u:α->D} {f:Ev} {ρ:Rho} {g:α->D} {l:List α} (hl:l.length<=16777215) (h:∀ a∈l,f (ρ++[.val (u a)])=.ok (g a)):zHu lZ f ρ (l.map u)=.ok (l.map g):=by
 unfold zHu;rw [if_pos (by rw [List.length_map];exact hl),zFj h]
def zNL:D->Res (List D)
 | .tup ds=>.ok ds.reverse
 | _=>.no
theorem revD_t {ds:List D}:zNL (.tup ds)=.ok ds.reverse:=rfl
theorem iRev_at {e:Ev} {ρ:Rho}:zMI e ρ=(e ρ).bind zNL:=by
 unfold zMI;congr
theorem bSum_l {ns:List Int}:zBR [.lst (ns.map D.int)]=.ok (.int ns.sum):=by
 have e:∀ ns:List Int,qS (ns.map D.int)=some ns:=by
  intro ns
  induction ns with
  | nil=>rfl
  | cons i ns ih=>rw [List.map_cons,qS,ih]
 show (match qS (ns.map D.int) with | some ns=>Res.ok (D.int ns.sum) | none=>.no)=_
 rw [e]
theorem bSum_t {ns:List Int}:zBR [.tup (ns.map D.int)]=.ok (.int ns.sum):=by
 have e:∀ ns:List Int,qS (ns.map D.int)=some ns:=by
  intro ns
  induction ns with
  | nil=>rfl
  | cons i ns ih=>rw [List.map_cons,qS,ih]
 show (match qS (ns.map D.int) with | some ns=>Res.ok (D.int ns.sum) | none=>.no)=_
 rw [e]
def slI (i:Nat) (ρ:Rho):Int:=match ρ[i]? with
 | some (.val (.int x))=>x
 | _=>0
theorem chO_s {c:Nat}:chO (some c)=.ok (.str ⟨#[c]⟩):=rfl
theorem zMl {x:Str}:dep (.str x)<=50:=by simp [dep]
theorem oEq_s {x y:Str}:oEq (.str x) (.str y)=.ok (.bl (x==y)):=by
 unfold oEq;rw [if_pos zMl,eqD]
theorem oNe_s {x y:Str}:oNe (.str x) (.str y)=.ok (.bl (!(x==y))):=by
 unfold oNe;rw [if_pos zMl,eqD]
theorem gD {g:Gv} {b:Sv} {d:D} {ds:List D} {ρ ρ1 ρ2:Rho} (hg:g d ρ=.ok ρ1) (hb:b ρ1=.ok (.nx ρ2)):eP g b (d::ds) ρ=eP g b ds ρ2:=by
 rw [eP]
 simp only [hg,Res.bind,hb]
theorem oTabNot_s {T:List (Str×Str)} {x:Str}:pH T (.str x)=.ok (.bl (!(T.lookup x).isSome)):=rfl
def zNV:List D->Res (List D)
 | [x,y]=>match zGK x,zGK y with
  | some xs,some ys=>.ok (iY xs ys)
  | _,_=>.no
 | _=>.no
theorem iZip_at {a:Fv} {ρ:Rho}:zHf a ρ=(a ρ).bind zNV:=by
 unfold zHf;congr
theorem lD {x y:D} {xs ys:List D} (hx:zGK x=some xs) (hy:zGK y=some ys):zNV [x,y]=.ok (iY xs ys):=by
 show (match zGK x,zGK y with | some xs,some ys=>Res.ok (iY xs ys) | _,_=>.no)=_
 rw [hx,hy]
def zFA (f:Ev) (ρ:Rho) (ds:List D):Res (List D):=if ds.length<=16777215 then fH f ρ ds else .no
theorem fComp2_at {it:Fv} {f:Ev} {ρ:Rho}:qM it f ρ=(it ρ).bind (zFA f ρ):=rfl
theorem zCw {α β:Type} {u:α->D} {v:β->D} {f:Ev} {ρ:Rho} {g:α->β->D}:∀ {l:List α} {m:List β},(∀ p∈l.zip m,f (ρ++[.val (u p.1),.val (v p.2)])=.ok (g p.1 p.2))->
  fH f ρ (iY (l.map u) (m.map v))=.ok ((l.zip m).map fun p=>g p.1 p.2)
 | [],m,h=>by cases m<;>rfl
 | a::l,[],h=>rfl
 | a::l,b::m,h=>by
  have h1:=h (a,b) List.mem_cons_self
  have h2:=zCw (l:=l) (m:=m) (u:=u) (v:=v) (g:=g) fun p hp=>h p (List.mem_cons_of_mem _ hp)
  show (noErr (f (ρ++[.val (u a),.val (v b)]))).bind (fun e=>(fH f ρ (iY (l.map u) (m.map v))).bind fun es=>.ok (e::es))=_
  rw [h1,h2]
  rfl
theorem jK {α β:Type} {u:α->D} {v:β->D} {f:Ev} {ρ:Rho} {g:α->β->D} {l:List α} {m:List β} (hl:l.length<=16777215) (h:∀ p∈l.zip m,f (ρ++[.val (u p.1),.val (v p.2)])=.ok (g p.1 p.2)):
  zFA f ρ (iY (l.map u) (m.map v))=.ok ((l.zip m).map fun p=>g p.1 p.2):=by
 unfold zFA
 rw [if_pos,zCw h]
 have:∀ (a b:List D),(iY a b).length<=a.length:=by
  intro a
  induction a with
  | nil=>intro b;cases b<;>exact Nat.le_refl _
  | cons x a ih=>intro b;cases b with
   | nil=>exact Nat.zero_le _
   | cons y b=>exact Nat.succ_le_succ (ih b)
 exact Nat.le_trans (this _ _) (by rw [List.length_map];exact hl)
end L3
namespace Ln
open Fq
abbrev Pt:=Rat×Rat
def asc (a b:Pt):Prop:=a.1 < b.1/\a.2<=b.2
def btw (a b c:Pt):Bool:=decide ((b.2 - a.2) * (c.1 - b.1)=(c.2 - b.2) * (b.1 - a.1))
def push:List Pt->Pt->List Pt
 | b::a::s,c=>if btw a b c=true then c::a::s else c::b::a::s
 | s,c=>c::s
theorem zDY {s:List Pt} {c:Pt} (h:¬ 1 < s.length):push s c=c::s:=by
 match s,h with
 | [],_=>rfl
 | [b],_=>rfl
 | b::a::s,h=>exact absurd (show 1 < s.length+2 by omega) h
def mM (ps:List Pt):List Pt:=(ps.foldl push []).reverse
def few:Pt->List Pt->List Pt
 | _,[]=>[]
 | _,[b]=>[b]
 | a,b::c::r=>if btw a b c=true then few b (c::r) else b::few b (c::r)
def kH:List Pt->List Pt
 | []=>[]
 | a::r=>a::few a r
def dir (a p b:Pt):Prop:=a.1 < b.1/\p.1 < b.1/\(b.2 - a.2) * (b.1 - p.1)=(b.2 - p.2) * (b.1 - a.1)
theorem lA {x a b:Rat} (h:x≠0) (e:a * x=b * x):a=b:=by
 have:a * x * x⁻¹=b * x * x⁻¹:=by rw [e]
 rw [Rat.mul_assoc,Rat.mul_assoc,Rat.mul_inv_cancel _ h,Rat.mul_one,Rat.mul_one] at this
 exact this
theorem sX {a p b c:Pt} (h:dir a p b):btw a b c=btw p b c:=by
 obtain ⟨h1,h2,h3⟩:=h
 unfold btw
 have n1:b.1 - a.1≠0:=by grind
 have n2:b.1 - p.1≠0:=by grind
 congr 1
 apply propext
 constructor
 ·intro e
  refine lA n1 ?_
  grind
 ·intro e
  refine lA n2 ?_
  grind
theorem zBK {a b c:Pt} (h:a.1 < b.1) (k:b.1 < c.1) (e:btw a b c=true):dir a b c:=by
 have e:=of_decide_eq_true e
 refine ⟨by grind,k,?_⟩
 grind
theorem yZ:∀ (r:List Pt) (p b a:Pt) (s:List Pt),dir a p b->(b::r).Pairwise asc->(r.foldl push (b::a::s)).reverse=(a::s).reverse++few p (b::r)
 | [],p,b,a,s,_,_=>by simp [few]
 | c::r,p,b,a,s,h,hp=>by
  have hbc:asc b c:=(List.pairwise_cons.mp hp).1 c List.mem_cons_self
  have hr:=(List.pairwise_cons.mp hp).2
  rw [List.foldl_cons,push,few,sX h]
  by_cases e:btw p b c=true
  ·rw [if_pos e,if_pos e]
   exact yZ r b c a s (zBK h.1 hbc.1 (by rw [sX h];exact e)) hr
  ·rw [if_neg e,if_neg e,yZ r b c b (a::s) ⟨hbc.1,hbc.1,rfl⟩ hr]
   simp
theorem oB {ps:List Pt} (h:ps.Pairwise asc):mM ps=kH ps:=by
 unfold mM
 match ps,h with
 | [],_=>rfl
 | [a],_=>rfl
 | a::b::r,h=>
  have hab:=(List.pairwise_cons.mp h).1 b List.mem_cons_self
  show (r.foldl push [b,a]).reverse=_
  rw [yZ r a b a [] ⟨hab.1,hab.1,rfl⟩ (List.pairwise_cons.mp h).2]
  rfl
theorem zBQ:∀ (r:List Pt) (a:Pt),(few a r).Sublist r
 | [],_=>List.Sublist.slnil
 | [b],_=>List.Sublist.refl _
 | b::c::r,a=>by
  rw [few]
  split
  ·exact (zBQ (c::r) b).cons b
  ·exact (zBQ (c::r) b).cons₂ b
theorem wA (ps:List Pt):(kH ps).Sublist ps:=by
 cases ps with
 | nil=>exact List.Sublist.slnil
 | cons a r=>exact (zBQ r a).cons₂ a
theorem zDo:∀ (r:List Pt) (a:Pt),(few a r).getLast?=r.getLast?
 | [],_=>rfl
 | [b],_=>rfl
 | b::c::r,a=>by
  have ih:=zDo (c::r) b
  rw [few]
  split
  ·rw [ih];rfl
  ·rw [List.getLast?_cons,ih]
   simp [List.getLast?_cons]
theorem zCf (ps:List Pt):(kH ps).getLast?=ps.getLast?:=by
 cases ps with
 | nil=>rfl
 | cons a r=>rw [kH,List.getLast?_cons,zDo,List.getLast?_cons]
def zCZ:List Pt->Prop
 | a::b::c::r=>btw a b c=false/\zCZ (b::c::r)
 | _=>True
theorem zDs:∀ (r:List Pt) (a:Pt),zCZ (a::r)->few a r=r
 | [],_,_=>rfl
 | [b],_,_=>rfl
 | b::c::r,a,h=>by
  rw [few,h.1,zDs (c::r) b h.2]
  rfl
theorem zBZ {ps:List Pt} (h:zCZ ps):kH ps=ps:=by
 cases ps with
 | nil=>rfl
 | cons a r=>rw [kH,zDs r a h]
theorem zCI:∀ (r:List Pt) (p b:Pt),(p::b::r).Pairwise asc->∃ d t,few p (b::r)=d::t/\b.1<=d.1/\(d.2 - p.2) * (b.1 - p.1)=(b.2 - p.2) * (d.1 - p.1)
 | [],p,b,_=>⟨b,[],rfl,Rat.le_refl,rfl⟩
 | c::r,p,b,h=>by
  have h1:=List.pairwise_cons.mp h
  have h2:=List.pairwise_cons.mp h1.2
  have pb:=h1.1 b List.mem_cons_self
  have bc:=h2.1 c List.mem_cons_self
  rw [few]
  by_cases e:btw p b c=true
  ·rw [if_pos e]
   obtain ⟨d,t,e1,l,e2⟩:=zCI r b c h1.2
   have e3:=of_decide_eq_true e
   refine ⟨d,t,e1,by grind [asc],?_⟩
   have n:c.1 - b.1≠0:=by grind [asc]
   refine lA n ?_
   have e4:(d.2 - b.2) * (b.1 - p.1)=(b.2 - p.2) * (d.1 - b.1):=by
    refine lA n ?_
    grind
   grind
  ·rw [if_neg e]
   exact ⟨b,_,rfl,Rat.le_refl,rfl⟩
theorem wZ:∀ (r:List Pt) (a p b:Pt),dir a p b->(b::r).Pairwise asc->(p::b::r).Pairwise asc->zCZ (a::few p (b::r))
 | [],a,p,b,_,_,_=>by simp [few,zCZ]
 | c::r,a,p,b,h,hb,hp=>by
  have bc:=(List.pairwise_cons.mp hb).1 c List.mem_cons_self
  have hc:=(List.pairwise_cons.mp hb).2
  rw [few]
  by_cases e:btw p b c=true
  ·rw [if_pos e]
   exact wZ r a b c (zBK h.1 bc.1 (by rw [sX h];exact e)) hc hb
  ·rw [if_neg e]
   have ih:=wZ r b b c ⟨bc.1,bc.1,rfl⟩ hc hb
   obtain ⟨d,t,e1,l,e2⟩:=zCI r b c hb
   rw [e1] at ih ⊢
   refine ⟨?_,ih⟩
   rw [sX h]
   rw [Bool.eq_false_iff]
   intro z
   apply e
   have z:=of_decide_eq_true z
   refine decide_eq_true ?_
   have n:d.1 - b.1≠0:=by grind [asc]
   refine lA n ?_
   grind
theorem zCs {ps:List Pt} (h:ps.Pairwise asc):zCZ (kH ps):=by
 match ps,h with
 | [],_=>trivial
 | [a],_=>trivial
 | a::b::r,h=>
  have hab:=(List.pairwise_cons.mp h).1 b List.mem_cons_self
  exact wZ r a a b ⟨hab.1,hab.1,rfl⟩ (List.pairwise_cons.mp h).2 h
def Ok (ps:List Pt):Prop:=ps.head?=some (0,0)/\ps.Pairwise asc
def zHD (ps:List Pt):Prop:=Ok ps/\zCZ ps
theorem zBJ {ps:List Pt} (h:Ok ps):zHD (mM ps):=by
 rw [oB h.2]
 refine ⟨⟨?_,h.2.sublist (wA ps)⟩,zCs h.2⟩
 obtain ⟨h,_⟩:=h
 cases ps with
 | nil=>cases h
 | cons a r=>exact h
theorem qL {ps:List Pt} (h:ps.Pairwise asc) {i j:Nat} {a b:Pt} (l:i < j) (ha:ps[i]?=some a) (hb:ps[j]?=some b):asc a b:=by
 obtain ⟨hi,rfl⟩:=List.getElem?_eq_some_iff.mp ha
 obtain ⟨hj,rfl⟩:=List.getElem?_eq_some_iff.mp hb
 exact List.pairwise_iff_getElem.mp h i j hi hj l
def SzP (n:Nat) (p:Pt):Prop:=Sz n p.1/\Sz n p.2
theorem lt_iff {p q:Rat}:p.num * q.den < q.num * p.den ↔ p < q:=Rat.lt_iff p q |>.symm
def itp (p q:Pt) (x:Rat):Rat:=p.2+(x - p.1) / (q.1 - p.1) * (q.2 - p.2)
def dB:List Pt->Rat->Rat
 | [],_=>0
 | [p],_=>p.2
 | p::q::r,x=>if x<=q.1 then itp p q x else dB (q::r) x
theorem zKU (p q:Pt):itp p q p.1=p.2:=by
 unfold itp
 rw [Rat.sub_self,Rat.div_def,Rat.zero_mul,Rat.zero_mul,Rat.add_zero]
theorem zLP {p q:Pt} (h:p.1 < q.1):itp p q q.1=q.2:=by
 unfold itp
 have n:q.1 - p.1≠0:=by grind
 rw [Rat.div_def,Rat.mul_inv_cancel _ n,Rat.one_mul]
 grind
theorem fR:∀ {ps:List Pt},ps.Pairwise asc->∀ {i:Nat} {p:Pt},ps[i]?=some p->dB ps p.1=p.2
 | [],_,i,p,hp=>by cases hp
 | [a],_,i,p,hp=>by
  cases i with
  | zero=>cases hp;rfl
  | succ i=>cases hp
 | a::b::r,h,i,p,hp=>by
  have hab:=(List.pairwise_cons.mp h).1 b List.mem_cons_self
  rw [dB]
  match i,hp with
  | 0,hp=>
   cases hp
   rw [if_pos (Rat.le_of_lt hab.1),zKU]
  | 1,hp=>
   cases hp
   rw [if_pos Rat.le_refl,zLP hab.1]
  | i+2,hp=>
   have hb:asc b p:=qL h (show 1 < i+2 by omega) rfl hp
   rw [if_neg (by have:=hb.1;grind)]
   exact fR (List.pairwise_cons.mp h).2 (i:=i+1) hp
theorem kQ:∀ {ps:List Pt},ps.Pairwise asc->∀ {i:Nat} {p q:Pt} {x:Rat},ps[i]?=some p->ps[i+1]?=some q->p.1<=x->x<=q.1->dB ps x=itp p q x
 | [],_,i,p,q,x,hp,_,_,_=>by cases hp
 | [a],_,i,p,q,x,hp,hq,_,_=>by cases hq
 | a::b::r,h,i,p,q,x,hp,hq,h1,h2=>by
  have hab:=(List.pairwise_cons.mp h).1 b List.mem_cons_self
  cases i with
  | zero=>
   cases hp
   cases hq
   rw [dB,if_pos h2]
  | succ i=>
   have hr:=(List.pairwise_cons.mp h).2
   by_cases c:x=p.1
   ·subst c
    rw [zKU]
    exact fR h hp
   ·rw [dB,if_neg]
    ·exact kQ hr (i:=i) hp hq h1 h2
    ·intro z
     cases i with
     | zero=>
      cases hp
      exact c (by grind)
     | succ i=>
      have hb:asc b p:=qL h (show 1 < i+1+1 by omega) rfl hp
      have:=hb.1
      grind
def ax:Bool->Pt->Rat
 | false,p=>p.1
 | true,p=>p.2
theorem zCm {ps:List Pt} (h:ps.Pairwise asc) (b:Bool) {i j:Nat} {p q:Pt} (l:i<=j) (hp:ps[i]?=some p) (hq:ps[j]?=some q):ax b p<=ax b q:=by
 rcases Nat.lt_or_eq_of_le l with l | l
 ·have:=qL h l hp hq
  cases b
  ·exact Rat.le_of_lt this.1
  ·exact this.2
 ·subst l
  rw [hp] at hq
  cases hq
  exact Rat.le_refl
theorem zGx:∀ {ps:List Pt} {e:Pt} {x:Rat},ps.Pairwise asc->ps.getLast?=some e->(∀ p,ps.head?=some p->p.1<=x)->x<=e.1->
  (∃ (i:Nat) (p:Pt),ps[i]?=some p/\p.1=x)∨∃ (i:Nat) (p q:Pt),ps[i]?=some p/\ps[i+1]?=some q/\p.1 < x/\x < q.1
 | [],e,x,_,he,_,_=>by cases he
 | [a],e,x,_,he,h0,h1=>by
  cases he
  have:=h0 a rfl
  exact .inl ⟨0,a,rfl,by grind⟩
 | a::b::r,e,x,h,he,h0,h1=>by
  have ha:=h0 a rfl
  by_cases c:a.1=x
  ·exact .inl ⟨0,a,rfl,c⟩
  by_cases d:x < b.1
  ·exact .inr ⟨0,a,b,rfl,rfl,by grind,d⟩
  ·rcases zGx (List.pairwise_cons.mp h).2 (by rw [<-he];simp [List.getLast?_cons]) (fun p hp=>by cases hp;grind) h1 with ⟨i,p,h2,h3⟩ | ⟨i,p,q,h2,h3,h4⟩
   ·exact .inl ⟨i+1,p,h2,h3⟩
   ·exact .inr ⟨i+1,p,q,h2,h3,h4⟩
theorem zDM {a b c:Pt} (h1:a.1 < b.1) (h2:b.1 < c.1) (e:btw a b c=true):(b.2 - a.2) / (b.1 - a.1)=(c.2 - a.2) / (c.1 - a.1)/\(c.2 - b.2) / (c.1 - b.1)=(c.2 - a.2) / (c.1 - a.1):=by
 have e:=of_decide_eq_true e
 have n1:b.1 - a.1≠0:=by grind
 have n2:c.1 - b.1≠0:=by grind
 have n3:c.1 - a.1≠0:=by grind
 have i1:=Rat.mul_inv_cancel _ n1
 have i2:=Rat.mul_inv_cancel _ n2
 have i3:=Rat.mul_inv_cancel _ n3
 rw [Rat.div_def,Rat.div_def,Rat.div_def]
 constructor
 ·refine lA n1 (lA n3 ?_)
  grind
 ·refine lA n2 (lA n3 ?_)
  grind
theorem jP (p q:Pt) (x:Rat):itp p q x=p.2+(x - p.1) * ((q.2 - p.2) / (q.1 - p.1)):=by
 unfold itp
 rw [Rat.div_def,Rat.div_def]
 grind
theorem zHr {a b c:Pt} (h1:a.1 < b.1) (h2:b.1 < c.1) (e:btw a b c=true) (x:Rat):itp a b x=itp a c x/\itp b c x=itp a c x:=by
 obtain ⟨s1,s2⟩:=zDM h1 h2 e
 rw [jP,jP,jP,s1,s2]
 refine ⟨rfl,?_⟩
 have n1:b.1 - a.1≠0:=by grind
 have i1:=Rat.mul_inv_cancel _ n1
 rw [<-s1,Rat.div_def]
 generalize (b.1 - a.1)⁻¹=u at i1
 grind
theorem zHv {a b c:Pt} {r:List Pt} (h1:a.1 < b.1) (h2:b.1 < c.1) (e:btw a b c=true) (x:Rat):dB (a::b::c::r) x=dB (a::c::r) x:=by
 obtain ⟨e1,e2⟩:=zHr h1 h2 e x
 rw [dB,dB,dB,e1,e2]
 by_cases c1:x<=b.1
 ·rw [if_pos c1,if_pos (by grind)]
 ·rw [if_neg c1]
theorem zBB:∀ (r:List Pt) (a p b:Pt) (x:Rat),dir a p b->(b::r).Pairwise asc->dB (a::few p (b::r)) x=dB (a::b::r) x
 | [],a,p,b,x,_,_=>rfl
 | c::r,a,p,b,x,h,hb=>by
  have bc:=(List.pairwise_cons.mp hb).1 c List.mem_cons_self
  have hc:=(List.pairwise_cons.mp hb).2
  rw [few]
  by_cases e:btw p b c=true
  ·have e':btw a b c=true:=by rw [sX h];exact e
   rw [if_pos e,zBB r a b c x (zBK h.1 bc.1 e') hc,zHv h.1 bc.1 e']
  ·show _=(if x<=b.1 then itp a b x else dB (b::c::r) x)
   rw [if_neg e,dB,zBB r b b c x ⟨bc.1,bc.1,rfl⟩ hc]
theorem zDW {ps:List Pt} (h:ps.Pairwise asc) (x:Rat):dB (mM ps) x=dB ps x:=by
 rw [oB h]
 match ps,h with
 | [],_=>rfl
 | [a],_=>rfl
 | a::b::r,h=>
  have hab:=(List.pairwise_cons.mp h).1 b List.mem_cons_self
  exact zBB r a a b x ⟨hab.1,hab.1,rfl⟩ (List.pairwise_cons.mp h).2
theorem zCq {ps:List Pt} (h:ps.Pairwise asc):(mM ps).getLast?=ps.getLast?:=by rw [oB h,zCf]
theorem wF {ps:List Pt} (h:ps.Pairwise asc):(mM ps).Sublist ps:=by rw [oB h];exact wA ps
theorem lS {a p:Pt} {r:List Pt} (h:(a::p::r).Pairwise asc) {x:Rat} (hx:p.1<=x):dB (a::p::r) x=dB (p::r) x:=by
 have hp:=(List.pairwise_cons.mp h).2
 have ap:=(List.pairwise_cons.mp h).1 p List.mem_cons_self
 rw [dB]
 by_cases c:x<=p.1
 ·have e:x=p.1:=by grind
  rw [if_pos c,e,zLP ap.1]
  exact (fR hp (i:=0) rfl).symm
 ·rw [if_neg c]
theorem zAQ {a p q e f:Pt} {r s:List Pt} (hr:(a::p::r).Pairwise asc) (hs:(a::q::s).Pairwise asc) (br:zCZ (a::p::r)) (er:(a::p::r).getLast?=some e) (es:(a::q::s).getLast?=some f) (ef:e.1=f.1)
  (hv:∀ x,a.1<=x->x<=e.1->dB (a::p::r) x=dB (a::q::s) x):¬ p.1 < q.1:=by
 intro l
 have ap:=(List.pairwise_cons.mp hr).1 p List.mem_cons_self
 have aq:=(List.pairwise_cons.mp hs).1 q List.mem_cons_self
 have qf:q.1<=f.1:=by
  rw [List.getLast?_eq_getElem?] at es
  exact zCm hs false (i:=1) (show 1<=(a::q::s).length - 1 by simp) rfl es
 cases r with
 | nil=>
  cases er
  have:p.1=f.1:=ef
  grind
 | cons u r=>
  have hp:=(List.pairwise_cons.mp hr).2
  have pu:=(List.pairwise_cons.mp hp).1 u List.mem_cons_self
  have ue:u.1<=e.1:=by
   rw [List.getLast?_eq_getElem?] at er
   exact zCm hr false (i:=2) (show 2<=(a::p::u::r).length - 1 by simp) rfl er
  have key:∀ x,p.1 < x->x<=u.1->x<=q.1->btw a p u=true:=by
   intro x h1 h2 h3
   have v1:=hv p.1 (Rat.le_of_lt ap.1) (by grind)
   have v2:=hv x (by have:=ap.1;grind) (by grind)
   rw [lS hr Rat.le_refl,fR hp (i:=0) rfl,dB,if_pos (Rat.le_of_lt l)] at v1
   rw [lS hr (Rat.le_of_lt h1),dB,if_pos h2,dB,if_pos h3] at v2
   rw [jP] at v1
   rw [jP,jP] at v2
   generalize (q.2 - a.2) / (q.1 - a.1)=k at v1 v2
   have n1:x - p.1≠0:=by grind
   have n2:u.1 - p.1≠0:=by have:=pu.1;grind
   have i2:=Rat.mul_inv_cancel _ n2
   rw [Rat.div_def] at v2
   generalize (u.1 - p.1)⁻¹=w at i2 v2
   have s1:(u.2 - p.2) * w=k:=by
    refine lA n1 ?_
    grind
   refine decide_eq_true ?_
   have s2:u.2 - p.2=k * (u.1 - p.1):=by
    have:(u.2 - p.2) * w * (u.1 - p.1)=k * (u.1 - p.1):=by rw [s1]
    grind
   grind
  have nb:=br.1
  by_cases c:u.1<=q.1
  ·rw [key u.1 pu.1 Rat.le_refl c] at nb
   cases nb
  ·rw [key q.1 l (by grind) Rat.le_refl] at nb
   cases nb
theorem zCv:∀ (r s:List Pt) (a e f:Pt),(a::r).Pairwise asc->(a::s).Pairwise asc->zCZ (a::r)->zCZ (a::s)->(a::r).getLast?=some e->(a::s).getLast?=some f->e.1=f.1->
  (∀ x,a.1<=x->x<=e.1->dB (a::r) x=dB (a::s) x)->r=s
 | [],[],_,_,_,_,_,_,_,_,_,_,_=>rfl
 | [],q::s,a,e,f,_,hs,_,_,er,es,ef,_=>by
  cases er
  rw [List.getLast?_eq_getElem?] at es
  have:=(qL hs (i:=0) (show 0 < (a::q::s).length - 1 by simp) rfl es).1
  grind
 | p::r,[],a,e,f,hr,_,_,_,er,es,ef,_=>by
  cases es
  rw [List.getLast?_eq_getElem?] at er
  have:=(qL hr (i:=0) (show 0 < (a::p::r).length - 1 by simp) rfl er).1
  grind
 | p::r,q::s,a,e,f,hr,hs,br,bs,er,es,ef,hv=>by
  have n1:=zAQ hr hs br er es ef hv
  have n2:=zAQ hs hr bs es er ef.symm fun x h1 h2=>(hv x h1 (by rw [ef];exact h2)).symm
  have pq:p.1=q.1:=by grind
  have hp:=(List.pairwise_cons.mp hr).2
  have hq:=(List.pairwise_cons.mp hs).2
  have ap:=(List.pairwise_cons.mp hr).1 p List.mem_cons_self
  have pe:p.1<=e.1:=by
   have er':=er
   rw [List.getLast?_eq_getElem?] at er'
   exact zCm hr false (i:=1) (show 1<=(a::p::r).length - 1 by simp) rfl er'
  have v:=hv p.1 (Rat.le_of_lt ap.1) pe
  rw [lS hr Rat.le_refl,fR hp (i:=0) rfl,lS hs (show q.1<=p.1 by grind),pq,fR hq (i:=0) rfl] at v
  have e1:p=q:=Prod.ext pq v
  subst e1
  have br':zCZ (p::r):=by
   cases r with
   | nil=>trivial
   | cons u r=>exact br.2
  have bs':zCZ (p::s):=by
   cases s with
   | nil=>trivial
   | cons u s=>exact bs.2
  rw [zCv r s p e f hp hq br' bs' (by rw [<-er];simp [List.getLast?_cons]) (by rw [<-es];simp [List.getLast?_cons]) ef fun x h1 h2=>by
   have:=hv x (by have:=ap.1;grind) h2
   rw [lS hr h1,lS hs h1] at this
   exact this]
theorem zFl {ps qs:List Pt} {e f:Pt} (hp:zHD ps) (hq:zHD qs) (he:ps.getLast?=some e) (hf:qs.getLast?=some f) (ef:e.1=f.1) (hv:∀ x,0<=x->x<=e.1->dB ps x=dB qs x):ps=qs:=by
 cases ps with
 | nil=>cases he
 | cons a r=>
  cases qs with
  | nil=>cases hf
  | cons b s=>
   have h1:=hp.1.1
   have h2:=hq.1.1
   cases h1
   cases h2
   rw [zCv r s (0,0) e f hp.1.2 hq.1.2 hp.2 hq.2 he hf ef hv]
def trn (ps:List Pt) (e:Pt):List Pt:=ps.reverse.map fun p=>(e.1 - p.1,e.2 - p.2)
theorem zHg {ps:List Pt} {e:Pt} (h:ps.head?=some (0,0)):(trn ps e).getLast?=some e:=by
 unfold trn
 rw [List.getLast?_map,List.getLast?_reverse,h]
 show some (e.1 - 0,e.2 - 0)=some e
 rw [show e.1 - 0=e.1 by grind,show e.2 - 0=e.2 by grind]
theorem zDb:∀ {ps:List Pt},zCZ ps->∀ {i:Nat} {a b c:Pt},ps[i]?=some a->ps[i+1]?=some b->ps[i+2]?=some c->btw a b c=false
 | [],_,i,a,b,c,h,_,_=>by cases h
 | [x],_,i,a,b,c,_,h,_=>by cases h
 | [x,y],_,i,a,b,c,_,_,h=>by
  have:=(List.getElem?_eq_some_iff.mp h).1
  simp at this
  omega
 | x::y::z::r,h,0,a,b,c,h1,h2,h3=>by
  cases h1
  cases h2
  cases h3
  exact h.1
 | x::y::z::r,h,i+1,a,b,c,h1,h2,h3=>zDb (ps:=y::z::r) h.2 (i:=i) h1 h2 h3
theorem zEl:∀ {ps:List Pt},(∀ (i:Nat) (a b c:Pt),ps[i]?=some a->ps[i+1]?=some b->ps[i+2]?=some c->btw a b c=false)->zCZ ps
 | [],_=>trivial
 | [x],_=>trivial
 | [x,y],_=>trivial
 | x::y::z::r,h=>⟨h 0 x y z rfl rfl rfl,zEl fun i a b c h1 h2 h3=>h (i+1) a b c h1 h2 h3⟩
theorem zGH {ps:List Pt} {e p:Pt} {i:Nat} (h:ps[i]?=some p):(trn ps e)[ps.length - 1 - i]?=some (e.1 - p.1,e.2 - p.2):=by
 have hi:=(List.getElem?_eq_some_iff.mp h).1
 unfold trn
 rw [List.getElem?_map,List.getElem?_reverse (by omega),show ps.length - 1 - (ps.length - 1 - i)=i by omega,h]
 rfl
theorem yJ {ps:List Pt} {e u:Pt} {i:Nat} (h:(trn ps e)[i]?=some u):i < ps.length/\∃ p,ps[ps.length - 1 - i]?=some p/\u=(e.1 - p.1,e.2 - p.2):=by
 unfold trn at h
 rw [List.getElem?_map] at h
 cases hp:ps.reverse[i]? with
 | none=>rw [hp] at h;cases h
 | some p=>
  rw [hp] at h
  cases h
  have hi:=(List.getElem?_eq_some_iff.mp hp).1
  rw [List.length_reverse] at hi
  rw [List.getElem?_reverse hi] at hp
  exact ⟨hi,p,hp,rfl⟩
theorem zDu {ps:List Pt} {e:Pt} (h:zHD ps) (he:ps.getLast?=some e):zHD (trn ps e):=by
 refine ⟨⟨?_,?_⟩,?_⟩
 ·unfold trn
  rw [List.head?_map,List.head?_reverse,he]
  show some (e.1 - e.1,e.2 - e.2)=_
  rw [Rat.sub_self,Rat.sub_self]
 ·unfold trn
  refine List.pairwise_map.mpr (List.pairwise_reverse.mpr (h.1.2.imp fun {a b} hab=>?_))
  exact ⟨by show e.1 - b.1 < e.1 - a.1;have:=hab.1;grind,by show e.2 - b.2<=e.2 - a.2;have:=hab.2;grind⟩
 ·refine zEl fun i a b c h1 h2 h3=>?_
  obtain ⟨l1,p,hp,rfl⟩:=yJ h1
  obtain ⟨l2,q,hq,rfl⟩:=yJ h2
  obtain ⟨l3,r,hr,rfl⟩:=yJ h3
  have nb:=zDb h.2 (i:=ps.length - 1 - (i+2)) hr (by rw [show ps.length - 1 - (i+2)+1=ps.length - 1 - (i+1) by omega];exact hq) (by rw [show ps.length - 1 - (i+2)+2=ps.length - 1 - i by omega];exact hp)
  have nb:=of_decide_eq_false nb
  refine decide_eq_false fun z=>nb ?_
  grind
theorem zJR {ps:List Pt} {e:Pt} (h:zHD ps) (he:ps.getLast?=some e) {x:Rat} (h0:0<=x) (h1:x<=e.1):dB (trn ps e) x=e.2 - dB ps (e.1 - x):=by
 have ht:=(zDu h he).1.2
 rcases zGx h.1.2 he (x:=e.1 - x) (fun p hp=>by rw [h.1.1] at hp;cases hp;show (0:Rat)<=e.1 - x;grind) (by grind) with ⟨i,p,ip,ep⟩ | ⟨i,p,q,ip,iq,lp,lq⟩
 ·have:=fR ht (zGH (e:=e) ip)
  rw [show x=(e.1 - p.1,e.2 - p.2).1 by show x=e.1 - p.1;grind,this,show e.1 - (e.1 - p.1,e.2 - p.2).1=p.1 by show e.1 - (e.1 - p.1)=p.1;grind,fR h.1.2 ip]
 ·have hi:=(List.getElem?_eq_some_iff.mp iq).1
  have tq:=zGH (e:=e) iq
  have tp:=zGH (e:=e) ip
  rw [show ps.length - 1 - i=ps.length - 1 - (i+1)+1 by omega] at tp
  rw [kQ ht tq tp (by show e.1 - q.1<=x;grind) (by show x<=e.1 - p.1;grind),kQ h.1.2 ip iq (Rat.le_of_lt lp) (Rat.le_of_lt lq)]
  have pq:=qL h.1.2 (Nat.lt_succ_self i) ip iq
  have n:q.1 - p.1≠0:=by have:=pq.1;grind
  unfold itp
  dsimp only
  rw [show e.1 - p.1 - (e.1 - q.1)=q.1 - p.1 by grind,Rat.div_def,Rat.div_def]
  have i1:=Rat.mul_inv_cancel _ n
  generalize (q.1 - p.1)⁻¹=w at i1
  grind
end Ln
namespace L3
open PySem PySem.Spec PyProof.Rows L2
abbrev St:=L2.St
mutual
inductive IsD (K:PySem.W.Frag) (H:Hp):V->D->Prop where
 | non:IsD K H .non .non
 | bl (b:Bool):IsD K H (.bl b) (.bl b)
 | int (i:Int):IsD K H (.int i) (.int i)
 | str (x:Str):IsD K H (.str x) (.str x)
 | tup {a:Addr} {xs:List V} {ds:List D}:SqT K H a xs->IsDs K H xs ds->IsD K H (.ref a) (.tup ds)
 | lst {a:Addr} {xs:List V} {ds:List D}:SqL K H a xs->IsDs K H xs ds->IsD K H (.ref a) (.lst ds)
inductive IsDs (K:PySem.W.Frag) (H:Hp):List V->List D->Prop where
 | nil:IsDs K H [] []
 | cons {v:V} {d:D} {vs:List V} {ds:List D}:IsD K H v d->IsDs K H vs ds->IsDs K H (v::vs) (d::ds)
end
theorem _root_.L2.Same.rd {H H':Hp} (e:Same H H') {a:Addr} {u:HO} (h:Rd H a u):Rd H' a u:=by
 rcases h with h | ⟨o,h⟩
 ·exact .inl (e _ _ h)
 ·exact .inr ⟨o,e _ _ h⟩
theorem bX {K:PySem.W.Frag} {H H':Hp} (e:Same H H') {a:Addr} {xs:List V} (h:SqT K H a xs):SqT K H' a xs:=h.imp (Same.rd e) id
theorem cO {K:PySem.W.Frag} {H H':Hp} (e:Same H H') {a:Addr} {xs:List V} (h:SqL K H a xs):SqL K H' a xs:=h.imp (Same.rd e) id
section
variable {K:PySem.W.Frag} {H H':Hp}
mutual
theorem IsD.mono (e:Same H H'):∀ {v:V} {d:D},IsD K H v d->IsD K H' v d
 | _,_,.non=>.non
 | _,_,.bl b=>.bl b
 | _,_,.int i=>.int i
 | _,_,.str x=>.str x
 | _,_,.tup h hs=>.tup (bX e h) (IsDs.mono e hs)
 | _,_,.lst h hs=>.lst (cO e h) (IsDs.mono e hs)
theorem IsDs.mono (e:Same H H'):∀ {vs:List V} {ds:List D},IsDs K H vs ds->IsDs K H' vs ds
 | _,_,.nil=>.nil
 | _,_,.cons h hs=>.cons (IsD.mono e h) (IsDs.mono e hs)
end
theorem IsDs.length:∀ {vs:List V} {ds:List D},IsDs K H vs ds->vs.length=ds.length
 | _,_,.nil=>rfl
 | _,_,.cons _ hs=>by rw [List.length_cons,List.length_cons,IsDs.length hs]
theorem IsDs.at:∀ {vs:List V} {ds:List D} {j:Nat} {d:D},IsDs K H vs ds->ds[j]?=some d->∃ v,vs[j]?=some v/\IsD K H v d
 | _,_,_,_,.nil,e=>by simp at e
 | _,_,0,_,.cons r _,e=>by simp at e;subst e;exact ⟨_,rfl,r⟩
 | _,_,j+1,d,.cons _ t,e=>by
  obtain ⟨v,h1,h2⟩:=IsDs.at (j:=j) (d:=d) t (by simpa using e)
  exact ⟨v,by simpa using h1,h2⟩
theorem IsDs.append:∀ {vs ws:List V} {ds es:List D},IsDs K H vs ds->IsDs K H ws es->IsDs K H (vs++ws) (ds++es)
 | _,_,_,_,.nil,s=>s
 | _,_,_,_,.cons r t,s=>.cons r (IsDs.append t s)
theorem IsDs.take:∀ {vs:List V} {ds:List D} (n:Nat),IsDs K H vs ds->IsDs K H (vs.take n) (ds.take n)
 | _,_,0,_=>.nil
 | _,_,_+1,.nil=>.nil
 | _,_,n+1,.cons r t=>.cons r (IsDs.take n t)
theorem IsDs.drop:∀ {vs:List V} {ds:List D} (n:Nat),IsDs K H vs ds->IsDs K H (vs.drop n) (ds.drop n)
 | _,_,0,r=>r
 | _,_,_+1,.nil=>.nil
 | _,_,n+1,.cons _ t=>IsDs.drop n t
theorem IsDs.dropLast:∀ {vs:List V} {ds:List D},IsDs K H vs ds->IsDs K H vs.dropLast ds.dropLast
 | _,_,.nil=>.nil
 | _,_,.cons _ .nil=>.nil
 | _,_,.cons r (.cons q t)=>.cons r (IsDs.dropLast (.cons q t))
theorem IsDs.set {v:V} {d:D} (h:IsD K H v d):∀ {vs:List V} {ds:List D} (j:Nat),IsDs K H vs ds->IsDs K H (vs.set j v) (ds.set j d)
 | _,_,_,.nil=>.nil
 | _,_,0,.cons _ t=>.cons h t
 | _,_,j+1,.cons q t=>.cons q (IsDs.set h j t)
mutual
theorem IsD.noL (k:∀ b xs,Rd H b (.tup xs)->Rd H' b (.tup xs)):∀ {v:V} {d:D},IsD K H v d->L3.noL d=true->IsD K H' v d
 | _,_,.non,_=>.non
 | _,_,.bl b,_=>.bl b
 | _,_,.int i,_=>.int i
 | _,_,.str x,_=>.str x
 | _,_,.tup h hs,e=>.tup (h.imp (k _ _) id) (IsDs.noL k hs (by rw [L3.noL] at e;exact e))
 | _,_,.lst h hs,e=>by rw [L3.noL] at e;cases e
theorem IsDs.noL (k:∀ b xs,Rd H b (.tup xs)->Rd H' b (.tup xs)):∀ {vs:List V} {ds:List D},IsDs K H vs ds->L3.noLs ds=true->IsDs K H' vs ds
 | _,_,.nil,_=>.nil
 | _,_,.cons h hs,e=>by
  rw [L3.noLs,Bool.and_eq_true] at e
  exact .cons (IsD.noL k h e.1) (IsDs.noL k hs e.2)
end
end
theorem IsD.intI {K:PySem.W.Frag} {H:Hp} {v:V} {i:Int} (h:IsD K H v (.int i)):v=.int i:=by cases h;rfl
theorem IsD.blI {K:PySem.W.Frag} {H:Hp} {v:V} {b:Bool} (h:IsD K H v (.bl b)):v=.bl b:=by cases h;rfl
theorem IsD.strI {K:PySem.W.Frag} {H:Hp} {v:V} {x:Str} (h:IsD K H v (.str x)):v=.str x:=by cases h;rfl
theorem IsD.tupI {K:PySem.W.Frag} {H:Hp} {v:V} {ds:List D} (h:IsD K H v (.tup ds)):∃ a xs,v=.ref a/\SqT K H a xs/\IsDs K H xs ds:=by
 cases h with
 | tup h hs=>exact ⟨_,_,rfl,h,hs⟩
theorem IsD.lstI {K:PySem.W.Frag} {H:Hp} {v:V} {ds:List D} (h:IsD K H v (.lst ds)):∃ a xs,v=.ref a/\SqL K H a xs/\IsDs K H xs ds:=by
 cases h with
 | lst h hs=>exact ⟨_,_,rfl,h,hs⟩
def qT:Str := "ranked.<locals>.<lambda>"
def zAv (P:Addr) (H:Hp):Prop:=∃ ps,H P=some (.tbl ps)/\TriplesOk ps.toList/\∀ (pos:Pos) (cv:Value),codeAmong pos ps.toList=some cv->∃ c oc vs t u,cv=.ref c/\H c=some (.frz oc u)/\oc.data=.fields vs/\vs[1]?=some (.str qT t)
theorem zAv.put {P a:Addr} {H:Hp} {x:HO} (h:zAv P H) (h1:∀ ps,H a≠some (.tbl ps)) (h2:∀ o u,H a≠some (.frz o u)):zAv P (upd H a x):=by
 obtain ⟨ps,e,t,k⟩:=h
 refine ⟨ps,by rw [bC (show P≠a from fun z=>h1 ps (by rw [<-z];exact e))];exact e,t,fun pos cv q=>?_⟩
 obtain ⟨c,oc,vs,tk,u,r1,r2,r3⟩:=k pos cv q
 exact ⟨c,oc,vs,tk,u,r1,by rw [bC (show c≠a from fun z=>h2 oc u (by rw [<-z];exact r2))];exact r2,r3⟩
structure Keep (H H':Hp):Prop where
 k:∀ b o,H b=some o->H' b=some o∨∃ ps ps',o=.tbl ps/\H' b=some (.tbl ps')
 t:∀ P,zAv P H->zAv P H'
theorem Keep.refl (H:Hp):Keep H H:=⟨fun _ _ e=>.inl e,fun _ e=>e⟩
theorem Keep.trans {H H1 H2:Hp} (a:Keep H H1) (b:Keep H1 H2):Keep H H2:=
 ⟨fun c o e=>by
  rcases a.k c o e with z | ⟨ps,ps',rfl,z⟩
  ·exact b.k c o z
  ·rcases b.k c _ z with y | ⟨qs,qs',_,y⟩
   ·exact .inr ⟨ps,ps',rfl,y⟩
   ·exact .inr ⟨ps,qs',rfl,y⟩,fun P e=>b.t P (a.t P e)⟩
theorem Keep.at {H H':Hp} (k:Keep H H') {b:Addr} {o:HO} (e:H b=some o) (ho:∀ ps,o≠.tbl ps:=by intro ps z;cases z):H' b=some o:=by
 rcases k.k b o e with z | ⟨ps,ps',z,_⟩
 ·exact z
 ·exact absurd z (ho ps)
theorem Keep.none {H H':Hp} (k:Keep H H') {p:Addr} (e:H' p=none):H p=none:=by
 cases z:H p with
 | none=>rfl
 | some o=>rcases k.k p o z with y | ⟨_,_,_,y⟩<;>(rw [y] at e;cases e)
structure Ext (Hi H Hi' H':Hp):Prop where
 i:Same Hi Hi'
 h:Keep H H'
 s:Same Hi' H'
 n:∀ b,Hi b=none->Hi' b≠none->H b=none
theorem Ext.refl {Hi H:Hp} (h:Same Hi H):Ext Hi H Hi H:=⟨Same.refl _,Keep.refl _,h,fun _ e q=>absurd e q⟩
theorem Ext.trans {Hi H Hi1 H1 Hi2 H2:Hp} (a:Ext Hi H Hi1 H1) (b:Ext Hi1 H1 Hi2 H2):Ext Hi H Hi2 H2:=
 ⟨a.i.trans b.i,a.h.trans b.h,b.s,fun c e q=>by
  cases z:Hi1 c with
  | some o=>exact a.n c e (by rw [z];exact fun w=>by cases w)
  | none=>
   have z2:=b.n c z q
   exact a.h.none z2⟩
theorem dA {H:Hp} {p:Addr} (h:H p=none) (o:HO):Same H (upd H p o):=fun b u q=>by rw [bC (bB q h)];exact q
theorem zCL {H:Hp} {p:Addr} (h:H p=none) (o:HO):Keep H (upd H p o):=⟨fun b u q=>.inl (dA h o b u q),fun P e=>e.put (fun ps z=>by rw [h] at z;cases z) (fun ob u z=>by rw [h] at z;cases z)⟩
theorem _root_.L2.Same.none {H H':Hp} (h:Same H H') {p:Addr} (e:H' p=none):H p=none:=by
 cases z:H p with
 | none=>rfl
 | some o=>rw [h _ _ z] at e;cases e
theorem Ext.new {Hi H:Hp} {p:Addr} {o:HO} (h:Same Hi H) (hp:H p=none):Ext Hi H (upd Hi p o) (upd H p o) where
 i:=dA (h.none hp) o
 h:=zCL hp o
 s:=fun b u q=>by
  by_cases e:b=p
  ·subst e;rw [aZ] at q ⊢;exact q
  ·rw [bC e] at q ⊢;exact h _ _ q
 n:=fun b e q=>by
  by_cases z:b=p
  ·rw [z];exact hp
  ·rw [bC z] at q;exact absurd e q
theorem Ext.newF {Hi H:Hp} {p:Addr} {o:HO} (h:Same Hi H) (hp:H p=none):Ext Hi H Hi (upd H p o) where
 i:=Same.refl _
 h:=zCL hp o
 s:=h.trans (dA hp o)
 n:=fun b e q=>absurd e q
theorem Ext.out {Hi H Hi' H':Hp} (e:Ext Hi H Hi' H') {a:Addr} {o:HO} (h:H a=some o) (hi:Hi a=none) (ho:∀ ps,o≠.tbl ps:=by intro ps z;cases z):H' a=some o/\Hi' a=none:=by
 refine ⟨e.h.at h ho,?_⟩
 cases z:Hi' a with
 | none=>rfl
 | some u=>have:=e.n a hi (by rw [z];exact fun w=>by cases w);rw [h] at this;cases this
theorem Ext.hold {Hi H Hi' H':Hp} (e:Ext Hi H Hi' H') {a:Addr} {o:HO} (hn:H a=none) (h:H' a=some o) (hi:Hi' a=none):Ext Hi H (upd Hi' a o) H' where
 i:=e.i.trans (dA hi o)
 h:=e.h
 s:=fun b u q=>by
  by_cases z:b=a
  ·subst z;rw [aZ] at q;cases q;exact h
  ·rw [bC z] at q;exact e.s _ _ q
 n:=fun b z q=>by
  by_cases w:b=a
  ·rw [w];exact hn
  ·rw [bC w] at q;exact e.n b z q
def zNI (a C:Addr):Heap->Prop:=fun h=>∃ o vs,h.get? a=some o/\o.cls=.ref C/\o.data=.fields vs
def kvT (T:List (Str×Str)):List (Key×V):=T.map fun q=>(Sum.inr q.1,V.str q.2)
def zDl (K:PySem.W.Frag) (mg:Str->Option Value) (B Hi H:Hp) (o:Option (Option V)):Sl->Prop
 | .un=>True
 | .val d=>∃ v,o=some (some v)/\IsD K Hi v d
 | .own ds=>∃ a xs,o=some (some (.ref a))/\H a=some (.lst xs)/\Hi a=none/\B a=none/\IsDs K Hi xs ds
 | .exc c=>∃ a C,o=some (some (.ref a))/\H a=some (.ext (zNI a C))/\Hi a=none/\B a=none/\mg c=some (.ref C)
 | .tab T=>∃ a,o=some (some (.ref a))/\Hi a=some (.dK (kvT T))
structure Rel (K:PySem.W.Frag) (mg:Str->Option Value) (B Bi Hi H:Hp) (σ:St) (ρ:Rho):Prop where
 len:σ.length=ρ.length
 ext:Ext Bi B Hi H
 slot:∀ (i:Nat) (s:Sl),ρ[i]?=some s->zDl K mg B Hi H σ[i]? s
 dist:∀ (i j:Nat) (a:Addr) (ds es:List D),ρ[i]?=some (.own ds)->ρ[j]?=some (.own es)->σ[i]?=some (some (.ref a))->σ[j]?=some (some (.ref a))->i=j
section
variable {K:PySem.W.Frag} {mg:Str->Option Value} {B Bi Hi H Hi' H':Hp} {σ:St} {ρ:Rho}
theorem zDl.ext {o:Option (Option V)} {s:Sl} (h:zDl K mg B Hi H o s) (e:Ext Hi H Hi' H'):zDl K mg B Hi' H' o s:=by
 cases s with
 | un=>trivial
 | val d=>obtain ⟨v,q,r⟩:=h;exact ⟨v,q,r.mono e.i⟩
 | own ds=>
  obtain ⟨a,xs,q,h1,h2,h3,h4⟩:=h
  obtain ⟨e1,e2⟩:=e.out h1 h2
  exact ⟨a,xs,q,e1,e2,h3,h4.mono e.i⟩
 | exc c=>
  obtain ⟨a,C,q,h1,h2,h3,h4⟩:=h
  obtain ⟨e1,e2⟩:=e.out h1 h2
  exact ⟨a,C,q,e1,e2,h3,h4⟩
 | tab T=>obtain ⟨a,q,h1⟩:=h;exact ⟨a,q,e.i _ _ h1⟩
theorem Rel.grow (R:Rel K mg B Bi Hi H σ ρ) (e:Ext Hi H Hi' H'):Rel K mg B Bi Hi' H' σ ρ:=⟨R.len,R.ext.trans e,fun i s q=>(R.slot i s q).ext e,R.dist⟩
theorem Rel.s (R:Rel K mg B Bi Hi H σ ρ):Same Hi H:=R.ext.s
theorem Rel.set {i:Nat} {v:V} {d:D} (R:Rel K mg B Bi Hi H σ ρ) (h:IsD K Hi v d):Rel K mg B Bi Hi H (σ.set i (some v)) (ρ.set i (.val d)) where
 len:=by rw [List.length_set,List.length_set];exact R.len
 ext:=R.ext
 slot:=fun j s q=>by
  by_cases e:i=j
  ·subst e
   by_cases hl:i < ρ.length
   ·rw [List.getElem?_set_self hl] at q;cases q
    exact ⟨v,by rw [List.getElem?_set_self (by rw [R.len];exact hl)],h⟩
   ·rw [List.getElem?_eq_none (by rw [List.length_set];omega)] at q;cases q
  ·rw [List.getElem?_set_ne e] at q ⊢
   exact R.slot j s q
 dist:=fun j k a ds es q1 q2 q3 q4=>by
  have h1:∀ {j:Nat} {ds:List D},(ρ.set i (.val d))[j]?=some (.own ds)->i≠j:=fun {j ds} q e=>by
   subst e
   by_cases hl:i < ρ.length
   ·rw [List.getElem?_set_self hl] at q;cases q
   ·rw [List.getElem?_eq_none (by rw [List.length_set];omega)] at q;cases q
  have n1:=h1 q1
  have n2:=h1 q2
  rw [List.getElem?_set_ne n1] at q1 q3
  rw [List.getElem?_set_ne n2] at q2 q4
  exact R.dist j k a ds es q1 q2 q3 q4
theorem Rel.setOwn {i:Nat} {a:Addr} {xs:List V} {ds:List D} (R:Rel K mg B Bi Hi H σ ρ) (e:Ext Hi H Hi' H') (hn:H a=none) (h:H' a=some (.lst xs)) (hi:Hi' a=none) (hs:IsDs K Hi' xs ds):
  Rel K mg B Bi Hi' H' (σ.set i (some (.ref a))) (ρ.set i (.own ds)) where
 len:=by rw [List.length_set,List.length_set];exact R.len
 ext:=R.ext.trans e
 slot:=fun j s q=>by
  by_cases z:i=j
  ·subst z
   by_cases hl:i < ρ.length
   ·rw [List.getElem?_set_self hl] at q;cases q
    exact ⟨a,xs,by rw [List.getElem?_set_self (by rw [R.len];exact hl)],h,hi,R.ext.h.none hn,hs⟩
   ·rw [List.getElem?_eq_none (by rw [List.length_set];omega)] at q;cases q
  ·rw [List.getElem?_set_ne z] at q ⊢
   exact (R.slot j s q).ext e
 dist:=fun j k b es fs q1 q2 q3 q4=>by
  have h1:∀ {j:Nat} {es:List D},i≠j->ρ[j]?=some (.own es)->σ[j]?=some (some (.ref a))->False:=fun {j es} _ p1 p2=>by
   obtain ⟨a',xs',q,h1,_⟩:=R.slot j _ p1
   rw [p2] at q
   cases q
   rw [hn] at h1;cases h1
  have h2:∀ {j:Nat} {es:List D},(ρ.set i (.own ds))[j]?=some (.own es)->i < σ.length∨i≠j:=fun {j es} p=>by
   by_cases z:i=j
   ·subst z
    by_cases hl:i < ρ.length
    ·exact .inl (by rw [R.len];exact hl)
    ·rw [List.getElem?_eq_none (by rw [List.length_set];omega)] at p;cases p
   ·exact .inr z
  by_cases z1:i=j
  ·by_cases z2:i=k
   ·rw [<-z1,<-z2]
   ·exfalso
    subst z1
    have hl:i < σ.length:=(h2 q1).resolve_right (fun w=>w rfl)
    rw [List.getElem?_set_self hl] at q3;cases q3
    rw [List.getElem?_set_ne z2] at q2 q4
    exact h1 z2 q2 q4
  ·by_cases z2:i=k
   ·exfalso
    subst z2
    have hl:i < σ.length:=(h2 q2).resolve_right (fun w=>w rfl)
    rw [List.getElem?_set_self hl] at q4;cases q4
    rw [List.getElem?_set_ne z1] at q1 q3
    exact h1 z1 q1 q3
   ·rw [List.getElem?_set_ne z1] at q1 q3
    rw [List.getElem?_set_ne z2] at q2 q4
    exact R.dist j k b es fs q1 q2 q3 q4
theorem Rel.write {i:Nat} {a:Addr} {ys:List V} {ds es:List D} (R:Rel K mg B Bi Hi H σ ρ) (e:ρ[i]?=some (.own ds)) (ea:σ[i]?=some (some (.ref a))) (hs:IsDs K Hi ys es):
  Rel K mg B Bi Hi (upd H a (.lst ys)) σ (ρ.set i (.own es)):=by
 obtain ⟨a',xs',q,h1,h2,h3,h4⟩:=R.slot i _ e
 rw [ea] at q
 cases q
 have hl:i < ρ.length:=by
  by_cases hl:i < ρ.length
  ·exact hl
  ·rw [List.getElem?_eq_none (by omega)] at e;cases e
 refine ⟨by rw [List.length_set];exact R.len,⟨R.ext.i,⟨fun b o z=>?_,fun P z=>(R.ext.h.t P z).put (fun ps y=>by rw [h1] at y;cases y) (fun ob u y=>by rw [h1] at y;cases y)⟩,fun b o z=>?_,R.ext.n⟩,fun j s z=>?_,fun j k b fs gs q1 q2 q3 q4=>?_⟩
 ·rw [bC (bB z h3)];exact R.ext.h.k _ _ z
 ·rw [bC (bB z h2)];exact R.ext.s _ _ z
 ·by_cases w:i=j
  ·subst w
   rw [List.getElem?_set_self hl] at z;cases z
   exact ⟨a,ys,ea,aZ,h2,h3,hs⟩
  ·rw [List.getElem?_set_ne w] at z
   have S:=R.slot j s z
   cases s with
   | un=>trivial
   | val d=>exact S
   | own fs=>
    obtain ⟨b,zs,p,g1,g2,g3,g4⟩:=S
    have hb:b≠a:=fun c=>w (R.dist i j a ds fs e z ea (by rw [p,c]))
    exact ⟨b,zs,p,by rw [bC hb];exact g1,g2,g3,g4⟩
   | exc c=>
    obtain ⟨b,C,p,g1,g2,g3,g4⟩:=S
    have hb:b≠a:=zNE g1 h1 (by intro z;cases z)
    exact ⟨b,C,p,by rw [bC hb];exact g1,g2,g3,g4⟩
   | tab T=>exact S
 ·have own:∀ {j:Nat} {fs:List D},(ρ.set i (.own es))[j]?=some (.own fs)->∃ gs,ρ[j]?=some (.own gs):=fun {j fs} p=>by
   by_cases w:i=j
   ·subst w;exact ⟨ds,e⟩
   ·rw [List.getElem?_set_ne w] at p;exact ⟨fs,p⟩
  obtain ⟨fs',q1'⟩:=own q1
  obtain ⟨gs',q2'⟩:=own q2
  exact R.dist j k b fs' gs' q1' q2' q3 q4
end
end L3
namespace L3
open PySem PySem.Spec PyProof.Rows L2
section
variable {K:PySem.W.Frag} {mg:Str->Option Value} {B Bi Hi H Hi' H':Hp} {σ:St} {ρ:Rho}
theorem Rel.frz (R:Rel K mg B Bi Hi H σ ρ):∃ Hf,Same Hi Hf/\Rel K mg B Bi Hf H σ (ρ.map Sl.frz)/\∀ b,Hi b=none->Hf b≠none->∃ xs,Hf b=some (.lst xs):=by
 let own:Addr->Prop:=fun b=>∃ (i:Nat) (ds:List D),ρ[i]?=some (.own ds)/\σ[i]?=some (some (.ref b))
 have dec:∀ b,Decidable (own b):=fun b=>Classical.propDecidable _
 let Hf:Hp:=fun b=>match Hi b with
  | some o=>some o
  | none=>if own b then H b else none
 have hf1:∀ b o,Hi b=some o->Hf b=some o:=fun b o e=>by show (match Hi b with | some o=>some o | none=>if own b then H b else none)=_;rw [e]
 have hf2:∀ b,Hi b=none->own b->Hf b=H b:=fun b e z=>by show (match Hi b with | some o=>some o | none=>if own b then H b else none)=_;rw [e];exact if_pos z
 have hf3:∀ b,Hi b=none->¬ own b->Hf b=none:=fun b e z=>by show (match Hi b with | some o=>some o | none=>if own b then H b else none)=_;rw [e];exact if_neg z
 have lst:∀ b,own b->∃ xs,H b=some (.lst xs)/\Hi b=none/\B b=none:=fun b ⟨i,ds,e1,e2⟩=>by
  obtain ⟨a,xs,q,h1,h2,h3,h4⟩:=R.slot i _ e1
  rw [e2] at q;cases q
  exact ⟨xs,h1,h2,h3⟩
 have ss:Same Hf H:=fun b o z=>by
  cases q:Hi b with
  | some u=>rw [hf1 b u q] at z;cases z;exact R.s _ _ q
  | none=>
   by_cases w:own b
   ·rw [hf2 b q w] at z;exact z
   ·rw [hf3 b q w] at z;cases z
 refine ⟨Hf,hf1,⟨by rw [List.length_map];exact R.len,⟨R.ext.i.trans hf1,R.ext.h,ss,fun b z w=>?_⟩,fun j s z=>?_,fun j k b fs gs q1 q2 q3 q4=>?_⟩,fun b z w=>?_⟩
 ·cases q:Hi b with
  | some u=>exact R.ext.n b z (by rw [q];exact fun c=>by cases c)
  | none=>
   by_cases c:own b
   ·exact (lst b c).choose_spec.2.2
   ·exact absurd (hf3 b q c) w
 ·rw [List.getElem?_map] at z
  cases e:ρ[j]? with
  | none=>rw [e] at z;cases z
  | some t=>
   rw [e] at z
   cases z
   have S:=R.slot j t e
   cases t with
   | un=>trivial
   | val d=>obtain ⟨v,p,r⟩:=S;exact ⟨v,p,r.mono hf1⟩
   | own ds=>
    obtain ⟨a,xs,q,h1,h2,h3,h4⟩:=S
    exact ⟨.ref a,q,.lst (SqL.of (by rw [hf2 a h2 ⟨j,ds,e,q⟩];exact h1)) (h4.mono hf1)⟩
   | exc c=>
    obtain ⟨a,C,q,h1,h2,h3,h4⟩:=S
    refine ⟨a,C,q,h1,?_,h3,h4⟩
    refine hf3 a h2 fun c=>?_
    obtain ⟨xs,g,_⟩:=lst a c
    rw [h1] at g;cases g
   | tab T=>obtain ⟨a,q,h1⟩:=S;exact ⟨a,q,hf1 _ _ h1⟩
 ·exfalso
  rw [List.getElem?_map] at q1
  cases e:ρ[j]? with
  | none=>rw [e] at q1;cases q1
  | some t=>rw [e] at q1;cases t<;>cases q1
 ·by_cases c:own b
  ·obtain ⟨xs,g,_⟩:=lst b c
   exact ⟨xs,by rw [hf2 b z c];exact g⟩
  ·exact absurd (hf3 b z c) w
theorem Ext.thaw {Hf:Hp} (s:Same Hi Hf) (fl:∀ b,Hi b=none->Hf b≠none->∃ xs,Hf b=some (.lst xs)) (hs:Same Hf H) (e:Ext Hf H Hi' H'):
  ∃ Ht,Ext Hi H Ht H'/\(∀ b xs,Rd Hi' b (.tup xs)->Rd Ht b (.tup xs))/\Same Ht Hi'/\∀ b,Ht b=none->Hi' b=none∨∃ xs,H b=some (.lst xs):=by
 have dec:∀ b,Decidable (Hi b=none/\Hf b≠none):=fun b=>Classical.propDecidable _
 let Ht:Hp:=fun b=>if Hi b=none/\Hf b≠none then none else Hi' b
 have t1:∀ b,¬ (Hi b=none/\Hf b≠none)->Ht b=Hi' b:=fun b z=>if_neg z
 have t2:∀ b,(Hi b=none/\Hf b≠none)->Ht b=none:=fun b z=>if_pos z
 have tt:Same Ht Hi':=fun b o z=>by
  by_cases w:Hi b=none/\Hf b≠none
  ·rw [t2 b w] at z;cases z
  ·rw [t1 b w] at z;exact z
 refine ⟨Ht,⟨fun b o z=>?_,e.h,tt.trans e.s,fun b z w=>?_⟩,fun b xs r=>?_,tt,fun b z=>?_⟩
 ·rw [t1 b (fun w=>by rw [z] at w;cases w.1)];exact e.i _ _ (s _ _ z)
 ·by_cases c:Hi b=none/\Hf b≠none
  ·exact absurd (t2 b c) w
  ·rw [t1 b c] at w
   have:Hf b=none:=by
    cases q:Hf b with
    | none=>rfl
    | some u=>exact absurd ⟨z,by rw [q];exact fun c=>by cases c⟩ c
   exact e.n b this w
 ·have nl:¬ (Hi b=none/\Hf b≠none):=fun w=>by
   obtain ⟨ys,g⟩:=fl b w.1 w.2
   have g':=e.i _ _ g
   rcases r with r | ⟨o,r⟩<;>(rw [g'] at r;cases r)
  rcases r with r | ⟨o,r⟩
  ·exact .inl (by rw [t1 b nl];exact r)
  ·exact .inr ⟨o,by rw [t1 b nl];exact r⟩
 ·by_cases c:Hi b=none/\Hf b≠none
  ·obtain ⟨ys,g⟩:=fl b c.1 c.2
   exact .inr ⟨ys,hs _ _ g⟩
  ·exact .inl (by rw [t1 b c] at z;exact z)
end
structure Gx where
 B:Hp
 Bi:Hp
 E:Str->Hp->Prop
abbrev kL (X:Cx) (G:Gx) (Hi H:Hp) (σ:St) (ρ:Rho):Prop:=Rel X.K X.mg G.B G.Bi Hi H σ ρ
def Out (G:Gx) (Hi H:Hp) {α:Type} (r:Res α) (k:α->Hp->Hp->Prop):Prop:=match r with
 | .ok a=>∀ Hi' H',Ext Hi H Hi' H'->k a Hi' H'
 | .err c=>∀ Hi' H',Ext Hi H Hi' H'->G.E c H'
 | .no=>False
theorem Out.bind {G:Gx} {Hi H:Hp} {α β:Type} {r:Res α} {f:α->Res β} {k:β->Hp->Hp->Prop} (h:Out G Hi H (r.bind f) k):
  Out G Hi H r fun a Hi' H'=>Out G Hi' H' (f a) k:=by
 cases r with
 | no=>exact h
 | err c=>exact h
 | ok a=>
  intro Hi1 H1 e
  have h':Out G Hi H (f a) k:=h
  show Out G Hi1 H1 (f a) k
  cases q:f a with
  | no=>rw [q] at h';exact h'
  | err c=>rw [q] at h';exact fun Hi2 H2 e2=>h' _ _ (e.trans e2)
  | ok b=>rw [q] at h';exact fun Hi2 H2 e2=>h' _ _ (e.trans e2)
theorem Out.imp {G:Gx} {Hi H:Hp} {α:Type} {r:Res α} {k k':α->Hp->Hp->Prop} (h:Out G Hi H r k) (f:∀ a Hi' H',Ext Hi H Hi' H'->k a Hi' H'->k' a Hi' H'):Out G Hi H r k':=by
 cases r with
 | no=>exact h
 | err c=>exact h
 | ok a=>exact fun Hi1 H1 e=>f a Hi1 H1 e (h Hi1 H1 e)
theorem Out.here {G:Gx} {Hi H:Hp} {α:Type} {a:α} {k:α->Hp->Hp->Prop} (h:Out G Hi H (.ok a) k) (s:Same Hi H):k a Hi H:=h Hi H (Ext.refl s)
def tD (X:Cx) (G:Gx) (f:Ev):TE:=fun σ H Q=>∃ ρ Hi,kL X G Hi H σ ρ/\Out G Hi H (f ρ) fun d Hi' H'=>∀ v,IsD X.K Hi' v d->Q v H'
def zHk (K:PySem.W.Frag) (H Hi' H':Hp) (a:Addr) (ds:List D):Prop:=H a=none/\Hi' a=none/\∃ xs,H' a=some (.lst xs)/\IsDs K Hi' xs ds
def tF (X:Cx) (G:Gx) (f:Fv):TE:=fun σ H Q=>∃ ρ Hi,kL X G Hi H σ ρ/\Out G Hi H (f ρ) fun ds Hi' H'=>∀ a,zHk X.K H Hi' H' a ds->Q (.ref a) H'
def tTb (X:Cx) (G:Gx) (f:Tv):TT:=fun σ H Q=>∃ ρ Hi,kL X G Hi H σ ρ/\Out G Hi H (f ρ) fun b _ H'=>Q b H'
def tAs (X:Cx) (G:Gx) (f:Fv):TA:=fun σ H Q=>∃ ρ Hi,kL X G Hi H σ ρ/\Out G Hi H (f ρ) fun ds Hi' H'=>∀ vs,IsDs X.K Hi' vs ds->Q vs H'
def Fin (X:Cx) (G:Gx) (Hi:Hp) (E:Ends) (r:Res Fl):Prop:=match r with
 | .ok (.nx ρ')=>∀ σ' Hi' H',Same Hi Hi'->kL X G Hi' H' σ' ρ'->E.nx σ' H'
 | .ok (.brk ρ')=>∀ σ' Hi' H',Same Hi Hi'->kL X G Hi' H' σ' ρ'->E.bk σ' H'
 | .ok (.ctn ρ')=>∀ σ' Hi' H',Same Hi Hi'->kL X G Hi' H' σ' ρ'->E.ct σ' H'
 | .ok (.ret (.v d))=>∀ v Hi' H',Ext G.Bi G.B Hi' H'->IsD X.K Hi' v d->E.rt v H'
 | .ok (.ret (.f ds))=>∀ a Hi' H',Ext G.Bi G.B Hi' H'->zHk X.K G.B Hi' H' a ds->E.rt (.ref a) H'
 | .err c=>∀ Hi' H',Ext G.Bi G.B Hi' H'->G.E c H'
 | .no=>False
theorem Fin.mono {X:Cx} {G:Gx} {Hi Hi':Hp} {E:Ends} {r:Res Fl} (h:Fin X G Hi E r) (s:Same Hi Hi'):Fin X G Hi' E r:=by
 cases r with
 | no=>exact h
 | err c=>exact h
 | ok f=>
  cases f with
  | nx ρ=>exact fun σ' Hi2 H2 s2=>h σ' Hi2 H2 (s.trans s2)
  | brk ρ=>exact fun σ' Hi2 H2 s2=>h σ' Hi2 H2 (s.trans s2)
  | ctn ρ=>exact fun σ' Hi2 H2 s2=>h σ' Hi2 H2 (s.trans s2)
  | ret r=>cases r<;>exact h
def tS (X:Cx) (G:Gx) (f:Sv):TS:=fun E σ H=>∃ ρ Hi,kL X G Hi H σ ρ/\Fin X G Hi E (f ρ)
@[irreducible] def PEd (X:Cx) (G:Gx) (e:Expr) (f:Ev):Prop:=PE X e (tD X G f)
unseal PEd
@[irreducible] def PEf (X:Cx) (G:Gx) (e:Expr) (f:Fv):Prop:=PE X e (tF X G f)
unseal PEf
@[irreducible] def PTd (X:Cx) (G:Gx) (e:Expr) (f:Tv):Prop:=PT X e (tTb X G f)
unseal PTd
@[irreducible] def PWd (X:Cx) (G:Gx) (e:Expr) (f:Tv):Prop:=PW X e (tTb X G f)
unseal PWd
@[irreducible] def PAd (X:Cx) (G:Gx) (es:List Expr) (f:Fv):Prop:=PA X es (tAs X G f)
unseal PAd
@[irreducible] def PSd (X:Cx) (G:Gx) (s:Stmt) (f:Sv):Prop:=PS X s (tS X G f)
unseal PSd
@[irreducible] def fG (X:Cx) (G:Gx) (s:List Stmt) (f:Sv):Prop:=PSs X s (tS X G f)
unseal fG
theorem PE.wk {X:Cx} {e:Expr} {t t':TE} (h:PE X e t) (w:∀ σ H Q,t' σ H Q->t σ H Q):PE X e t':=fun pins s σ H Q I q=>h pins s σ H Q I (w σ H Q q)
theorem PT.wk {X:Cx} {e:Expr} {t t':TT} (h:PT X e t) (w:∀ σ H Q,t' σ H Q->t σ H Q):PT X e t':=fun pins s σ H Q I q=>h pins s σ H Q I (w σ H Q q)
theorem PW.wk {X:Cx} {e:Expr} {t t':TT} (h:PW X e t) (w:∀ σ H Q,t' σ H Q->t σ H Q):PW X e t':=fun wh pins s σ H Q I q=>h wh pins s σ H Q I (w σ H Q q)
theorem PA.wk {X:Cx} {es:List Expr} {t t':TA} (h:PA X es t) (w:∀ σ H Q,t' σ H Q->t σ H Q):PA X es t':=fun pos pins s σ H Q I q=>h pos pins s σ H Q I (w σ H Q q)
theorem PS.wk {X:Cx} {s:Stmt} {t t':TS} (h:PS X s t) (w:∀ E σ H,t' E σ H->t E σ H):PS X s t':=fun pins s σ H E I q=>h pins s σ H E I (w E σ H q)
theorem PSs.wk {X:Cx} {s:List Stmt} {t t':TS} (h:PSs X s t) (w:∀ E σ H,t' E σ H->t E σ H):PSs X s t':=fun pins s σ H E I q=>h pins s σ H E I (w E σ H q)
section
variable {X:Cx} {G:Gx} {a b e:Expr} {es:List Expr} {pos:Pos} {f g:Ev}
theorem aB (i:Nat) (h:PE X e (zDV i)):PEd X G e (aJ i):=PE.wk h fun σ H Q q=>by
 obtain ⟨ρ,Hi,R,o⟩:=q
 unfold aJ at o
 cases z:ρ[i]? with
 | none=>rw [z] at o;exact o.elim
 | some s=>
  rw [z] at o
  cases s with
  | val d=>
   obtain ⟨v,p,r⟩:=R.slot i _ z
   exact ⟨v,p,o.here R.s v r⟩
  | un=>exact o.elim
  | own ds=>exact o.elim
  | exc c=>exact o.elim
  | tab T=>exact o.elim
theorem aS {v:V} {d:D} (h:PE X e (tC v)) (r:∀ H,IsD X.K H v d):PEd X G e (eC d):=PE.wk h fun σ H Q q=>by
 obtain ⟨ρ,Hi,R,o⟩:=q
 exact o.here R.s v (r Hi)
theorem zBA {Hi H:Hp} {σ:St} {ρ:Rho} {β:Type} {k:D->Res β} {k':β->Hp->Hp->Prop} {Q:VK} (R:kL X G Hi H σ ρ) (o:Out G Hi H ((f ρ).bind k) k')
  (w:∀ v d Hi' H',Ext Hi H Hi' H'->kL X G Hi' H' σ ρ->IsD X.K Hi' v d->Out G Hi' H' (k d) k'->Q v H'):tD X G f σ H Q:=
 ⟨ρ,Hi,R,o.bind.imp fun d Hi' H' e q v r=>w v d Hi' H' e (R.grow e) r q⟩
def OpK (X:Cx) (r:R2) (o:Op2):Prop:=(∀ a b c,o a b≠.err c)/\∀ (Hi H:Hp) (x y:V) (a b d:D) (Q:VK),Same Hi H->IsD X.K Hi x a->IsD X.K Hi y b->o a b=.ok d->
 (∀ v Hi' H',Ext Hi H Hi' H'->IsD X.K Hi' v d->Q v H')->r x y H Q
theorem op2 {r:R2} {o:Op2} (k:OpK X r o):∀ σ H Q,tD X G (eOp o f g) σ H Q->tOp r (tD X G f) (tD X G g) σ H Q:=fun σ H Q q=>by
 obtain ⟨ρ,Hi,R,ou⟩:=q
 refine zBA R ou fun v d Hi1 H1 e1 R1 r1 o1=>?_
 refine zBA R1 o1 fun w d' Hi2 H2 e2 R2 r2 o2=>?_
 cases z:o d d' with
 | no=>rw [z] at o2;exact o2.elim
 | err c=>exact absurd z (k.1 d d' c)
 | ok u=>
  rw [z] at o2
  exact k.2 Hi2 H2 v w d d' u Q R2.s (r1.mono e2.i) r2 z fun x Hi3 H3 e3 r3=>o2 Hi3 H3 e3 x r3
theorem bD {op:Operator} {r:R2} {o:Op2} (ho:OpR X (binaryOp op) r) (k:OpK X r o) (ha:PEd X G a f) (hb:PEd X G b g):PEd X G (.BinOp a op b pos) (eOp o f g):=PE.wk (zGz ho ha hb) (op2 k)
theorem qJ {op:CmpOp} {r:R2} {o:Op2} (ho:OpR X (compareOp op) r) (k:OpK X r o) (ha:PEd X G a f) (hb:PEd X G b g) (hm:behindInMarks op b=false):PEd X G (.Compare a [op] [b] pos) (eOp o f g):=PE.wk (zJJ ho ha hb hm) (op2 k)
theorem aO {r:R2} {o:Op2} (ho:IxR X r) (k:OpK X r o) (ha:PEd X G a f) (hb:PEd X G b g) (hs:zBv b):PEd X G (.Subscript a b pos) (eOp o f g):=PE.wk (zDB ho ha hb hs) (op2 k)
theorem tst {op:CmpOp} {r:R2} {o:Op2} (ho:OpR X (compareOp op) r) (k:OpK X r o) (ha:PEd X G a f) (hb:PEd X G b g) (hm:behindInMarks op b=false):PTd X G (.Compare a [op] [b] pos) (dW (eOp o f g)):=
 PT.wk (zGc ho ha hb hm) fun σ H Q q=>by
  obtain ⟨ρ,Hi,R,ou⟩:=q
  refine op2 k σ H _ ⟨ρ,Hi,R,ou.bind.imp fun d Hi' H' e o v r=>?_⟩
  cases d with
  | bl c=>rw [r.blI];exact ⟨c,rfl,o.here e.s⟩
  | _=>exact o.elim
theorem sT (h:PEd X G a f) (he:∀ whole,isTrue a X.env whole=(do let v <-whole;standAt a.pos;holding [v] (truthy v)):=by intro _;rfl):PTd X G a (dW f):=PT.wk (zLs h he) fun σ H Q q=>by
 obtain ⟨ρ,Hi,R,ou⟩:=q
 refine ⟨ρ,Hi,R,ou.bind.imp fun d Hi' H' e o v r=>?_⟩
 cases d with
 | bl c=>rw [r.blI];exact ⟨c,rfl,o.here e.s⟩
 | _=>exact o.elim
variable {t u:Tv}
theorem zMO {Hi H:Hp} {σ:St} {ρ:Rho} {β:Type} {k:Bool->Res β} {k':β->Hp->Hp->Prop} {Q:Bool->Hp->Prop} (R:kL X G Hi H σ ρ) (o:Out G Hi H ((t ρ).bind k) k')
  (w:∀ c Hi' H',Ext Hi H Hi' H'->kL X G Hi' H' σ ρ->Out G Hi' H' (k c) k'->Q c H'):tTb X G t σ H Q:=
 ⟨ρ,Hi,R,o.bind.imp fun d Hi' H' e q=>w d Hi' H' e (R.grow e) q⟩
theorem zBP (h:PTd X G a t):PTd X G (.UnaryOp .Not a pos) (kN t):=PT.wk (zKR h) fun σ H Q q=>by
 obtain ⟨ρ,Hi,R,ou⟩:=q
 exact zMO R ou fun c Hi1 H1 e1 R1 o1=>o1.here R1.s
theorem zEO (h:PTd X G a t):PWd X G (.BoolOp .And [a] pos) t:=zJx h
theorem rQ (h:PTd X G a t):PWd X G (.BoolOp .Or [a] pos) t:=zLh h
theorem zJo {rest:List Expr} (ha:PTd X G a t) (hb:PWd X G (.BoolOp .And (b::rest) pos) u):PWd X G (.BoolOp .And (a::b::rest) pos) (zEa t u):=PW.wk (zLk ha hb) fun σ H Q q=>by
 obtain ⟨ρ,Hi,R,ou⟩:=q
 refine zMO R ou fun c Hi1 H1 e1 R1 o1=>?_
 cases c with
 | true=>exact ⟨ρ,Hi1,R1,o1⟩
 | false=>exact o1.here R1.s
theorem zEi {rest:List Expr} (ha:PTd X G a t) (hb:PWd X G (.BoolOp .Or (b::rest) pos) u):PWd X G (.BoolOp .Or (a::b::rest) pos) (zCt t u):=PW.wk (zNq ha hb) fun σ H Q q=>by
 obtain ⟨ρ,Hi,R,ou⟩:=q
 refine zMO R ou fun c Hi1 H1 e1 R1 o1=>?_
 cases c with
 | true=>exact o1.here R1.s
 | false=>exact ⟨ρ,Hi1,R1,o1⟩
theorem PWd.pt {e:Expr} (h:PWd X G e t):PTd X G e t:=PW.pt h
theorem zIv {op} (h:PEd X G a f):PEd X G (.BoolOp op [a] pos) f:=zMx h
theorem zIK {rest:List Expr} (ha:PEd X G a f) (hb:PEd X G (.BoolOp .And (b::rest) pos) g):PEd X G (.BoolOp .And (a::b::rest) pos) (zLR f g):=PE.wk (zLo ha hb) fun σ H Q q=>by
 obtain ⟨ρ,Hi,R,ou⟩:=q
 refine zBA R ou fun v d Hi1 H1 e1 R1 r1 o1=>?_
 cases d with
 | bl c=>
  refine ⟨c,r1.blI,?_⟩
  cases c with
  | true=>exact ⟨ρ,Hi1,R1,o1⟩
  | false=>exact o1.here R1.s _ (.bl false)
 | _=>exact o1.elim
theorem sO (ha:PEd X G a f):PEd X G (.UnaryOp .USub a pos) (eUn zHA f):=PE.wk (zNF zMF ha) fun σ H Q q=>by
 obtain ⟨ρ,Hi,R,ou⟩:=q
 refine zBA R ou fun v d Hi1 H1 e1 R1 r1 o1=>?_
 cases d with
 | int c=>exact ⟨c,r1.intI,o1.here R1.s _ (.int _)⟩
 | _=>exact o1.elim
theorem zKT {c:Expr} (hc:PTd X G c t) (ha:PEd X G a f) (hb:PEd X G b g):PEd X G (.IfExp c a b pos) (eIf t f g):=PE.wk (zHN hc ha hb) fun σ H Q q=>by
 obtain ⟨ρ,Hi,R,ou⟩:=q
 refine zMO R ou fun c Hi1 H1 e1 R1 o1=>?_
 cases c with
 | true=>exact ⟨ρ,Hi1,R1,o1⟩
 | false=>exact ⟨ρ,Hi1,R1,o1⟩
variable {fs:Fv}
theorem aF:PAd X G [] aNil:=PA.wk qK fun σ H Q q=>by
 obtain ⟨ρ,Hi,R,ou⟩:=q
 exact ou.here R.s [] .nil
theorem aA (ha:PEd X G e f) (hr:PAd X G es fs) (hs:starEach (e::es) X.env=(false,eval e X.env)::starEach es X.env:=by rfl):PAd X G (e::es) (aE f fs):=PA.wk (jS ha hr hs) fun σ H Q q=>by
 obtain ⟨ρ,Hi,R,ou⟩:=q
 refine zBA R ou fun v d Hi1 H1 e1 R1 r1 o1=>?_
 refine ⟨ρ,Hi1,R1,o1.bind.imp fun ds Hi2 H2 e2 o2 vs rs=>?_⟩
 exact o2.here e2.s _ (.cons (r1.mono e2.i) rs)
theorem zGM {Hi H:Hp} {σ:St} {ρ:Rho} {β:Type} {k:List D->Res β} {k':β->Hp->Hp->Prop} {Q:List V->Hp->Prop} (R:kL X G Hi H σ ρ) (o:Out G Hi H ((fs ρ).bind k) k')
  (w:∀ vs ds Hi' H',Ext Hi H Hi' H'->kL X G Hi' H' σ ρ->IsDs X.K Hi' vs ds->Out G Hi' H' (k ds) k'->Q vs H'):tAs X G fs σ H Q:=
 ⟨ρ,Hi,R,o.bind.imp fun d Hi' H' e q v r=>w v d Hi' H' e (R.grow e) r q⟩
theorem fI {x1} (h:PAd X G es fs):PEd X G (.Tuple es x1 pos) (wG fs):=PE.wk (zKM h) fun σ H Q q=>by
 obtain ⟨ρ,Hi,R,ou⟩:=q
 refine zGM R ou fun vs ds Hi1 H1 e1 R1 r1 o1=>?_
 by_cases hz:ds.length<=16777216
 ·rw [if_pos hz] at o1
  refine ⟨by rw [r1.length];exact hz,fun p hp=>?_⟩
  exact o1 _ _ (Ext.new R1.s hp) (.ref p) (.tup (SqT.of aZ) (r1.mono (dA (R1.s.none hp) _)))
 ·rw [if_neg hz] at o1;exact o1.elim
theorem eN (h:PAd X G es fs):PEf X G (.List es pos) (tY fs):=PE.wk (zMg h) fun σ H Q q=>by
 obtain ⟨ρ,Hi,R,ou⟩:=q
 refine zGM R ou fun vs ds Hi1 H1 e1 R1 r1 o1=>?_
 by_cases hz:ds.length<=16777216
 ·rw [if_pos hz] at o1
  refine ⟨by rw [r1.length];exact hz,fun p hp=>?_⟩
  exact o1 _ _ (Ext.newF R1.s hp) p ⟨e1.h.none hp,R1.s.none hp,vs,aZ,r1⟩
 ·rw [if_neg hz] at o1;exact o1.elim
theorem PEf.d (h:PEf X G e fs):PEd X G e (eF fs):=PE.wk h fun σ H Q q=>by
 obtain ⟨ρ,Hi,R,ou⟩:=q
 refine ⟨ρ,Hi,R,?_⟩
 cases z:fs ρ with
 | no=>unfold eF at ou;rw [z] at ou;exact ou
 | err c=>unfold eF at ou;rw [z] at ou;exact ou
 | ok ds=>
  unfold eF at ou;rw [z] at ou
  intro Hi1 H1 e1 a n
  obtain ⟨n1,n2,xs,n3,n4⟩:=n
  have ou':∀ Hi' H',Ext Hi H Hi' H'->∀ v,IsD X.K Hi' v (.lst ds)->Q v H':=ou
  exact ou' _ _ (e1.hold n1 n3 n2) (.ref a) (.lst (SqL.of aZ) (n4.mono (dA n2 _)))
theorem PEd.frz (h:PEd X G e f):PEd X G e (zMK f):=PE.wk h fun σ H Q q=>by
 obtain ⟨ρ,Hi,R,ou⟩:=q
 obtain ⟨Hf,s1,R1,fl⟩:=R.frz
 refine ⟨ρ.map Sl.frz,Hf,R1,?_⟩
 unfold zMK at ou
 cases z:f (ρ.map Sl.frz) with
 | no=>rw [z] at ou;exact ou
 | err c=>
  rw [z] at ou
  intro Hi1 H1 e1
  have ou':∀ Hi' H',Ext Hi H Hi' H'->G.E c H':=ou
  obtain ⟨Ht,e2,k,s2,n⟩:=Ext.thaw s1 fl R1.s e1
  exact ou' Ht H1 e2
 | ok d=>
  rw [z] at ou
  by_cases hz:noL d=true
  ·have ou':Out G Hi H (if noL d=true then Res.ok d else .no) _:=ou
   rw [if_pos hz] at ou'
   intro Hi1 H1 e1 v r
   obtain ⟨Ht,e2,k,s2,n⟩:=Ext.thaw s1 fl R1.s e1
   exact ou' Ht H1 e2 v (r.noL k hz)
  ·have ou':Out G Hi H (if noL d=true then Res.ok d else .no) _:=ou
   rw [if_neg hz] at ou';exact ou'.elim
end
end L3
namespace L3
open PySem PySem.Spec PyProof.Rows L2
unseal PEd PEf PTd PWd PAd PSd fG
section
variable {X:Cx} {G:Gx} {a b e:Expr} {es:List Expr} {pos:Pos} {f g:Ev} {fs:Fv} {t u:Tv}
theorem OpR.or {o:Value->Value->Sem Value} {r r':R2} (h:OpR X o r) (h':OpR X o r'):OpR X o (fun x y H Q=>r x y H Q∨r' x y H Q):=by
 intro pins s σ H x y v u Q I rx ry q
 rcases q with q | q
 ·exact h pins s σ H x y v u Q I rx ry q
 ·exact h' pins s σ H x y v u Q I rx ry q
theorem zLu {o:Op2} {h:Int->Int->Int} (hi:∀ i j,o (.int i) (.int j)=.ok (.int (h i j))) (hn:∀ a b d,o a b=.ok d->∃ i j,a=.int i/\b=.int j) (he:∀ a b c,o a b≠.err c):OpK X (rI0 fun i j=>.int (h i j)) o:=
 ⟨he,fun Hi H x y a b d Q s r1 r2 z q=>by
  obtain ⟨i,j,rfl,rfl⟩:=hn a b d z
  rw [hi] at z;cases z
  exact ⟨i,j,r1.intI,r2.intI,q _ Hi H (Ext.refl s) (.int _)⟩⟩
theorem zIM {o:Op2} {h:Int->Int->Bool} (hi:∀ i j,o (.int i) (.int j)=.ok (.bl (h i j))) (hn:∀ a b d,o a b=.ok d->∃ i j,a=.int i/\b=.int j) (he:∀ a b c,o a b≠.err c):OpK X (rI0 fun i j=>.bl (h i j)) o:=
 ⟨he,fun Hi H x y a b d Q s r1 r2 z q=>by
  obtain ⟨i,j,rfl,rfl⟩:=hn a b d z
  rw [hi] at z;cases z
  exact ⟨i,j,r1.intI,r2.intI,q _ Hi H (Ext.refl s) (.bl _)⟩⟩
theorem pS:OpK X (rI0 fun i j=>.int (i - j)) sQ:=zLu (fun _ _=>rfl) (fun a b d z=>by unfold sQ at z;split at z<;>first | exact ⟨_,_,rfl,rfl⟩ | cases z) (fun a b c z=>by unfold sQ at z;split at z<;>cases z)
theorem zHL:OpK X (rI0 fun i j=>.bl (decide (i < j))) oLt:=zIM (fun _ _=>rfl) (fun a b d z=>by unfold oLt at z;split at z<;>first | exact ⟨_,_,rfl,rfl⟩ | cases z) (fun a b c z=>by unfold oLt at z;split at z<;>cases z)
theorem zLb:OpK X (rI0 fun i j=>.bl (decide (j < i))) oGt:=zIM (fun _ _=>rfl) (fun a b d z=>by unfold oGt at z;split at z<;>first | exact ⟨_,_,rfl,rfl⟩ | cases z) (fun a b c z=>by unfold oGt at z;split at z<;>cases z)
theorem zHF {o:Op2} {C:Int->Int->Prop} {h:Int->Int->Int} (hn:∀ a b d,o a b=.ok d->∃ i j,a=.int i/\b=.int j/\C i j/\d=.int (h i j)) (he:∀ a b c,o a b≠.err c):OpK X (rI C fun i j=>.int (h i j)) o:=
 ⟨he,fun Hi H x y a b d Q s r1 r2 z q=>by
  obtain ⟨i,j,rfl,rfl,hc,rfl⟩:=hn a b d z
  exact ⟨i,j,r1.intI,r2.intI,hc,q _ Hi H (Ext.refl s) (.int _)⟩⟩
def zKN (i j:Int):Prop:=iV i j=true
theorem bU:OpR X (binaryOp .Mult) (rI zKN fun i j=>.int (i * j)):=opI fun i j _ _ _ _ _ hc q=>by
 have hc':iV i j=true:=hc
 unfold iV at hc'
 simp only [Bool.or_eq_true,Bool.and_eq_true,decide_eq_true_eq] at hc'
 rcases hc' with (⟨h1,h2⟩ | ⟨h1,h2⟩) | h
 ·exact mul_int q (zMM.ok (.inl ⟨h1,h2⟩))
 ·exact mul_int q (zMM.ok (.inr ⟨h1,h2⟩))
 ·exact mul_int q (PySem.IntMulOk.of_le (PySem.intBits_le_iff.mpr (zKl i)) (PySem.intBits_le_iff.mpr (zKl j)) h)
def zMa (_ j:Int):Prop:=kJ j=true
theorem iG:OpR X (binaryOp .FloorDiv) (rI zMa fun i j=>.int (i.fdiv j)):=opI fun i j _ _ _ _ _ hc q=>by
 have hc':kJ j=true:=hc
 unfold kJ at hc'
 simp only [Bool.and_eq_true,decide_eq_true_eq] at hc'
 refine floordiv_int hc'.1 q (.inl (PyProof.noPylong_of_log2 ?_))
 have h2:=hc'.2
 unfold nb at h2
 omega
def zLJ (i j:Int):Prop:=rS i j=true
theorem zCa:OpR X (binaryOp .Pow) (rI zLJ fun i j=>.int (i^j.toNat)):=opI fun i j _ _ _ _ _ hc q=>by
 have hc':rS i j=true:=hc
 unfold rS at hc'
 simp only [Bool.and_eq_true,decide_eq_true_eq] at hc'
 refine pow_int hc'.1 (Int.le_trans (Int.mul_le_mul_of_nonneg_right ?_ hc'.1) hc'.2) q
 have:=PySem.intBits_le_iff.mpr (zKl i)
 omega
theorem gF:OpK X (rI zKN fun i j=>.int (i * j)) oJ:=zHF (fun a b d z=>by
 unfold oJ at z
 split at z
 case h_2=>cases z
 rename_i i j
 have z':(if iV i j=true then Res.ok (D.int (i * j)) else .no)=.ok d:=z
 by_cases h:iV i j=true
 ·rw [if_pos h] at z';cases z';exact ⟨i,j,rfl,rfl,h,rfl⟩
 ·rw [if_neg h] at z';cases z') (fun a b c z=>by
 unfold oJ at z
 split at z
 case h_2=>cases z
 rename_i i j
 have z':(if iV i j=true then Res.ok (D.int (i * j)) else .no)=.err c:=z
 by_cases h:iV i j=true
 ·rw [if_pos h] at z';cases z'
 ·rw [if_neg h] at z';cases z')
theorem vK:OpK X (rI zMa fun i j=>.int (i.fdiv j)) zCG:=zHF (fun a b d z=>by
 unfold zCG at z
 split at z
 case h_2=>cases z
 rename_i i j
 have z':(if kJ j=true then Res.ok (D.int (i.fdiv j)) else .no)=.ok d:=z
 by_cases h:kJ j=true
 ·rw [if_pos h] at z';cases z';exact ⟨i,j,rfl,rfl,h,rfl⟩
 ·rw [if_neg h] at z';cases z') (fun a b c z=>by
 unfold zCG at z
 split at z
 case h_2=>cases z
 rename_i i j
 have z':(if kJ j=true then Res.ok (D.int (i.fdiv j)) else .no)=.err c:=z
 by_cases h:kJ j=true
 ·rw [if_pos h] at z';cases z'
 ·rw [if_neg h] at z';cases z')
theorem qX:OpK X (rI (fun _ j=>j≠0) fun i j=>.int (i.fmod j)) zBp:=zHF (fun a b d z=>by
 unfold zBp at z
 split at z
 case h_2=>cases z
 rename_i i j
 have z':(if j≠0 then Res.ok (D.int (i.fmod j)) else .no)=.ok d:=z
 by_cases h:j≠0
 ·rw [if_pos h] at z';cases z';exact ⟨i,j,rfl,rfl,h,rfl⟩
 ·rw [if_neg h] at z';cases z') (fun a b c z=>by
 unfold zBp at z
 split at z
 case h_2=>cases z
 rename_i i j
 have z':(if j≠0 then Res.ok (D.int (i.fmod j)) else .no)=.err c:=z
 by_cases h:j≠0
 ·rw [if_pos h] at z';cases z'
 ·rw [if_neg h] at z';cases z')
theorem zJX:OpK X (rI zLJ fun i j=>.int (i^j.toNat)) zJP:=zHF (fun a b d z=>by
 unfold zJP at z
 split at z
 case h_2=>cases z
 rename_i i j
 have z':(if rS i j=true then Res.ok (D.int (i^j.toNat)) else .no)=.ok d:=z
 by_cases h:rS i j=true
 ·rw [if_pos h] at z';cases z';exact ⟨i,j,rfl,rfl,h,rfl⟩
 ·rw [if_neg h] at z';cases z') (fun a b c z=>by
 unfold zJP at z
 split at z
 case h_2=>cases z
 rename_i i j
 have z':(if rS i j=true then Res.ok (D.int (i^j.toNat)) else .no)=.err c:=z
 by_cases h:rS i j=true
 ·rw [if_pos h] at z';cases z'
 ·rw [if_neg h] at z';cases z')
def zLw (K:PySem.W.Frag):R2:=fun x y H Q=>∃ a b ys,x=.ref a/\y=.ref b/\SqT K H a []/\SqT K H b ys/\Q (.ref b) H
theorem zIX:OpR X (binaryOp .Add) (zLw X.K):=by
 intro pins s σ H x y v u Q I rx ry h
 obtain ⟨a,b,ys,rfl,rfl,ha,hb,q⟩:=h
 cases rx
 cases ry
 obtain ⟨its,r1,p1,_⟩:=I.tuple ha
 obtain ⟨its2,r2,p2,_⟩:=I.tuple hb
 cases r1
 obtain ⟨⟨c1,d1,t1,s1⟩,ho1,hc1,n1,hd1⟩:=id p1
 obtain ⟨⟨c2,d2,t2,s2⟩,ho2,hc2,n2,hd2⟩:=id p2
 simp only at hc1 hd1 hc2 hd2
 subst hc1 hd1 hc2 hd2
 exact concat_meets ⟨_,ho1,rfl⟩ ⟨_,ho2,rfl⟩ noFill_tuple_add seq_tuple_add PySem.F.slot_tuple_add PySem.F.entry_tuple_add (PySem.F.args_tuple_add_2 _ _) (tuple_addW0 a b #[] its2.toArray n1 n2 d1 d2 s1 s2 rfl) ⟨ho1,ho2,⟨.ref b,H,I,rfl,q⟩⟩
def zKV (K:PySem.W.Frag):R2:=fun x y H Q=>rI0 (fun i j=>.int (i+j)) x y H Q∨(zLm K x y H Q∨zLw K x y H Q)
theorem jZ:OpR X (binaryOp .Add) (zKV X.K):=OpR.or zLg (OpR.or zJS zIX)
theorem xV:OpK X (zKV X.K) zDN:=⟨fun a b c z=>(by
  unfold zDN at z
  split at z
  case h_1=>cases z
  case h_3=>cases z
  rename_i as bs
  have z':(if as.length+bs.length<=16777216 then Res.ok (D.tup (as++bs)) else .no)=.err c:=z
  split at z'<;>cases z'),fun Hi H x y a b d Q s r1 r2 z q=>by
  unfold zDN at z
  split at z
  case h_3=>cases z
  ·cases z
   exact .inl ⟨_,_,r1.intI,r2.intI,q _ Hi H (Ext.refl s) (.int _)⟩
  ·rename_i as bs
   have z':(if as.length+bs.length<=16777216 then Res.ok (D.tup (as++bs)) else .no)=.ok d:=z
   split at z'
   ·rename_i hz
    cases z'
    obtain ⟨p,xs,rfl,h1,i1⟩:=r1.tupI
    obtain ⟨p',ys,rfl,h2,i2⟩:=r2.tupI
    by_cases h0:as.length=0
    ·have e0:as=[]:=List.eq_nil_of_length_eq_zero h0
     subst e0
     cases i1
     exact .inr (.inr ⟨p,p',ys,rfl,rfl,bX s h1,bX s h2,q _ Hi H (Ext.refl s) (.tup h2 i2)⟩)
    refine .inr (.inl ⟨p,p',xs,ys,rfl,rfl,bX s h1,bX s h2,fun e=>h0 (by rw [<-i1.length,e];rfl),by rw [i1.length,i2.length];exact hz,fun e=>?_,fun _ l hl=>?_⟩)
    ·subst e
     cases i2
     rw [List.append_nil] at q
     exact q _ Hi H (Ext.refl s) (.tup h1 i1)
    ·exact q _ _ _ (Ext.new s hl) (.tup (SqT.of aZ) ((i1.append i2).mono (dA (s.none hl) _)))
   ·cases z'⟩
theorem zKo {α:Type} {xs:List α} {i:Int} {v:α} (h0:i < 0) (h1:0<=(xs.length:Int)+i) (h:xs[((xs.length:Int)+i).toNat]?=some v):atI xs i=some v:=by
 have e:ixN xs.length i=some ((xs.length:Int)+i).toNat:=by
  unfold ixN
  rw [if_neg (by omega),if_pos (by omega)]
  congr 2
  omega
 unfold atI;rw [e];exact h
theorem zEs {K:PySem.W.Frag} {H:Hp} {xs:List V} {ds:List D} {i:Int} {d:D} (h:IsDs K H xs ds) (e:atD ds i=some d):∃ v,atI xs i=some v/\IsD K H v d:=by
 unfold atD at e
 by_cases h0:0<=i
 ·rw [if_pos h0] at e
  obtain ⟨v,hv,r⟩:=h.at e
  refine ⟨v,?_,r⟩
  have:=zCd hv
  rw [show ((i.toNat:Nat):Int)=i by omega] at this
  exact this
 ·rw [if_neg h0] at e
  by_cases h1:0<=(ds.length:Int)+i
  ·rw [if_pos h1] at e
   obtain ⟨v,hv,r⟩:=h.at e
   refine ⟨v,?_,r⟩
   have hl:=h.length
   have e2:((ds.length:Int)+i).toNat=((xs.length:Int)+i).toNat:=by rw [hl]
   rw [e2] at hv
   exact zKo (by omega) (by omega) hv
  ·rw [if_neg h1] at e;cases e
theorem bE:OpK X (fun x y H Q=>zMG X.K x y H Q∨zMH X.K x y H Q) oIx:=⟨fun a b c z=>(by
  unfold oIx at z
  split at z
  case h_3=>cases z
  ·rename_i ds i
   have z':ofO (atD ds i)=Res.err c:=z
   cases q:atD ds i<;>rw [q] at z'<;>cases z'
  ·rename_i ds i
   have z':ofO (atD ds i)=Res.err c:=z
   cases q:atD ds i<;>rw [q] at z'<;>cases z'),fun Hi H x y a b d Q s r1 r2 z q=>by
  unfold oIx at z
  split at z
  case h_3=>cases z
  ·rename_i ds i
   have z':ofO (atD ds i)=Res.ok d:=z
   cases w:atD ds i with
   | none=>rw [w] at z';cases z'
   | some d'=>
    rw [w] at z';cases z'
    obtain ⟨p,xs,rfl,h1,i1⟩:=r1.tupI
    obtain ⟨v,hv,r⟩:=zEs i1 w
    exact .inr ⟨p,xs,i,v,rfl,r2.intI,bX s h1,hv,q v Hi H (Ext.refl s) r⟩
  ·rename_i ds i
   have z':ofO (atD ds i)=Res.ok d:=z
   cases w:atD ds i with
   | none=>rw [w] at z';cases z'
   | some d'=>
    rw [w] at z';cases z'
    obtain ⟨p,xs,rfl,h1,i1⟩:=r1.lstI
    obtain ⟨v,hv,r⟩:=zEs i1 w
    exact .inl ⟨p,xs,i,v,rfl,r2.intI,cO s h1,hv,q v Hi H (Ext.refl s) r⟩⟩
theorem aG:IxR X (fun x y H Q=>zMG X.K x y H Q∨zMH X.K x y H Q):=zKx.or zMr
end
end L3
namespace L3
open PySem PySem.Spec PyProof.Rows L2
unseal PEd PEf PTd PWd PAd PSd fG
section
variable {X:Cx} {pins:List (Addr×Obj)} {σ:St} {H:Hp} {s:Shared}
mutual
theorem IsD.inj (I:Inv X pins σ H s):∀ {v:V} {d e:D},IsD X.K H v d->IsD X.K H v e->d=e
 | _,_,_,.non,h=>by cases h;rfl
 | _,_,_,.bl b,h=>by cases h;rfl
 | _,_,_,.int i,h=>by cases h;rfl
 | _,_,_,.str x,h=>by cases h;rfl
 | _,_,_,.tup h hs,h2=>by
  cases h2 with
  | tup h' hs'=>
   have e:=I.tuple_inj h h'
   subst e
   rw [IsDs.inj I hs hs']
  | lst h' hs'=>
   exfalso
   obtain ⟨_,_,⟨o,e,c,_⟩,_⟩:=I.tuple h
   obtain ⟨_,_,⟨o',n',e',c',_⟩,_⟩:=I.list h'
   rw [e] at e';cases e';rw [c] at c';exact absurd c' (by decide)
 | _,_,_,.lst h hs,h2=>by
  cases h2 with
  | lst h' hs'=>
   have e:=I.list_inj h h'
   subst e
   rw [IsDs.inj I hs hs']
  | tup h' hs'=>
   exfalso
   obtain ⟨_,_,⟨o,e,c,_⟩,_⟩:=I.tuple h'
   obtain ⟨_,_,⟨o',n',e',c',_⟩,_⟩:=I.list h
   rw [e] at e';cases e';rw [c] at c';exact absurd c' (by decide)
theorem IsDs.inj (I:Inv X pins σ H s):∀ {vs:List V} {ds es:List D},IsDs X.K H vs ds->IsDs X.K H vs es->ds=es
 | _,_,_,.nil,h=>by cases h;rfl
 | _,_,_,.cons h hs,h2=>by
  cases h2 with
  | cons h' hs'=>rw [IsD.inj I h h',IsDs.inj I hs hs']
end
theorem zEH {α:Type} {l:List α} {j:Nat} {x d:α} (h:l[j]?=some x):l.getD j d=x:=by
 rw [List.getD_eq_getElem?_getD,h];rfl
theorem lY {A:Around} {xs xs':List V} {ds ds':List D} {its its':List Value} (hs:IsDs X.K H xs ds) (hs':IsDs X.K H xs' ds') (rv:dE xs its) (rv':dE xs' its')
  (rc:∀ (d d':D) (v v':V) (u u':Value),d∈ds->IsD X.K H v d->IsD X.K H v' d'->cS v u->cS v' u'->SeqAt.EqAt A s u u' (eqD d d'))
  (j:Nat) (g1:j < its.toArray.size) (g2:j < its'.toArray.size):SeqAt.EqAt A s its.toArray[j] its'.toArray[j] (eqD (ds.getD j .non) (ds'.getD j .non)):=by
 have g1':j < its.length:=by simpa using g1
 have g2':j < its'.length:=by simpa using g2
 have l1:its.length=ds.length:=by rw [<-rv.length,hs.length]
 have l2:its'.length=ds'.length:=by rw [<-rv'.length,hs'.length]
 obtain ⟨d,hd⟩:∃ d,ds[j]?=some d:=⟨_,List.getElem?_eq_getElem (by omega)⟩
 obtain ⟨d',hd'⟩:∃ d,ds'[j]?=some d:=⟨_,List.getElem?_eq_getElem (by omega)⟩
 obtain ⟨v,hv,iv⟩:=hs.at hd
 obtain ⟨v',hv',iv'⟩:=hs'.at hd'
 obtain ⟨w1,hw,rw1⟩:=rv.get hv
 obtain ⟨w2,hw',rw2⟩:=rv'.get hv'
 have e1:its.toArray[j]=w1:=by
  rw [List.getElem?_eq_getElem g1'] at hw
  simpa using hw
 have e2:its'.toArray[j]=w2:=by
  rw [List.getElem?_eq_getElem g2'] at hw'
  simpa using hw'
 rw [e1,e2,zEH hd,zEH hd']
 exact rc d d' v v' w1 w2 (List.mem_of_getElem? hd) iv iv' rw1 rw2
theorem gY {ds ds':List D} (h:ds.length=ds'.length):((List.range ds.length).all fun j=>eqD (ds.getD j .non) (ds'.getD j .non))=zGk ds ds':=by
 rw [lU,<-h,Nat.min_self];simp
theorem xL {ds ds':List D} (h:ds.length≠ds'.length):zGk ds ds'=false:=by
 rw [lU];simp [h]
theorem zAi (I:Inv X pins σ H s) {A:Around} {v v':V} {d d':D} {u u':Value} (h1:IsD X.K H v d) (h2:IsD X.K H v' d') (r1:cS v u) (r2:cS v' u') (hu:A.units < cLine)
  (rc:∀ ds,(d=.tup ds∨d=.lst ds)->∀ (e e':D) (w w':V) (z z':Value),e∈ds->IsD X.K H w e->IsD X.K H w' e'->cS w z->cS w' z'->SeqAt.EqAt A.in1 s z z' (eqD e e')):
  SeqAt.EqAt A s u u' (eqD d d'):=by
 cases h1 with
 | non=>
  cases (show u=Value.none from r1)
  cases h2 with
  | non=>cases (show u'=Value.none from r2);exact SeqAt.EqAt.same _
  | bl b=>cases (show u'=Value.bool _ from r2);exact SeqAt.EqAt.none_bool _
  | int i=>obtain ⟨t,rfl⟩:=r2;exact SeqAt.EqAt.none_int _ _
  | str x=>obtain ⟨t,rfl⟩:=r2;exact SeqAt.EqAt.none_str _ _
  | tup h hs=>cases (show u'=Value.ref _ from r2);obtain ⟨its,rv,p,hz⟩:=I.tuple h;exact SeqAt.EqAt.none_tuple (show s.heap.IsTuple _ its.toArray from p) hu
  | lst h hs=>cases (show u'=Value.ref _ from r2);obtain ⟨its,rv,p,hz⟩:=I.list h;exact SeqAt.EqAt.none_list p.isList hu
 | bl b=>
  cases (show u=Value.bool _ from r1)
  cases h2 with
  | non=>cases (show u'=Value.none from r2);exact SeqAt.EqAt.bool_none _
  | bl b=>cases (show u'=Value.bool _ from r2);exact SeqAt.EqAt.bool_bool _ _
  | int i=>obtain ⟨t,rfl⟩:=r2;exact SeqAt.EqAt.bool_int _ _ _
  | str x=>obtain ⟨t,rfl⟩:=r2;exact SeqAt.EqAt.bool_str _ _ _
  | tup h hs=>cases (show u'=Value.ref _ from r2);obtain ⟨its,rv,p,hz⟩:=I.tuple h;exact SeqAt.EqAt.bool_tuple _ (show s.heap.IsTuple _ its.toArray from p) hu
  | lst h hs=>cases (show u'=Value.ref _ from r2);obtain ⟨its,rv,p,hz⟩:=I.list h;exact SeqAt.EqAt.bool_list _ p.isList hu
 | int i=>
  obtain ⟨t,rfl⟩:=r1
  cases h2 with
  | non=>cases (show u'=Value.none from r2);exact SeqAt.EqAt.int_none _ _
  | bl b=>cases (show u'=Value.bool _ from r2);exact SeqAt.EqAt.int_bool _ _ _
  | int i=>obtain ⟨t,rfl⟩:=r2;exact SeqAt.EqAt.int_int _ _ _ _
  | str x=>obtain ⟨t,rfl⟩:=r2;exact SeqAt.EqAt.int_str _ _ _ _
  | tup h hs=>cases (show u'=Value.ref _ from r2);obtain ⟨its,rv,p,hz⟩:=I.tuple h;exact SeqAt.EqAt.int_tuple _ _ (show s.heap.IsTuple _ its.toArray from p) hu
  | lst h hs=>cases (show u'=Value.ref _ from r2);obtain ⟨its,rv,p,hz⟩:=I.list h;exact SeqAt.EqAt.int_list _ _ p.isList hu
 | str x=>
  obtain ⟨t,rfl⟩:=r1
  cases h2 with
  | non=>cases (show u'=Value.none from r2);exact SeqAt.EqAt.str_none _ _
  | bl b=>cases (show u'=Value.bool _ from r2);exact SeqAt.EqAt.str_bool _ _ _
  | int i=>obtain ⟨t,rfl⟩:=r2;exact SeqAt.EqAt.str_int _ _ _ _
  | str x=>obtain ⟨t,rfl⟩:=r2;exact SeqAt.EqAt.str_str _ _ _ _
  | tup h hs=>cases (show u'=Value.ref _ from r2);obtain ⟨its,rv,p,hz⟩:=I.tuple h;exact SeqAt.EqAt.str_tuple _ _ (show s.heap.IsTuple _ its.toArray from p) hu
  | lst h hs=>cases (show u'=Value.ref _ from r2);obtain ⟨its,rv,p,hz⟩:=I.list h;exact SeqAt.EqAt.str_list _ _ p.isList hu
 | @tup a xs ds h hs=>
  cases (show u=Value.ref a from r1)
  obtain ⟨its,rv,p,hz⟩:=I.tuple h
  cases h2 with
  | non=>cases (show u'=Value.none from r2);exact SeqAt.EqAt.tuple_none (show s.heap.IsTuple _ its.toArray from p) hu
  | bl b=>cases (show u'=Value.bool _ from r2);exact SeqAt.EqAt.tuple_bool _ (show s.heap.IsTuple _ its.toArray from p) hu
  | int i=>obtain ⟨t,rfl⟩:=r2;exact SeqAt.EqAt.tuple_int _ _ (show s.heap.IsTuple _ its.toArray from p) hu
  | str x=>obtain ⟨t,rfl⟩:=r2;exact SeqAt.EqAt.tuple_str _ _ (show s.heap.IsTuple _ its.toArray from p) hu
  | @tup a' xs' ds' h' hs'=>
   cases (show u'=Value.ref a' from r2)
   by_cases e:a=a'
   ·subst e
    have e:=I.tuple_inj h h'
    subst e
    have e:=IsDs.inj I hs hs'
    subst e
    rw [oH]
    exact SeqAt.EqAt.same _
   ·obtain ⟨its',rv',p',hz'⟩:=I.tuple h'
    have l1:its.toArray.size=ds.length:=by rw [List.size_toArray,<-rv.length,hs.length]
    have l2:its'.toArray.size=ds'.length:=by rw [List.size_toArray,<-rv'.length,hs'.length]
    have key:=SeqAt.RcAt.tuples (A:=A) (s:=s) (show s.heap.IsTuple a its.toArray from p) (show s.heap.IsTuple a' its'.toArray from p') hu
     (lY (A:=A.in1) (s:=s) hs hs' rv rv' fun d d' v v' u u' hm iv iv' r r'=>rc ds (.inl rfl) d d' v v' u u' hm iv iv' r r')
    rw [l1,l2,<-lU] at key
    exact SeqAt.EqAt.of_refs e key
  | @lst a' xs' ds' h' hs'=>
   cases (show u'=Value.ref a' from r2)
   obtain ⟨its',rv',p',hz'⟩:=I.list h'
   exact SeqAt.EqAt.tuple_list (show s.heap.IsTuple _ its.toArray from p) p'.isList hu
 | @lst a xs ds h hs=>
  cases (show u=Value.ref a from r1)
  obtain ⟨its,rv,p,hz⟩:=I.list h
  cases h2 with
  | non=>cases (show u'=Value.none from r2);exact SeqAt.EqAt.list_none p.isList hu
  | bl b=>cases (show u'=Value.bool _ from r2);exact SeqAt.EqAt.list_bool _ p.isList hu
  | int i=>obtain ⟨t,rfl⟩:=r2;exact SeqAt.EqAt.list_int _ _ p.isList hu
  | str x=>obtain ⟨t,rfl⟩:=r2;exact SeqAt.EqAt.list_str _ _ p.isList hu
  | @tup a' xs' ds' h' hs'=>
   cases (show u'=Value.ref a' from r2)
   obtain ⟨its',rv',p',hz'⟩:=I.tuple h'
   exact SeqAt.EqAt.list_tuple p.isList (show s.heap.IsTuple _ its'.toArray from p') hu
  | @lst a' xs' ds' h' hs'=>
   cases (show u'=Value.ref a' from r2)
   by_cases e:a=a'
   ·subst e
    have e:=I.list_inj h h'
    subst e
    have e:=IsDs.inj I hs hs'
    subst e
    rw [oH]
    exact SeqAt.EqAt.same _
   ·obtain ⟨its',rv',p',hz'⟩:=I.list h'
    have l1:its.toArray.size=ds.length:=by rw [List.size_toArray,<-rv.length,hs.length]
    have l2:its'.toArray.size=ds'.length:=by rw [List.size_toArray,<-rv'.length,hs'.length]
    by_cases hl:ds.length=ds'.length
    ·have key:=SeqAt.RcAt.lists (A:=A) (s:=s) p.isList p'.isList (by rw [l1,l2,hl]) hu
      (lY (A:=A.in1) (s:=s) hs hs' rv rv' fun d d' v v' u u' hm iv iv' r r'=>rc ds (.inr rfl) d d' v v' u u' hm iv iv' r r')
     rw [l1,gY hl] at key
     exact SeqAt.EqAt.of_refs e key
    ·have key:=SeqAt.RcAt.lists_lengths (A:=A) (s:=s) p.isList p'.isList (by rw [l1,l2];simp [hl]) hu
     rw [eqD,xL hl]
     exact SeqAt.EqAt.of_refs e key
theorem zEt (I:Inv X pins σ H s) (n:Nat):∀ {v v':V} {d d':D},dep d<=n->IsD X.K H v d->IsD X.K H v' d'->
  ∀ (A:Around) (u u':Value),A.units+n < cLine->cS v u->cS v' u'->SeqAt.EqAt A s u u' (eqD d d'):=by
 induction n with
 | zero=>
  intro v v' d d' hn h1 h2 A u u' hu r1 r2
  refine zAi I h1 h2 r1 r2 (by omega) fun ds hd=>?_
  rcases hd with rfl | rfl<;>(rw [dep] at hn;omega)
 | succ n ih=>
  intro v v' d d' hn h1 h2 A u u' hu r1 r2
  refine zAi I h1 h2 r1 r2 (by omega) fun ds hd e e' w w' z z' hm i1 i2 q1 q2=>?_
  refine ih ?_ i1 i2 A.in1 z z' (by show A.units+1+n < cLine;omega) q1 q2
  have:=qF hm
  rcases hd with rfl | rfl<;>(rw [dep] at hn;omega)
theorem zEM (I:Inv X pins σ H s) {A:Around} {v v':V} {d d':D} {u u':Value} (h1:IsD X.K H v d) (h2:IsD X.K H v' d') (r1:cS v u) (r2:cS v' u') (hu:A.units < cLine)
  (rc:∀ ds,(d=.tup ds∨d=.lst ds)->∀ (e e':D) (w w':V) (z z':Value),e∈ds->IsD X.K H w e->IsD X.K H w' e'->cS w z->cS w' z'->SeqAt.EqAt A.in1 s z z' (eqD e e')):
  SeqAt.RcAt A s u u' (eqD d d'):=by
 cases h1 with
 | non=>
  cases (show u=Value.none from r1)
  cases h2 with
  | non=>cases (show u'=Value.none from r2);exact SeqAt.RcAt.none_none
  | bl b=>cases (show u'=Value.bool _ from r2);exact SeqAt.RcAt.none_bool _
  | int i=>obtain ⟨t,rfl⟩:=r2;exact SeqAt.RcAt.none_int _ _
  | str x=>obtain ⟨t,rfl⟩:=r2;exact SeqAt.RcAt.none_str _ _
  | tup h hs=>cases (show u'=Value.ref _ from r2);obtain ⟨its,rv,p,hz⟩:=I.tuple h;exact SeqAt.RcAt.none_tuple (show s.heap.IsTuple _ its.toArray from p) hu
  | lst h hs=>cases (show u'=Value.ref _ from r2);obtain ⟨its,rv,p,hz⟩:=I.list h;exact SeqAt.RcAt.none_list p.isList hu
 | bl b=>
  cases (show u=Value.bool _ from r1)
  cases h2 with
  | non=>cases (show u'=Value.none from r2);exact SeqAt.RcAt.bool_none _
  | bl b=>cases (show u'=Value.bool _ from r2);exact SeqAt.RcAt.bool_bool _ _
  | int i=>obtain ⟨t,rfl⟩:=r2;exact SeqAt.RcAt.bool_int _ _ _
  | str x=>obtain ⟨t,rfl⟩:=r2;exact SeqAt.RcAt.bool_str _ _ _
  | tup h hs=>cases (show u'=Value.ref _ from r2);obtain ⟨its,rv,p,hz⟩:=I.tuple h;exact SeqAt.RcAt.bool_tuple _ (show s.heap.IsTuple _ its.toArray from p) hu
  | lst h hs=>cases (show u'=Value.ref _ from r2);obtain ⟨its,rv,p,hz⟩:=I.list h;exact SeqAt.RcAt.bool_list _ p.isList hu
 | int i=>
  obtain ⟨t,rfl⟩:=r1
  cases h2 with
  | non=>cases (show u'=Value.none from r2);exact SeqAt.RcAt.int_none _ _
  | bl b=>cases (show u'=Value.bool _ from r2);exact SeqAt.RcAt.int_bool _ _ _
  | int i=>obtain ⟨t,rfl⟩:=r2;exact SeqAt.RcAt.int_int _ _ _ _
  | str x=>obtain ⟨t,rfl⟩:=r2;exact SeqAt.RcAt.int_str _ _ _ _
  | tup h hs=>cases (show u'=Value.ref _ from r2);obtain ⟨its,rv,p,hz⟩:=I.tuple h;exact SeqAt.RcAt.int_tuple _ _ (show s.heap.IsTuple _ its.toArray from p) hu
  | lst h hs=>cases (show u'=Value.ref _ from r2);obtain ⟨its,rv,p,hz⟩:=I.list h;exact SeqAt.RcAt.int_list _ _ p.isList hu
 | str x=>
  obtain ⟨t,rfl⟩:=r1
  cases h2 with
  | non=>cases (show u'=Value.none from r2);exact SeqAt.RcAt.str_none _ _
  | bl b=>cases (show u'=Value.bool _ from r2);exact SeqAt.RcAt.str_bool _ _ _
  | int i=>obtain ⟨t,rfl⟩:=r2;exact SeqAt.RcAt.str_int _ _ _ _
  | str x=>obtain ⟨t,rfl⟩:=r2;exact SeqAt.RcAt.str_str _ _ _ _
  | tup h hs=>cases (show u'=Value.ref _ from r2);obtain ⟨its,rv,p,hz⟩:=I.tuple h;exact SeqAt.RcAt.str_tuple _ _ (show s.heap.IsTuple _ its.toArray from p) hu
  | lst h hs=>cases (show u'=Value.ref _ from r2);obtain ⟨its,rv,p,hz⟩:=I.list h;exact SeqAt.RcAt.str_list _ _ p.isList hu
 | @tup a xs ds h hs=>
  cases (show u=Value.ref a from r1)
  obtain ⟨its,rv,p,hz⟩:=I.tuple h
  cases h2 with
  | non=>cases (show u'=Value.none from r2);exact SeqAt.RcAt.tuple_none (show s.heap.IsTuple _ its.toArray from p) hu
  | bl b=>cases (show u'=Value.bool _ from r2);exact SeqAt.RcAt.tuple_bool _ (show s.heap.IsTuple _ its.toArray from p) hu
  | int i=>obtain ⟨t,rfl⟩:=r2;exact SeqAt.RcAt.tuple_int _ _ (show s.heap.IsTuple _ its.toArray from p) hu
  | str x=>obtain ⟨t,rfl⟩:=r2;exact SeqAt.RcAt.tuple_str _ _ (show s.heap.IsTuple _ its.toArray from p) hu
  | @tup a' xs' ds' h' hs'=>
   cases (show u'=Value.ref a' from r2)
   ·obtain ⟨its',rv',p',hz'⟩:=I.tuple h'
    have l1:its.toArray.size=ds.length:=by rw [List.size_toArray,<-rv.length,hs.length]
    have l2:its'.toArray.size=ds'.length:=by rw [List.size_toArray,<-rv'.length,hs'.length]
    have key:=SeqAt.RcAt.tuples (A:=A) (s:=s) (show s.heap.IsTuple a its.toArray from p) (show s.heap.IsTuple a' its'.toArray from p') hu
     (lY (A:=A.in1) (s:=s) hs hs' rv rv' fun d d' v v' u u' hm iv iv' r r'=>rc ds (.inl rfl) d d' v v' u u' hm iv iv' r r')
    rw [l1,l2,<-lU] at key
    exact key
  | @lst a' xs' ds' h' hs'=>
   cases (show u'=Value.ref a' from r2)
   obtain ⟨its',rv',p',hz'⟩:=I.list h'
   exact SeqAt.RcAt.tuple_list (show s.heap.IsTuple _ its.toArray from p) p'.isList hu
 | @lst a xs ds h hs=>
  cases (show u=Value.ref a from r1)
  obtain ⟨its,rv,p,hz⟩:=I.list h
  cases h2 with
  | non=>cases (show u'=Value.none from r2);exact SeqAt.RcAt.list_none p.isList hu
  | bl b=>cases (show u'=Value.bool _ from r2);exact SeqAt.RcAt.list_bool _ p.isList hu
  | int i=>obtain ⟨t,rfl⟩:=r2;exact SeqAt.RcAt.list_int _ _ p.isList hu
  | str x=>obtain ⟨t,rfl⟩:=r2;exact SeqAt.RcAt.list_str _ _ p.isList hu
  | @tup a' xs' ds' h' hs'=>
   cases (show u'=Value.ref a' from r2)
   obtain ⟨its',rv',p',hz'⟩:=I.tuple h'
   exact SeqAt.RcAt.list_tuple p.isList (show s.heap.IsTuple _ its'.toArray from p') hu
  | @lst a' xs' ds' h' hs'=>
   cases (show u'=Value.ref a' from r2)
   ·obtain ⟨its',rv',p',hz'⟩:=I.list h'
    have l1:its.toArray.size=ds.length:=by rw [List.size_toArray,<-rv.length,hs.length]
    have l2:its'.toArray.size=ds'.length:=by rw [List.size_toArray,<-rv'.length,hs'.length]
    by_cases hl:ds.length=ds'.length
    ·have key:=SeqAt.RcAt.lists (A:=A) (s:=s) p.isList p'.isList (by rw [l1,l2,hl]) hu
      (lY (A:=A.in1) (s:=s) hs hs' rv rv' fun d d' v v' u u' hm iv iv' r r'=>rc ds (.inr rfl) d d' v v' u u' hm iv iv' r r')
     rw [l1,gY hl] at key
     exact key
    ·have key:=SeqAt.RcAt.lists_lengths (A:=A) (s:=s) p.isList p'.isList (by rw [l1,l2];simp [hl]) hu
     rw [eqD,xL hl]
     exact key
theorem zFc (I:Inv X pins σ H s) {A:Around} {v v':V} {d d':D} {u u':Value} (h1:IsD X.K H v d) (h2:IsD X.K H v' d') (r1:cS v u) (r2:cS v' u') (hu:A.units < cLine)
  (rc:∀ ds,(d=.tup ds∨d=.lst ds)->∀ (e e':D) (w w':V) (z z':Value),e∈ds->IsD X.K H w e->IsD X.K H w' e'->cS w z->cS w' z'->SeqAt.EqAt A.in1 s z z' (eqD e e')):
  SeqAt.RcNeAt A s u u' (!eqD d d'):=by
 cases h1 with
 | non=>
  cases (show u=Value.none from r1)
  cases h2 with
  | non=>cases (show u'=Value.none from r2);exact SeqAt.RcNeAt.none_none
  | bl b=>cases (show u'=Value.bool _ from r2);exact SeqAt.RcNeAt.none_bool _
  | int i=>obtain ⟨t,rfl⟩:=r2;exact SeqAt.RcNeAt.none_int _ _
  | str x=>obtain ⟨t,rfl⟩:=r2;exact SeqAt.RcNeAt.none_str _ _
  | tup h hs=>cases (show u'=Value.ref _ from r2);obtain ⟨its,rv,p,hz⟩:=I.tuple h;exact SeqAt.RcNeAt.none_tuple (show s.heap.IsTuple _ its.toArray from p) hu
  | lst h hs=>cases (show u'=Value.ref _ from r2);obtain ⟨its,rv,p,hz⟩:=I.list h;exact SeqAt.RcNeAt.none_list p.isList hu
 | bl b=>
  cases (show u=Value.bool _ from r1)
  cases h2 with
  | non=>cases (show u'=Value.none from r2);exact SeqAt.RcNeAt.bool_none _
  | bl b=>cases (show u'=Value.bool _ from r2);exact SeqAt.RcNeAt.bool_bool _ _
  | int i=>obtain ⟨t,rfl⟩:=r2;exact SeqAt.RcNeAt.bool_int _ _ _
  | str x=>obtain ⟨t,rfl⟩:=r2;exact SeqAt.RcNeAt.bool_str _ _ _
  | tup h hs=>cases (show u'=Value.ref _ from r2);obtain ⟨its,rv,p,hz⟩:=I.tuple h;exact SeqAt.RcNeAt.bool_tuple _ (show s.heap.IsTuple _ its.toArray from p) hu
  | lst h hs=>cases (show u'=Value.ref _ from r2);obtain ⟨its,rv,p,hz⟩:=I.list h;exact SeqAt.RcNeAt.bool_list _ p.isList hu
 | int i=>
  obtain ⟨t,rfl⟩:=r1
  cases h2 with
  | non=>cases (show u'=Value.none from r2);exact SeqAt.RcNeAt.int_none _ _
  | bl b=>cases (show u'=Value.bool _ from r2);exact SeqAt.RcNeAt.int_bool _ _ _
  | int i=>obtain ⟨t,rfl⟩:=r2;exact SeqAt.RcNeAt.int_int _ _ _ _
  | str x=>obtain ⟨t,rfl⟩:=r2;exact SeqAt.RcNeAt.int_str _ _ _ _
  | tup h hs=>cases (show u'=Value.ref _ from r2);obtain ⟨its,rv,p,hz⟩:=I.tuple h;exact SeqAt.RcNeAt.int_tuple _ _ (show s.heap.IsTuple _ its.toArray from p) hu
  | lst h hs=>cases (show u'=Value.ref _ from r2);obtain ⟨its,rv,p,hz⟩:=I.list h;exact SeqAt.RcNeAt.int_list _ _ p.isList hu
 | str x=>
  obtain ⟨t,rfl⟩:=r1
  cases h2 with
  | non=>cases (show u'=Value.none from r2);exact SeqAt.RcNeAt.str_none _ _
  | bl b=>cases (show u'=Value.bool _ from r2);exact SeqAt.RcNeAt.str_bool _ _ _
  | int i=>obtain ⟨t,rfl⟩:=r2;exact SeqAt.RcNeAt.str_int _ _ _ _
  | str x=>obtain ⟨t,rfl⟩:=r2;exact SeqAt.RcNeAt.str_str _ _ _ _
  | tup h hs=>cases (show u'=Value.ref _ from r2);obtain ⟨its,rv,p,hz⟩:=I.tuple h;exact SeqAt.RcNeAt.str_tuple _ _ (show s.heap.IsTuple _ its.toArray from p) hu
  | lst h hs=>cases (show u'=Value.ref _ from r2);obtain ⟨its,rv,p,hz⟩:=I.list h;exact SeqAt.RcNeAt.str_list _ _ p.isList hu
 | @tup a xs ds h hs=>
  cases (show u=Value.ref a from r1)
  obtain ⟨its,rv,p,hz⟩:=I.tuple h
  cases h2 with
  | non=>cases (show u'=Value.none from r2);exact SeqAt.RcNeAt.tuple_none (show s.heap.IsTuple _ its.toArray from p) hu
  | bl b=>cases (show u'=Value.bool _ from r2);exact SeqAt.RcNeAt.tuple_bool _ (show s.heap.IsTuple _ its.toArray from p) hu
  | int i=>obtain ⟨t,rfl⟩:=r2;exact SeqAt.RcNeAt.tuple_int _ _ (show s.heap.IsTuple _ its.toArray from p) hu
  | str x=>obtain ⟨t,rfl⟩:=r2;exact SeqAt.RcNeAt.tuple_str _ _ (show s.heap.IsTuple _ its.toArray from p) hu
  | @tup a' xs' ds' h' hs'=>
   cases (show u'=Value.ref a' from r2)
   ·obtain ⟨its',rv',p',hz'⟩:=I.tuple h'
    have l1:its.toArray.size=ds.length:=by rw [List.size_toArray,<-rv.length,hs.length]
    have l2:its'.toArray.size=ds'.length:=by rw [List.size_toArray,<-rv'.length,hs'.length]
    have key:=SeqAt.RcNeAt.tuples (A:=A) (s:=s) (show s.heap.IsTuple a its.toArray from p) (show s.heap.IsTuple a' its'.toArray from p') hu
     (lY (A:=A.in1) (s:=s) hs hs' rv rv' fun d d' v v' u u' hm iv iv' r r'=>rc ds (.inl rfl) d d' v v' u u' hm iv iv' r r')
    rw [l1,l2,<-lU] at key
    exact key
  | @lst a' xs' ds' h' hs'=>
   cases (show u'=Value.ref a' from r2)
   obtain ⟨its',rv',p',hz'⟩:=I.list h'
   exact SeqAt.RcNeAt.tuple_list (show s.heap.IsTuple _ its.toArray from p) p'.isList hu
 | @lst a xs ds h hs=>
  cases (show u=Value.ref a from r1)
  obtain ⟨its,rv,p,hz⟩:=I.list h
  cases h2 with
  | non=>cases (show u'=Value.none from r2);exact SeqAt.RcNeAt.list_none p.isList hu
  | bl b=>cases (show u'=Value.bool _ from r2);exact SeqAt.RcNeAt.list_bool _ p.isList hu
  | int i=>obtain ⟨t,rfl⟩:=r2;exact SeqAt.RcNeAt.list_int _ _ p.isList hu
  | str x=>obtain ⟨t,rfl⟩:=r2;exact SeqAt.RcNeAt.list_str _ _ p.isList hu
  | @tup a' xs' ds' h' hs'=>
   cases (show u'=Value.ref a' from r2)
   obtain ⟨its',rv',p',hz'⟩:=I.tuple h'
   exact SeqAt.RcNeAt.list_tuple p.isList (show s.heap.IsTuple _ its'.toArray from p') hu
  | @lst a' xs' ds' h' hs'=>
   cases (show u'=Value.ref a' from r2)
   ·obtain ⟨its',rv',p',hz'⟩:=I.list h'
    have l1:its.toArray.size=ds.length:=by rw [List.size_toArray,<-rv.length,hs.length]
    have l2:its'.toArray.size=ds'.length:=by rw [List.size_toArray,<-rv'.length,hs'.length]
    by_cases hl:ds.length=ds'.length
    ·have key:=SeqAt.RcNeAt.lists (A:=A) (s:=s) p.isList p'.isList (by rw [l1,l2,hl]) hu
      (lY (A:=A.in1) (s:=s) hs hs' rv rv' fun d d' v v' u u' hm iv iv' r r'=>rc ds (.inr rfl) d d' v v' u u' hm iv iv' r r')
     rw [l1,gY hl] at key
     exact key
    ·have key:=SeqAt.RcNeAt.lists_lengths (A:=A) (s:=s) p.isList p'.isList (by rw [l1,l2];simp [hl]) hu
     rw [eqD,xL hl]
     exact key
theorem eqA {X:Cx} (hu:X.A.units+64 < cLine):OpR X (compareOp .Eq) (fun x y H Q=>∃ d d',IsD X.K H x d/\IsD X.K H y d'/\dep d<=50/\Q (.bl (eqD d d')) H):=by
 intro pins s σ H x y v u Q I rx ry h
 obtain ⟨d,d',h1,h2,hn,q⟩:=h
 refine zEM I h1 h2 rx ry (by omega) (fun ds hd e e' w w' z z' hm i1 i2 q1 q2=>?_) X.prog X.w X.xe _ ⟨.bl _,H,I,rfl,q⟩
 refine zEt I 50 ?_ i1 i2 X.A.in1 z z' (by show X.A.units+1+50 < cLine;omega) q1 q2
 have:=qF hm
 rcases hd with rfl | rfl<;>(rw [dep] at hn;omega)
theorem neA {X:Cx} (hu:X.A.units+64 < cLine):OpR X (compareOp .NotEq) (fun x y H Q=>∃ d d',IsD X.K H x d/\IsD X.K H y d'/\dep d<=50/\Q (.bl (!eqD d d')) H):=by
 intro pins s σ H x y v u Q I rx ry h
 obtain ⟨d,d',h1,h2,hn,q⟩:=h
 refine zFc I h1 h2 rx ry (by omega) (fun ds hd e e' w w' z z' hm i1 i2 q1 q2=>?_) X.prog X.w X.xe _ ⟨.bl _,H,I,rfl,q⟩
 refine zEt I 50 ?_ i1 i2 X.A.in1 z z' (by show X.A.units+1+50 < cLine;omega) q1 q2
 have:=qF hm
 rcases hd with rfl | rfl<;>(rw [dep] at hn;omega)
theorem wL {X:Cx}:OpK X (fun x y H Q=>∃ d d',IsD X.K H x d/\IsD X.K H y d'/\dep d<=50/\Q (.bl (eqD d d')) H) oEq:=⟨fun a b c z=>(by
  unfold oEq at z;split at z<;>cases z),fun Hi H x y a b d Q s r1 r2 z q=>by
  unfold oEq at z
  split at z
  ·rename_i h;cases z;exact ⟨a,b,r1.mono s,r2.mono s,h,q _ Hi H (Ext.refl s) (.bl _)⟩
  ·cases z⟩
theorem zGL {X:Cx}:OpK X (fun x y H Q=>∃ d d',IsD X.K H x d/\IsD X.K H y d'/\dep d<=50/\Q (.bl (!eqD d d')) H) oNe:=⟨fun a b c z=>(by
  unfold oNe at z;split at z<;>cases z),fun Hi H x y a b d Q s r1 r2 z q=>by
  unfold oNe at z
  split at z
  ·rename_i h;cases z;exact ⟨a,b,r1.mono s,r2.mono s,h,q _ Hi H (Ext.refl s) (.bl _)⟩
  ·cases z⟩
open Classical in
def zIQ (K:PySem.W.Frag) (H:Hp) (dx:D) (u:Value):Bool:=if ∃ w d,IsD K H w d/\cS w u/\eqD d dx=true then true else false
theorem zFi (I:Inv X pins σ H s) {dx d:D} {w:V} {u:Value} (h:IsD X.K H w d) (r:cS w u):zIQ X.K H dx u=eqD d dx:=by
 unfold zIQ
 by_cases e:eqD d dx=true
 ·rw [if_pos ⟨w,d,h,r,e⟩,e]
 ·rw [if_neg]
  ·simpa using e
  ·rintro ⟨w',d',h',r',e'⟩
   have:=r.inj r'
   subst this
   have:=IsD.inj I h h'
   subst this
   exact e e'
theorem tU (I:Inv X pins σ H s) {dx:D}:∀ {xs:List V} {ds:List D} {us:List Value},IsDs X.K H xs ds->dE xs us->us.any (zIQ X.K H dx)=ds.any fun d=>eqD d dx
 | _,_,_,.nil,.nil=>rfl
 | _,_,_,.cons h hs,.cons r t=>by rw [List.any_cons,List.any_cons,zFi I h r,tU I hs t]
theorem tT (I:Inv X pins σ H s) {A:Around} {dx:D} {x:V} {ux:Value} (hx:IsD X.K H x dx) (rx:cS x ux) (hu:A.units+50 < cLine):∀ {xs:List V} {ds:List D} {us:List Value},IsDs X.K H xs ds->dE xs us->(∀ d∈ds,dep d<=50)->∀ u∈us,SeqAt.EqAt A s u ux (zIQ X.K H dx u)
 | _,_,_,.nil,.nil,_=>fun u hu=>by cases hu
 | _,_,_,.cons h hs,.cons r t,f=>fun u hm=>by
  rcases List.mem_cons.mp hm with rfl | hm
  ·rw [zFi I h r];exact zEt I 50 (f _ List.mem_cons_self) h hx A _ ux hu r rx
  ·exact tT I hx rx hu hs t (fun d hd=>f d (List.mem_cons_of_mem _ hd)) u hm
def zML (K:PySem.W.Frag) (neg:Bool):R2:=fun x y H Q=>∃ d ds,IsD K H x d/\(IsD K H y (.lst ds)∨IsD K H y (.tup ds))/\depS ds<=50/\Q (.bl (if neg=true then !(ds.any fun e=>eqD e d) else ds.any fun e=>eqD e d)) H
theorem inA {X:Cx} (hu:X.A.units+64 < cLine):OpR X (compareOp .In) (zML X.K false):=by
 intro pins s σ H x y v u Q I rx ry h
 obtain ⟨d,ds,h1,h2,hn,q⟩:=h
 have hd:∀ e∈ds,dep e<=50:=fun e he=>Nat.le_trans (qF he) hn
 rcases h2 with h2 | h2
 ·obtain ⟨a,xs,rfl,hl,hs⟩:=h2.lstI
  cases ry
  obtain ⟨its,rv,p,hz⟩:=I.list hl
  refine SeqAt.in_listAt (zIQ X.K H d) p.isList (fun y hy=>tT I h1 rx (by show X.A.units+1+50 < cLine;omega) hs rv hd y (by simpa using hy)) ?_
  exact ⟨.bl _,H,I,by rw [List.any_toArray,tU I hs rv];rfl,q⟩
 ·obtain ⟨a,xs,rfl,hl,hs⟩:=h2.tupI
  cases ry
  obtain ⟨its,rv,p,hz⟩:=I.tuple hl
  refine SeqAt.in_tupleAt (zIQ X.K H d) (show s.heap.IsTuple _ its.toArray from p) (fun y hy=>tT I h1 rx (by show X.A.units+1+50 < cLine;omega) hs rv hd y (by simpa using hy)) ?_
  exact ⟨.bl _,H,I,by rw [List.any_toArray,tU I hs rv];rfl,q⟩
theorem zIj {X:Cx} (hu:X.A.units+64 < cLine):OpR X (compareOp .NotIn) (zML X.K true):=by
 intro pins s σ H x y v u Q I rx ry h
 obtain ⟨d,ds,h1,h2,hn,q⟩:=h
 have hd:∀ e∈ds,dep e<=50:=fun e he=>Nat.le_trans (qF he) hn
 rcases h2 with h2 | h2
 ·obtain ⟨a,xs,rfl,hl,hs⟩:=h2.lstI
  cases ry
  obtain ⟨its,rv,p,hz⟩:=I.list hl
  refine SeqAt.notIn_listAt (zIQ X.K H d) p.isList (fun y hy=>tT I h1 rx (by show X.A.units+1+50 < cLine;omega) hs rv hd y (by simpa using hy)) ?_
  exact ⟨.bl _,H,I,by rw [List.any_toArray,tU I hs rv];rfl,q⟩
 ·obtain ⟨a,xs,rfl,hl,hs⟩:=h2.tupI
  cases ry
  obtain ⟨its,rv,p,hz⟩:=I.tuple hl
  refine SeqAt.notIn_tupleAt (zIQ X.K H d) (show s.heap.IsTuple _ its.toArray from p) (fun y hy=>tT I h1 rx (by show X.A.units+1+50 < cLine;omega) hs rv hd y (by simpa using hy)) ?_
  exact ⟨.bl _,H,I,by rw [List.any_toArray,tU I hs rv];rfl,q⟩
theorem zOL {X:Cx}:OpK X (zML X.K false) oIn:=⟨fun a b c z=>(by
  cases b<;>first | cases z | (simp only [oIn] at z;split at z<;>cases z)),fun Hi H x y a b d Q s r1 r2 z q=>by
  cases b<;>first | cases z | skip
  ·rename_i ds
   simp only [oIn] at z
   split at z
   ·rename_i h;cases z;exact ⟨a,ds,r1.mono s,.inr (r2.mono s),h,q _ Hi H (Ext.refl s) (.bl _)⟩
   ·cases z
  ·rename_i ds
   simp only [oIn] at z
   split at z
   ·rename_i h;cases z;exact ⟨a,ds,r1.mono s,.inl (r2.mono s),h,q _ Hi H (Ext.refl s) (.bl _)⟩
   ·cases z⟩
theorem zFB {X:Cx}:OpK X (zML X.K true) tN:=⟨fun a b c z=>(by
  cases b<;>first | cases z | (simp only [tN] at z;split at z<;>cases z)),fun Hi H x y a b d Q s r1 r2 z q=>by
  cases b<;>first | cases z | skip
  ·rename_i ds
   simp only [tN] at z
   split at z
   ·rename_i h;cases z;exact ⟨a,ds,r1.mono s,.inr (r2.mono s),h,q _ Hi H (Ext.refl s) (.bl _)⟩
   ·cases z
  ·rename_i ds
   simp only [tN] at z
   split at z
   ·rename_i h;cases z;exact ⟨a,ds,r1.mono s,.inl (r2.mono s),h,q _ Hi H (Ext.refl s) (.bl _)⟩
   ·cases z⟩
end
end L3
namespace L3
open PySem PySem.Spec PyProof.Rows L2
unseal PEd PEf PTd PWd PAd PSd fG
section
variable {X:Cx} {G:Gx} {a b e:Expr} {es:List Expr} {pos p:Pos} {f g:Ev} {fs gs:Fv} {t u:Tv} {x:Str} {id T:String}
def zBu (X:Cx) (r:List V->Hp->VK->Prop) (o:List D->Res D):Prop:=(∀ a c,o a≠.err c)/\∀ (Hi H:Hp) (vs:List V) (ds:List D) (d:D) (Q:VK),Same Hi H->IsDs X.K Hi vs ds->o ds=.ok d->
 (∀ v Hi' H',Ext Hi H Hi' H'->IsD X.K Hi' v d->Q v H')->r vs H Q
theorem zLq {r:List V->Hp->VK->Prop} {o:List D->Res D} (k:zBu X r o):∀ σ H Q,tD X G (eB o fs) σ H Q->tCB r (tAs X G fs) σ H Q:=fun σ H Q q=>by
 obtain ⟨ρ,Hi,R,ou⟩:=q
 refine zGM R ou fun vs ds Hi1 H1 e1 R1 r1 o1=>?_
 cases z:o ds with
 | no=>rw [z] at o1;exact o1.elim
 | err c=>exact absurd z (k.1 ds c)
 | ok d=>rw [z] at o1;exact k.2 Hi1 H1 vs ds d Q R1.s r1 z fun v Hi2 H2 e2 r2=>o1 Hi2 H2 e2 v r2
theorem aY {r:List V->Hp->VK->Prop} {o:List D->Res D} (hc:uT X (.builtin id) r) (k:zBu X r o) (hg:Gl X x) (hm:X.mg x=none) (hv:bootBuiltins x=some (.builtin id)) (ha:PAd X G (e::es) fs) (hn:x ≠ "__name__" := by decide) (hdb:(x==("__debug__" : Str))=false:=by decide)
  (he:starEach (e::es) X.env=(false,eval e X.env)::starEach es X.env:=by rfl) (hpl:(backTo pos (starEach es X.env)).any (·.1)=false:=by rfl):PEd X G (.Call (.Name x p) (e::es) [] pos) (eB o fs):=
 PE.wk (xA hc hg hm hv ha hn hdb he hpl) (zLq k)
theorem tM {r:List V->Hp->VK->Prop} {o:List D->Res D} (hc:uT X (.type T) r) (k:zBu X r o) (hg:Gl X x) (hm:X.mg x=none) (hv:bootBuiltins x=some (.type T)) (ha:PAd X G (e::es) fs) (hn:x ≠ "__name__" := by decide) (hdb:(x==("__debug__" : Str))=false:=by decide)
  (he:starEach (e::es) X.env=(false,eval e X.env)::starEach es X.env:=by rfl) (hpl:(backTo pos (starEach es X.env)).any (·.1)=false:=by rfl):PEd X G (.Call (.Name x p) (e::es) [] pos) (eB o fs):=
 PE.wk (zN hc hg hm hv ha hn hdb he hpl) (zLq k)
theorem IsDs.one {K:PySem.W.Frag} {H:Hp} {vs:List V} {d:D} (h:IsDs K H vs [d]):∃ v,vs=[v]/\IsD K H v d:=by
 cases h with
 | cons h t=>cases t;exact ⟨_,rfl,h⟩
theorem IsDs.two {K:PySem.W.Frag} {H:Hp} {vs:List V} {d d':D} (h:IsDs K H vs [d,d']):∃ v w,vs=[v,w]/\IsD K H v d/\IsD K H w d':=by
 cases h with
 | cons h t=>obtain ⟨w,rfl,hw⟩:=t.one;exact ⟨_,w,rfl,h,hw⟩
theorem dH:zBu X (fun xs H Q=>∃ p ys,xs=[.ref p]/\(SqL X.K H p ys∨SqT X.K H p ys)/\Q (.int ys.length) H) kM:=⟨fun a c z=>(by
  unfold kM at z;split at z<;>cases z),fun Hi H vs ds d Q s r z q=>by
  unfold kM at z
  split at z
  ·cases z
   obtain ⟨v,rfl,h⟩:=r.one
   obtain ⟨a,xs,rfl,h1,h2⟩:=h.lstI
   refine ⟨a,xs,rfl,.inl (cO s h1),?_⟩
   rw [h2.length]
   exact q _ Hi H (Ext.refl s) (.int _)
  ·cases z
   obtain ⟨v,rfl,h⟩:=r.one
   obtain ⟨a,xs,rfl,h1,h2⟩:=h.tupI
   refine ⟨a,xs,rfl,.inr (bX s h1),?_⟩
   rw [h2.length]
   exact q _ Hi H (Ext.refl s) (.int _)
  ·cases z⟩
theorem zCW:zBu X (fun xs H Q=>∃ i,xs=[.int i]/\Q (.int (if i < 0 then -i else i)) H) zIT:=⟨fun a c z=>(by
  unfold zIT at z;split at z<;>cases z),fun Hi H vs ds d Q s r z q=>by
  unfold zIT at z
  split at z
  ·cases z
   obtain ⟨v,rfl,h⟩:=r.one
   exact ⟨_,by rw [h.intI],q _ Hi H (Ext.refl s) (.int _)⟩
  ·cases z⟩
theorem zEy:zBu X (fun xs H Q=>∃ p ys,xs=[.ref p]/\((SqL X.K H p ys/\∀ l,H l=none->Q (.ref l) (upd H l (.tup ys)))∨(SqT X.K H p ys/\Q (.ref p) H))) zIi:=⟨fun a c z=>(by
  unfold zIi at z;split at z<;>cases z),fun Hi H vs ds d Q s r z q=>by
  unfold zIi at z
  split at z
  ·cases z
   obtain ⟨v,rfl,h⟩:=r.one
   obtain ⟨a,xs,rfl,h1,h2⟩:=h.lstI
   exact ⟨a,xs,rfl,.inl ⟨cO s h1,fun l hl=>q _ _ _ (Ext.new s hl) (.tup (SqT.of aZ) (h2.mono (dA (s.none hl) _)))⟩⟩
  ·cases z
   obtain ⟨v,rfl,h⟩:=r.one
   obtain ⟨a,xs,rfl,h1,h2⟩:=h.tupI
   exact ⟨a,xs,rfl,.inr ⟨bX s h1,q _ Hi H (Ext.refl s) (.tup h1 h2)⟩⟩
  ·cases z⟩
theorem zFI (hg:Gl X "list") (hm:X.mg "list" = none) (hv:bootBuiltins "list" = some (.type "list")) (ha:PAd X G (e::es) fs)
  (he:starEach (e::es) X.env=(false,eval e X.env)::starEach es X.env:=by rfl) (hpl:(backTo pos (starEach es X.env)).any (·.1)=false:=by rfl):PEf X G (.Call (.Name "list" p) (e::es) [] pos) (zGU fs):=
 PE.wk (zN zAW hg hm hv ha (by decide) (by decide) he hpl) fun σ H Q q=>by
 obtain ⟨ρ,Hi,R,ou⟩:=q
 refine zGM R ou fun vs ds Hi1 H1 e1 R1 r1 o1=>?_
 split at o1
 ·obtain ⟨v,rfl,h⟩:=r1.one
  obtain ⟨a,xs,rfl,h1,h2⟩:=h.lstI
  exact ⟨a,xs,rfl,.inl (cO R1.s h1),fun l hl=>o1 _ _ (Ext.newF R1.s hl) l ⟨e1.h.none hl,R1.s.none hl,xs,aZ,h2⟩⟩
 ·obtain ⟨v,rfl,h⟩:=r1.one
  obtain ⟨a,xs,rfl,h1,h2⟩:=h.tupI
  exact ⟨a,xs,rfl,.inr (bX R1.s h1),fun l hl=>o1 _ _ (Ext.newF R1.s hl) l ⟨e1.h.none hl,R1.s.none hl,xs,aZ,h2⟩⟩
 ·exact o1.elim
structure Kit (K:PySem.W.Frag) (T:String):Prop where
 non:PySem.W.kitOne K (.type "NoneType") (.type T)=some (isT T .non)
 bl:PySem.W.kitOne K (.type "bool") (.type T)=some (isT T (.bl true))
 int:PySem.W.kitOne K (.type "int") (.type T)=some (isT T (.int 0))
 str:PySem.W.kitOne K (.type "str") (.type T)=some (isT T (.str ⟨#[]⟩))
 tup:PySem.W.kitOne K (.type "tuple") (.type T)=some (isT T (.tup []))
 lst:PySem.W.kitOne K (.type "list") (.type T)=some (isT T (.lst []))
theorem zMD (k:Kit X.K T):uT X (.builtin "isinstance") (fun xs H Q=>∃ y d,xs=[y,.ty T]/\IsD X.K H y d/\Q (.bl (isT T d)) H):=by
 intro pins s σ H xs us Q I r h
 obtain ⟨y,d,rfl,hd,q⟩:=h
 obtain ⟨u,w',rfl,rx,rc⟩:=zMR r
 cases rc
 have fin:∀ tk,EP X pins σ Q (.bool (isT T d)) { s with toks:=tk }:=fun tk=>⟨.bl _,H,I.tok _,rfl,q⟩
 cases hd with
 | non=>cases (show u=Value.none from rx);exact PySem.W.kia_one PySem.W.kitx_none I.kIn True.intro k.non (fun z=>nomatch z) fin
 | bl y=>cases (show u=Value.bool y from rx);exact PySem.W.kia_one PySem.W.kitx_bool I.kIn True.intro k.bl (fun z=>nomatch z) fin
 | int i=>obtain ⟨t,q⟩:=(show ∃ t,u=Value.int i t from rx);cases q;exact PySem.W.kia_one PySem.W.kitx_int I.kIn True.intro k.int (fun z=>nomatch z) fin
 | str y=>obtain ⟨t,q⟩:=(show ∃ t,u=Value.str y t from rx);cases q;exact PySem.W.kia_one PySem.W.kitx_str I.kIn True.intro k.str (fun z=>nomatch z) fin
 | @tup a xs ds h hs=>
  cases (show u=Value.ref a from rx)
  obtain ⟨its,rv,⟨o,h1,h2,_⟩,hz⟩:=I.tuple h
  exact PySem.W.kia_one PySem.W.kitx_tuple I.kIn ⟨o,h1,h2⟩ k.tup (fun z=>nomatch z) fin
 | @lst a xs ds h hs=>
  cases (show u=Value.ref a from rx)
  obtain ⟨its,rv,⟨o,n,h1,h2,_⟩,hz⟩:=I.list h
  exact PySem.W.kia_one PySem.W.kitx_list I.kIn ⟨o,h1,h2⟩ k.lst (fun z=>nomatch z) fin
theorem sM {c:Expr} (k:Kit X.K T) (hg:Gl X "isinstance") (hm:X.mg "isinstance" = none) (ha:PEd X G a f) (hc:PE X c (tC (.ty T)))
  (h1:starEach [a,c] X.env=(false,eval a X.env)::starEach [c] X.env:=by rfl) (h2:starEach [c] X.env=(false,eval c X.env)::starEach [] X.env:=by rfl) (hpl:(backTo pos (starEach [c] X.env)).any (·.1)=false:=by rfl):
  PEd X G (.Call (.Name "isinstance" p) [a,c] [] pos) (zHd T f):=
 PE.wk (xA (zMD k) hg hm boot_isinstance (jS ha (jS hc qK h2) h1) (by decide) (by decide) h1 hpl) fun σ H Q q=>by
 obtain ⟨ρ,Hi,R,ou⟩:=q
 refine zBA R ou fun v d Hi1 H1 e1 R1 r1 o1=>?_
 exact ⟨v,d,rfl,r1.mono R1.s,o1.here R1.s _ (.bl _)⟩
variable {lo hi:Option Expr} {l h:Ov} {p2:Pos}
def tOv (X:Cx) (G:Gx) (f:Ov):TO:=fun σ H Q=>∃ ρ Hi,kL X G Hi H σ ρ/\Out G Hi H (f ρ) fun o _ H'=>Q o H'
@[irreducible] def POd (X:Cx) (G:Gx) (e:Option Expr) (f:Ov):Prop:=PO X e (tOv X G f)
unseal POd
theorem PO.wk {X:Cx} {e:Option Expr} {t t':TO} (h:PO X e t) (w:∀ σ H Q,t' σ H Q->t σ H Q):PO X e t':=fun pins s σ H Q I q=>h pins s σ H Q I (w σ H Q q)
theorem zJp:POd X G none oN:=PO.wk zKa fun σ H Q q=>by
 obtain ⟨ρ,Hi,R,ou⟩:=q
 exact ou.here R.s
theorem zBE (he:PEd X G e f):POd X G (some e) (oS f):=PO.wk (zKf he) fun σ H Q q=>by
 obtain ⟨ρ,Hi,R,ou⟩:=q
 refine zBA R ou fun v d Hi1 H1 e1 R1 r1 o1=>?_
 cases d with
 | int i=>exact ⟨i,r1.intI,o1.here R1.s⟩
 | _=>exact o1.elim
theorem zNN {f:Ov} {Hi H:Hp} {σ:St} {ρ:Rho} {β:Type} {k:Option Int->Res β} {k':β->Hp->Hp->Prop} {Q:Option Int->Hp->Prop} (R:kL X G Hi H σ ρ) (o:Out G Hi H ((f ρ).bind k) k')
  (w:∀ c Hi' H',Ext Hi H Hi' H'->kL X G Hi' H' σ ρ->Out G Hi' H' (k c) k'->Q c H'):tOv X G f σ H Q:=
 ⟨ρ,Hi,R,o.bind.imp fun d Hi' H' e q=>w d Hi' H' e (R.grow e) q⟩
theorem zEX (n d:Nat) (i:Option Int):cut n i d=HT.sIx n d i:=by
 cases i with
 | none=>rfl
 | some i=>
  simp only [cut,HT.sIx]
  split<;>split<;>omega
theorem IsDs.cut {K:PySem.W.Frag} {H:Hp} {xs:List V} {ds:List D} (h:IsDs K H xs ds) (l r:Option Int):IsDs K H (zKJ xs l r) (kI ds l r):=by
 unfold zKJ kI
 rw [zEX,zEX,h.length]
 exact (h.drop _).take _
theorem zCY (he:PEd X G e f) (hl:POd X G lo l) (hu:POd X G hi h):PEf X G (.Subscript e (.Slice lo hi none p2) pos) (fSl f l h):=PE.wk (zHV zKr he hl hu) fun σ H Q q=>by
 obtain ⟨ρ,Hi,R,ou⟩:=q
 refine zBA R ou fun v d Hi1 H1 e1 R1 r1 o1=>?_
 refine zNN R1 o1 fun i Hi2 H2 e2 R2 o2=>?_
 refine zNN R2 o2 fun j Hi3 H3 e3 R3 o3=>?_
 cases d with
 | lst ds=>
  obtain ⟨a,xs,rfl,h1,h2⟩:=r1.lstI
  refine ⟨a,xs,rfl,cO (e2.i.trans (e3.i.trans R3.s)) h1,fun p hp=>?_⟩
  exact o3 _ _ (Ext.newF R3.s hp) p ⟨(e1.h.trans (e2.h.trans e3.h)).none hp,R3.s.none hp,_,aZ,(h2.cut i j).mono (e2.i.trans e3.i)⟩
 | _=>exact o3.elim
def zNh (K:PySem.W.Frag):R2:=fun x y H Q=>∃ l b xs zs,x=.ref l/\y=.ref b/\SqL K H l xs/\SqL K H b zs/\xs.length+zs.length<=sizeLine/\∀ p,H p=none->Q (.ref p) (upd H p (.lst (xs++zs)))
theorem zJt:OpR X (binaryOp .Add) (zNh X.K):=by
 intro pins s σ H x y v u Q I rx ry h
 obtain ⟨l,b,xs,zs,rfl,rfl,hl,hb,hz,q⟩:=h
 cases rx
 cases ry
 obtain ⟨its,r,p,_⟩:=I.list hl
 obtain ⟨its2,r2,p2,_⟩:=I.list hb
 obtain ⟨⟨cls,dd,data,sl⟩,ho,hc,n,hd⟩:=id p.isList
 obtain ⟨⟨cls2,dd2,data2,sl2⟩,ho2,hc2,n2,hd2⟩:=id p2.isList
 simp only at hc hd hc2 hd2
 subst hc hd hc2 hd2
 have hsz:its.toArray.size+its2.toArray.size<=sizeLine:=by rw [List.size_toArray,List.size_toArray,<-r.length,<-r2.length];exact hz
 have e:its.toArray++its2.toArray=(its++its2).toArray:=by simp
 refine concat_meets ⟨_,ho,rfl⟩ ⟨_,ho2,rfl⟩ noFill_list_add seq_list_add PySem.F.slot_list_add PySem.F.entry_list_add (PySem.F.args_list_add_2 _ _) (list_addW l b its.toArray its2.toArray n n2 dd dd2 sl sl2 hsz) ⟨ho,ho2,?_⟩
 rw [e]
 exact ⟨.ref _,_,I.lnew (t':=s.toks) (r.append r2) (by rw [List.length_append];exact hz),rfl,q _ I.fresh⟩
theorem zIx (ha:PEd X G a f) (hb:PEd X G b g):PEf X G (.BinOp a .Add b pos) (zMJ f g):=PE.wk (zGz zJt ha hb) fun σ H Q q=>by
 obtain ⟨ρ,Hi,R,ou⟩:=q
 refine zBA R ou fun v d Hi1 H1 e1 R1 r1 o1=>?_
 refine zBA R1 o1 fun w d' Hi2 H2 e2 R2 r2 o2=>?_
 cases d<;>first | exact o2.elim | skip
 cases d'<;>first | exact o2.elim | skip
 rename_i ds es
 obtain ⟨a,xs,rfl,h1,h2⟩:=r1.lstI
 obtain ⟨b,ys,rfl,h3,h4⟩:=r2.lstI
 have o2':Out G Hi2 H2 (if ds.length+es.length<=16777216 then Res.ok (ds++es) else .no) _:=o2
 by_cases hz:ds.length+es.length<=16777216
 ·rw [if_pos hz] at o2'
  refine ⟨a,b,xs,ys,rfl,rfl,cO (e2.i.trans e2.s) h1,cO e2.s h3,by rw [h2.length,h4.length];exact hz,fun p hp=>?_⟩
  exact o2' _ _ (Ext.newF e2.s hp) p ⟨(e1.h.trans e2.h).none hp,e2.s.none hp,_,aZ,(h2.mono e2.i).append h4⟩
 ·rw [if_neg hz] at o2';exact o2'.elim
end
end L3
namespace L3
open PySem PySem.Spec PyProof.Rows L2
unseal PEd PEf PTd PWd PAd PSd fG POd
section
variable {X:Cx} {G:Gx} {a b e:Expr} {es:List Expr} {pos p:Pos} {f g:Ev} {fs gs:Fv} {t u:Tv} {x:Str} {st:Stmt} {rest:List Stmt} {sa sb:Sv}
theorem nR {Hi H:Hp} {σ:St} {ρ:Rho} {E:Ends} {α:Type} {r:Res α} {k:α->Res Fl} (R:kL X G Hi H σ ρ) (h:Fin X G Hi E (r.bind k)) {Q:α->Hp->Hp->Prop}
  (w:∀ a Hi' H',r=.ok a->Ext Hi H Hi' H'->Fin X G Hi' E (k a)->Q a Hi' H'):Out G Hi H r Q:=by
 cases r with
 | no=>exact h
 | err c=>exact fun Hi' H' e=>h Hi' H' (R.ext.trans e)
 | ok a=>exact fun Hi' H' e=>w a Hi' H' rfl e (Fin.mono (show Fin X G Hi E (k a) from h) e.i)
theorem bL:fG X G [] sNext:=PSs.wk zKn fun E σ H q=>by
 obtain ⟨ρ,Hi,R,h⟩:=q
 exact h σ Hi H (Same.refl _) R
theorem zKL {E:Ends} {Hi:Hp} {ρ:Rho} (h:Fin X G Hi E (bF sa sb ρ)):Fin X G Hi { E with nx:=tS X G sb E } (sa ρ):=by
 unfold bF at h
 cases z:sa ρ with
 | no=>rw [z] at h;exact h
 | err c=>rw [z] at h;exact h
 | ok fl=>
  rw [z] at h
  cases fl with
  | nx ρ'=>exact fun σ' Hi' H' s R'=>⟨ρ',Hi',R',Fin.mono (show Fin X G Hi E (sb ρ') from h) s⟩
  | brk ρ'=>exact h
  | ctn ρ'=>exact h
  | ret r=>cases r<;>exact h
theorem zLY {E:Ends} {σ:St} {H:Hp} (q:tS X G (bF sa sb) E σ H):tS X G sa { E with nx:=tS X G sb E } σ H:=by
 obtain ⟨ρ,Hi,R,h⟩:=q
 exact ⟨ρ,Hi,R,zKL h⟩
theorem aI (h1:PSd X G st sa) (h2:fG X G rest sb):fG X G (st::rest) (bF sa sb):=PSs.wk (rH h1 h2) fun _ _ _ q=>zLY q
theorem aM (h1:PSd X G st sa):fG X G [st] sa:=zCg h1
theorem wE (he:PEd X G e f) (hs:swapsWith e none pos.line X.env=pure false:=by rfl):PSd X G (.Expr e pos) (zAO f):=PS.wk (zCp he hs) fun E σ H q=>by
 obtain ⟨ρ,Hi,R,h⟩:=q
 exact ⟨ρ,Hi,R,nR R h fun d Hi' H' _ e h' v r=>h' σ Hi' H' (Same.refl _) (R.grow e)⟩
theorem cK (he:PEd X G e f):PSd X G (.Return (some e) pos) (gX f):=PS.wk (zCX he) fun E σ H q=>by
 obtain ⟨ρ,Hi,R,h⟩:=q
 obtain ⟨Hf,s1,R1,fl⟩:=R.frz
 refine ⟨ρ.map Sl.frz,Hf,R1,nR R1 (Fin.mono h s1) fun d Hi' H' _ e h' v r=>?_⟩
 exact h' v Hi' H' (R1.ext.trans e) r
theorem fT (he:PEf X G e fs):PSd X G (.Return (some e) pos) (jW fs):=PS.wk (zCX he) fun E σ H q=>by
 obtain ⟨ρ,Hi,R,h⟩:=q
 obtain ⟨Hf,s1,R1,fl⟩:=R.frz
 refine ⟨ρ.map Sl.frz,Hf,R1,nR R1 (Fin.mono h s1) fun ds Hi' H' _ e h' a n=>?_⟩
 obtain ⟨n1,n2,xs,n3,n4⟩:=n
 exact h' a Hi' H' (R1.ext.trans e) ⟨R1.ext.h.none n1,n2,xs,n3,n4⟩
theorem iT (i:Nat) (he:PE X e (zDV i)):PSd X G (.Return (some e) pos) (gH i):=PS.wk (zCX he) fun E σ H q=>by
 obtain ⟨ρ,Hi,R,h⟩:=q
 unfold gH at h
 cases z:ρ[i]? with
 | none=>rw [z] at h;exact h.elim
 | some s=>
  rw [z] at h
  cases s with
  | own ds=>
   obtain ⟨a,xs,p,h1,h2,h3,h4⟩:=R.slot i _ z
   exact ⟨.ref a,p,h a Hi H R.ext ⟨h3,h2,xs,h1,h4⟩⟩
  | un=>exact h.elim
  | val d=>exact h.elim
  | exc c=>exact h.elim
  | tab T=>exact h.elim
theorem iZ {c:Expr} {as bs:List Stmt} (hc:PTd X G c t) (ha:fG X G as sa) (hb:fG X G bs sb):PSd X G (.If c as bs pos) (sIf t sa sb):=PS.wk (zNB hc ha hb) fun E σ H q=>by
 obtain ⟨ρ,Hi,R,h⟩:=q
 refine ⟨ρ,Hi,R,nR R h fun c Hi' H' _ e h'=>?_⟩
 cases c with
 | true=>exact ⟨ρ,Hi',R.grow e,h'⟩
 | false=>exact ⟨ρ,Hi',R.grow e,h'⟩
theorem bJ {i:Nat} {pos':Pos} (hN:X.N.Nodup) (hi:X.N[i]?=some x) (hx:Loc X.env.scope x) (he:PEd X G e f) (hs:swapsWith e (some (.Name x pos')) pos.line X.env=pure false:=by rfl)
  (hf:X.fn x=true∨X.env.scope.names.lookup x=some .local:=by first | exact .inl rfl | exact .inr rfl | assumption):PSd X G (.Assign [.Name x pos'] e pos) (dI i f):=PS.wk (zID hN hi hx he hs hf) fun E σ H q=>by
 obtain ⟨ρ,Hi,R,h⟩:=q
 exact ⟨ρ,Hi,R,nR R h fun d Hi' H' _ e h' v r=>h' _ Hi' H' (Same.refl _) ((R.grow e).set r)⟩
theorem uV {i:Nat} {pos':Pos} (hN:X.N.Nodup) (hi:X.N[i]?=some x) (hx:Loc X.env.scope x) (he:PEf X G e fs) (hs:swapsWith e (some (.Name x pos')) pos.line X.env=pure false:=by rfl)
  (hf:X.fn x=true∨X.env.scope.names.lookup x=some .local:=by first | exact .inl rfl | exact .inr rfl | assumption):PSd X G (.Assign [.Name x pos'] e pos) (zEh i fs):=PS.wk (zID hN hi hx he hs hf) fun E σ H q=>by
 obtain ⟨ρ,Hi,R,h⟩:=q
 refine ⟨ρ,Hi,R,nR R h fun ds Hi' H' _ e h' a n=>?_⟩
 obtain ⟨n1,n2,xs,n3,n4⟩:=n
 exact h' _ Hi' H' (Same.refl _) (R.setOwn e n1 n3 n2 n4)
theorem xS {i:Nat} {o:Expr} {apos cpos:Pos} (ho:PE X o (zDV i)) (he:PEd X G e f)
  (hbase:attributeBase o "append" X.env (eval o X.env)=eval o X.env:=by rfl)
  (hfew:((backTo cpos (starEach [e] X.env)).all (fun x=>!x.1) && (backToKw cpos (keywordEach [] X.env)).all (fun x=>x.1.isSome)
   && decide ([e].length+([]:List Keyword).length+(if ([]:List Keyword).isEmpty then 0 else 1) < 30))=true:=by rfl)
  (hline:(apos.endLine==cpos.line)=true:=by rfl) (hs:starEach [e] X.env=(false,eval e X.env)::starEach [] X.env:=by rfl)
  (hsw:swapsWith (.Call (.Attribute o "append" apos) [e] [] cpos) none pos.line X.env=pure false:=by rfl):
  PSd X G (.Expr (.Call (.Attribute o "append" apos) [e] [] cpos) pos) (zDF i f):=
 PS.wk (zCp (zNm PySem.F.plainAttrs_list PySem.F.slot_list_append PySem.F.type_list_append sC ho (jS he qK hs) hbase hfew hline hs) hsw) fun E σ H q=>by
 obtain ⟨ρ,Hi,R,h⟩:=q
 unfold zDF at h
 cases z:ρ[i]? with
 | none=>rw [z] at h;exact h.elim
 | some s=>
  rw [z] at h
  cases s with
  | own ds=>
   obtain ⟨a,xs,p,h1,h2,h3,h4⟩:=R.slot i _ z
   refine ⟨.ref a,p,.inl ⟨rfl,xs,SqL.of h1⟩,?_⟩
   refine ⟨ρ,Hi,R,nR R h fun d Hi' H' _ e h' v r=>?_⟩
   have R':=R.grow e
   obtain ⟨g1,g2⟩:=e.out h1 h2
   by_cases hz:ds.length < 16777216
   ·rw [if_pos hz] at h'
    refine ⟨a,xs,v,rfl,rfl,g1,by rw [h4.length];exact hz,?_⟩
    exact h' σ Hi' _ (Same.refl _) (R'.write z p ((h4.mono e.i).append (.cons r .nil)))
   ·rw [if_neg hz] at h';exact h'.elim
  | un=>exact h.elim
  | val d=>exact h.elim
  | exc c=>exact h.elim
  | tab T=>exact h.elim
theorem zNp {i:Nat} {o:Expr} {apos cpos:Pos} (ho:PE X o (zDV i))
  (hbase:attributeBase o "pop" X.env (eval o X.env)=eval o X.env:=by rfl) (hline:(apos.endLine==cpos.line)=true:=by rfl)
  (hsw:swapsWith (.Call (.Attribute o "pop" apos) [] [] cpos) none pos.line X.env=pure false:=by rfl):
  PSd X G (.Expr (.Call (.Attribute o "pop" apos) [] [] cpos) pos) (zMv i):=
 PS.wk (zCp (zLH PySem.F.plainAttrs_list PySem.F.slot_list_pop PySem.F.type_list_pop zMt ho hbase hline) hsw) fun E σ H q=>by
 obtain ⟨ρ,Hi,R,h⟩:=q
 unfold zMv at h
 cases z:ρ[i]? with
 | none=>rw [z] at h;exact h.elim
 | some s=>
  rw [z] at h
  cases s with
  | own ds=>
   obtain ⟨a,xs,p,h1,h2,h3,h4⟩:=R.slot i _ z
   refine ⟨.ref a,p,.inl ⟨rfl,xs,SqL.of h1⟩,?_⟩
   have h:Fin X G Hi E (if ds.length=0 then Res.no else Res.ok (Fl.nx (ρ.set i (.own ds.dropLast)))):=h
   by_cases hz:ds.length=0
   ·rw [if_pos hz] at h;exact h.elim
   ·rw [if_neg hz] at h
    have hl:=h4.length
    refine ⟨a,xs,xs[xs.length - 1]'(by omega),rfl,rfl,h1,List.getElem?_eq_getElem (by omega),?_⟩
    exact h σ Hi _ (Same.refl _) (R.write z p h4.dropLast)
  | un=>exact h.elim
  | val d=>exact h.elim
  | exc c=>exact h.elim
  | tab T=>exact h.elim
theorem zNt {i:Nat} {o k:Expr} {fk:Ev} {tpos:Pos} (ho:PE X o (zDV i)) (hk:PEd X G k fk) (he:PEd X G e f) (hs:swapsWithSole [.Subscript o k tpos] e pos.line X.env=pure false:=by rfl) (hw:swappedStores [.Subscript o k tpos] e X.env=pure none:=by rfl)
  (h1:(assignEach [.Subscript o k tpos] X.env).map (·.2)=[assign (.Subscript o k tpos) X.env]:=by rfl)
  (ha:∀ v,assign (.Subscript o k tpos) X.env v=(do
   let ov <-holding [v] (eval o X.env)
   let iv <-holding [v,ov] (eval k X.env)
   standAt tpos
   holding [v,ov,iv] (setItem ov iv v)
   release [v,ov,iv] []):=by intro _;rfl):PSd X G (.Assign [.Subscript o k tpos] e pos) (zMQ i fk f):=
 PS.wk (zLZ he (zLD ho hk zHb ha) hs hw h1) fun E σ H q=>by
 obtain ⟨ρ,Hi,R,h⟩:=q
 refine ⟨ρ,Hi,R,nR R h fun d Hi1 H1 _ e1 h1 v r=>?_⟩
 have R1:=R.grow e1
 cases z:ρ[i]? with
 | none=>rw [z] at h1;exact h1.elim
 | some s=>
  rw [z] at h1
  cases s with
  | own ds=>
   obtain ⟨a,xs,p,g1,g2,g3,g4⟩:=R1.slot i _ z
   refine ⟨.ref a,p,?_⟩
   refine ⟨ρ,Hi1,R1,nR R1 h1 fun j Hi2 H2 _ e2 h2 w rw'=>?_⟩
   have R2:=R1.grow e2
   obtain ⟨k1,k2⟩:=e2.out g1 g2
   cases j with
   | int j=>
    have hl:=g4.length
    have h2':Fin X G Hi2 E (if 0<=j/\j < ds.length then Res.ok (.nx (ρ.set i (.own (ds.set j.toNat d)))) else if -(ds.length:Int)<=j/\j < 0 then .ok (.nx (ρ.set i (.own (ds.set (j+ds.length).toNat d)))) else .no):=h2
    by_cases c1:0<=j/\j < ds.length
    ·rw [if_pos c1] at h2'
     refine ⟨a,xs,j,j.toNat,rfl,rw'.intI,k1,by unfold ixN;rw [if_pos c1.1,if_pos (by omega)],?_⟩
     exact h2' σ Hi2 _ (Same.refl _) (R2.write z p ((g4.mono e2.i).set (r.mono e2.i) j.toNat))
    ·rw [if_neg c1] at h2'
     by_cases c2:-(ds.length:Int)<=j/\j < 0
     ·rw [if_pos c2] at h2'
      refine ⟨a,xs,j,(j+ds.length).toNat,rfl,rw'.intI,k1,by unfold ixN;rw [if_neg (by omega),if_pos (by omega),hl],?_⟩
      exact h2' σ Hi2 _ (Same.refl _) (R2.write z p ((g4.mono e2.i).set (r.mono e2.i) (j+ds.length).toNat))
     ·rw [if_neg c2] at h2';exact h2'.elim
   | _=>exact h2.elim
  | un=>exact h1.elim
  | val d=>exact h1.elim
  | exc c=>exact h1.elim
  | tab T=>exact h1.elim
theorem zHZ {i:Nat} {op:Operator} {o:Op2} {r:Int->Int->Int} {pos':Pos} (hN:X.N.Nodup) (hi:X.N[i]?=some x) (hx:Loc X.env.scope x) (he:PEd X G e f) (ho:PIp X op (ipI r)) (hr:∀ a b d,o a b=.ok d->∃ i j,a=.int i/\b=.int j/\d=.int (r i j)) (hn:∀ a b c,o a b≠.err c)
  (hf:X.fn x=true∨X.env.scope.names.lookup x=some .local:=by first | exact .inl rfl | exact .inr rfl | assumption):PSd X G (.AugAssign (.Name x pos') op e pos) (zIm i o f):=PS.wk (zLr hN hi hx he ho hf) fun E σ H q=>by
 obtain ⟨ρ,Hi,R,h⟩:=q
 unfold zIm at h
 cases z:ρ[i]? with
 | none=>rw [z] at h;exact h.elim
 | some s=>
  rw [z] at h
  cases s with
  | val d=>
   obtain ⟨v,p,rv⟩:=R.slot i _ z
   refine ⟨v,p,ρ,Hi,R,nR R h fun d' Hi' H' _ e h' w rw'=>?_⟩
   cases q:o d d' with
   | no=>rw [q] at h';exact h'.elim
   | err c=>exact absurd q (hn _ _ _)
   | ok u=>
    rw [q] at h'
    obtain ⟨i',j',rfl,rfl,rfl⟩:=hr _ _ _ q
    exact ⟨i',j',rv.intI,rw'.intI,h' _ Hi' H' (Same.refl _) ((R.grow e).set (.int _))⟩
  | un=>exact h.elim
  | own ds=>exact h.elim
  | exc c=>exact h.elim
  | tab T=>exact h.elim
def tGv (X:Cx) (G:Gx) (g:Gv):TG:=fun v σ H Q=>∃ d ρ Hi,IsD X.K Hi v d/\kL X G Hi H σ ρ/\∃ ρ',g d ρ=.ok ρ'/\∀ σ' Hi' H',Same Hi Hi'->kL X G Hi' H' σ' ρ'->Q σ' H'
@[irreducible] def PGd (X:Cx) (G:Gx) (e:Expr) (g:Gv):Prop:=PG X e (tGv X G g)
unseal PGd
theorem cT {i:Nat} (hN:X.N.Nodup) (hi:X.N[i]?=some x) (hx:Loc X.env.scope x) (hf:X.fn x=true∨X.env.scope.names.lookup x=some .local:=by first | exact .inl rfl | exact .inr rfl | assumption):PGd X G (.Name x pos) (gName i):=
 fun pins s σ H v u Q I r q=>zBH hN hi hx hf pins s σ H v u Q I r (by
  obtain ⟨d,ρ,Hi,rd,R,ρ',e,k⟩:=q
  cases e
  exact k _ Hi H (Same.refl _) (R.set rd))
def zOE (X:Cx) (G:Gx) (g:List D->Rho->Res Rho):TGs:=fun vs σ H Q=>∃ ds ρ Hi,IsDs X.K Hi vs ds/\kL X G Hi H σ ρ/\∃ ρ',g ds ρ=.ok ρ'/\∀ σ' Hi' H',Same Hi Hi'->kL X G Hi' H' σ' ρ'->Q σ' H'
@[irreducible] def jA (X:Cx) (G:Gx) (es:List Expr) (g:List D->Rho->Res Rho):Prop:=PGs X es (zOE X G g)
unseal jA
theorem zIn:jA X G [] zHy:=fun pins s σ H vs us Q I r q=>zEz pins s σ H vs us Q I r (by
  obtain ⟨ds,ρ,Hi,rd,R,ρ',e,k⟩:=q
  cases ds with
  | nil=>cases rd;cases e;exact ⟨rfl,k _ Hi H (Same.refl _) R⟩
  | cons d ds=>cases e)
theorem yL {g:Gv} {r:List D->Rho->Res Rho} (h1:PGd X G e g) (h2:jA X G es r) (hs:(assignEach (e::es) X.env).map (·.2)=assign e X.env::(assignEach es X.env).map (·.2):=by rfl):jA X G (e::es) (rA g r):=
 fun pins s σ H vs us Q I rr q=>wJ h1 h2 hs pins s σ H vs us Q I rr (by
  obtain ⟨ds,ρ,Hi,rd,R,ρ',e,k⟩:=q
  cases ds with
  | nil=>cases e
  | cons d ds=>
   cases rd with
   | cons rd rds=>
    refine ⟨_,_,rfl,d,ρ,Hi,rd,R,?_⟩
    have e':(g d ρ).bind (fun ρ'=>r ds ρ')=.ok ρ':=e
    cases z:g d ρ with
    | no=>rw [z] at e';cases e'
    | err c=>rw [z] at e';cases e'
    | ok ρ1=>
     rw [z] at e'
     exact ⟨ρ1,rfl,fun σ1 Hi1 H1 s1 R1=>⟨ds,ρ1,Hi1,rds.mono s1,R1,ρ',e',fun σ2 Hi2 H2 s2 R2=>k σ2 Hi2 H2 (s1.trans s2) R2⟩⟩)
theorem zLO {k:Nat} {r:List D->Rho->Res Rho} {n:Nat} (hc:X.calm=true) (h:jA X G es r) (hr:∀ ds ρ ρ',r ds ρ=.ok ρ'->ds.length=n) (hn:(assignEach es X.env).length=n:=by rfl) (hst:(assignEach es X.env).findIdx? (·.1)=none:=by rfl):PGd X G (.Tuple es k pos) (zHp r):=
 fun pins s σ H v u Q I rr q=>zIw hc h hn hst pins s σ H v u Q I rr (by
  obtain ⟨d,ρ,Hi,rd,R,ρ',e,kk⟩:=q
  cases d with
  | tup ds=>
   obtain ⟨a,xs,rfl,h1,h2⟩:=rd.tupI
   exact ⟨a,xs,rfl,bX R.s h1,by rw [h2.length];exact hr ds ρ ρ' e,ds,ρ,Hi,h2,R,ρ',e,kk⟩
  | _=>cases e)
def sI (K:PySem.W.Frag) (Hi:Hp) (J:It) (ds:List D):Prop:=∀ (Hi1 H1:Hp),Same Hi Hi1->Same Hi1 H1->∀ i,
 (ds.length<=i->J.stop i H1)/\∀ d,ds[i]?=some d->J.go i H1/\∀ x H2,J.yld i H1 x H2->∃ Hi2,Ext Hi1 H1 Hi2 H2/\IsD K Hi2 x d
def tIv (X:Cx) (G:Gx) (f:Fv):TI:=fun σ H R=>∃ ρ Hi,kL X G Hi H σ ρ/\Out G Hi H (f ρ) fun ds Hi' H'=>∀ J,sI X.K Hi' J ds->R J H'
@[irreducible] def PId (X:Cx) (G:Gx) (tg e:Expr) (f:Fv):Prop:=PI X tg e (tIv X G f)
unseal PId
theorem PI.wk {tg:Expr} {t t':TI} (h:PI X tg e t) (w:∀ σ H Q,t' σ H Q->t σ H Q):PI X tg e t':=fun pins s σ H Q I q=>h pins s σ H Q I (w σ H Q q)
theorem zIc {g:Gv} {J:It} {ds:List D} {Hi1 H1:Hp} {σ:St} {ρ:Rho} {E:Ends} (hge:∀ d ρ c,g d ρ≠.err c) (R1:kL X G Hi1 H1 σ ρ) (h1:Fin X G Hi1 E (eP g sa ds ρ)) (gv:sI X.K Hi1 J ds):zNS (fun _ _ R=>R J H1) (tGv X G g) (tS X G sa) E σ H1:=by
 refine ⟨fun i m σ' H'=>m=ds.length - i/\∃ ρ' Hi',Same Hi1 Hi'/\kL X G Hi' H' σ' ρ'/\Fin X G Hi' E (eP g sa (ds.drop i) ρ'),⟨_,rfl,ρ,Hi1,Same.refl _,R1,h1⟩,?_⟩
 rintro i m σ' H' ⟨rfl,ρ',Hi',s',R',h'⟩
 obtain ⟨w1,w2⟩:=gv Hi' H' s' R'.s i
 by_cases hl:i < ds.length
 ·obtain ⟨d,hd⟩:∃ d,ds[i]?=some d:=⟨_,List.getElem?_eq_getElem hl⟩
  obtain ⟨go,yl⟩:=w2 d hd
  have e3:ds.drop i=d::ds.drop (i+1):=by
   rw [List.getElem?_eq_getElem hl] at hd
   cases hd
   exact List.drop_eq_getElem_cons hl
  rw [e3] at h'
  refine .inr ⟨go,fun σ2 H2=>∃ ρ2 Hi2,Same Hi1 Hi2/\kL X G Hi2 H2 σ2 ρ2/\Fin X G Hi2 E (eP g sa (ds.drop (i+1)) ρ2),fun σ2 H2 z=>⟨ds.length - (i+1),by omega,rfl,z⟩,fun x H2 y=>?_⟩
  obtain ⟨Hi2,e2,r2⟩:=yl x H2 y
  have R2:=R'.grow e2
  have h2:Fin X G Hi2 E ((g d ρ').bind fun ρ1=>(sa ρ1).bind fun f=>match f with
   | .nx ρ2=>eP g sa (ds.drop (i+1)) ρ2
   | .ctn ρ2=>eP g sa (ds.drop (i+1)) ρ2
   | .brk ρ2=>.ok (.nx ρ2)
   | .ret r=>.ok (.ret r)):=Fin.mono h' e2.i
  cases z:g d ρ' with
  | no=>rw [z] at h2;exact h2.elim
  | err c=>exact absurd z (hge _ _ _)
  | ok ρ1=>
   rw [z] at h2
   refine ⟨d,ρ',Hi2,r2,R2,ρ1,z,fun σ3 Hi3 H3 s3 R3=>⟨ρ1,Hi3,R3,?_⟩⟩
   have h3:=Fin.mono h2 s3
   have sm:Same Hi1 Hi3:=(s'.trans e2.i).trans s3
   simp only [Res.bind] at h3
   cases zb:sa ρ1 with
   | no=>rw [zb] at h3;exact h3.elim
   | err c=>rw [zb] at h3;exact h3
   | ok fl=>
    rw [zb] at h3
    cases fl with
    | nx ρ2=>exact fun σ4 Hi4 H4 s4 R4=>⟨ρ2,Hi4,sm.trans s4,R4,Fin.mono (show Fin X G Hi3 E (eP g sa (ds.drop (i+1)) ρ2) from h3) s4⟩
    | ctn ρ2=>exact fun σ4 Hi4 H4 s4 R4=>⟨ρ2,Hi4,sm.trans s4,R4,Fin.mono (show Fin X G Hi3 E (eP g sa (ds.drop (i+1)) ρ2) from h3) s4⟩
    | brk ρ2=>exact h3
    | ret r=>cases r<;>exact h3
 ·rw [List.drop_eq_nil_of_le (by omega)] at h'
  exact .inl ⟨w1 (by omega),h' σ' Hi' H' (Same.refl _) R'⟩
theorem iI {tg iter:Expr} {body:List Stmt} {it:Fv} {g:Gv} (hp:PassesOwn (model X.prog X.w) X.A X.env X.xe) (hc:X.calm=true) (hi:PId X G tg iter it) (hg:PGd X G tg g) (hge:∀ d ρ c,g d ρ≠.err c) (hb:fG X G body sa)
  (hs:∀ x,foldedSetIterable iter X.env x=pure x:=by intro _;rfl):PSd X G (.For tg iter body [] pos) (rD it g sa):=PS.wk (zIC hp hc hi hg hb hs) fun E σ H q=>by
 obtain ⟨ρ,Hi,R,h⟩:=q
 exact ⟨ρ,Hi,R,nR R h fun ds Hi1 H1 _ e1 h1 J gv=>zIc hge (R.grow e1) h1 gv⟩
theorem zEp {c:Expr} {body:List Stmt} (hp:PassesOwn (model X.prog X.w) X.A X.env X.xe) (hc:PTd X G c t) (hb:fG X G body sa):PSd X G (.While c body [] pos) (eT t sa):=PS.wk (zHR hp hc hb) fun E σ H q=>by
 obtain ⟨ρ,Hi,R,h⟩:=q
 have hn:eT t sa ρ≠.no:=fun z=>by rw [z] at h;exact h
 obtain ⟨n,en⟩:=nQ hn
 rw [en] at h
 refine ⟨fun m σ' H'=>∃ ρ' Hi',Same Hi Hi'/\kL X G Hi' H' σ' ρ'/\Fin X G Hi' E (wh t sa m ρ'),⟨n,ρ,Hi,Same.refl _,R,h⟩,?_⟩
 rintro m σ' H' ⟨ρ',Hi',s',R',h'⟩
 cases m with
 | zero=>exact h'.elim
 | succ m=>
  rw [wh] at h'
  refine ⟨ρ',Hi',R',nR R' h' fun c Hi1 H1 _ e1 h1=>?_⟩
  have R1:=R'.grow e1
  cases c with
  | false=>exact h1 σ' Hi1 H1 (Same.refl _) R1
  | true=>
   refine ⟨fun σ2 H2=>∃ ρ2 Hi2,Same Hi Hi2/\kL X G Hi2 H2 σ2 ρ2/\Fin X G Hi2 E (wh t sa m ρ2),fun σ2 H2 z=>⟨m,by omega,z⟩,ρ',Hi1,R1,?_⟩
   have sm:Same Hi Hi1:=s'.trans e1.i
   simp only [if_true] at h1
   cases zb:sa ρ' with
   | no=>rw [zb] at h1;exact h1.elim
   | err c=>rw [zb] at h1;exact h1
   | ok fl=>
    rw [zb] at h1
    cases fl with
    | nx ρ2=>exact fun σ4 Hi4 H4 s4 R4=>⟨ρ2,Hi4,sm.trans s4,R4,Fin.mono (show Fin X G Hi1 E (wh t sa m ρ2) from h1) s4⟩
    | ctn ρ2=>exact fun σ4 Hi4 H4 s4 R4=>⟨ρ2,Hi4,sm.trans s4,R4,Fin.mono (show Fin X G Hi1 E (wh t sa m ρ2) from h1) s4⟩
    | brk ρ2=>exact h1
    | ret r=>cases r<;>exact h1
theorem zFb {K:PySem.W.Frag} {Hi:Hp} {a:Addr} {xs:List V} {ds:List D} (h:SqT K Hi a xs) (hs:IsDs K Hi xs ds):sI K Hi (Itt K a) ds:=fun Hi1 H1 s1 s2 i=>by
 have h1:=bX (s1.trans s2) h
 refine ⟨fun hl=>⟨xs,h1,by rw [hs.length];exact hl⟩,fun d hd=>?_⟩
 obtain ⟨v,hv,r⟩:=hs.at hd
 refine ⟨⟨xs,v,h1,hv⟩,fun x H2 y=>?_⟩
 obtain ⟨e,y⟩:=y
 subst e
 have:=y xs h1
 rw [hv] at this
 cases this
 exact ⟨Hi1,Ext.refl s2,r.mono s1⟩
theorem zJV {lo c:Int} {n i:Nat} {d:D} (h:(rng lo n c)[i]?=some d):i < n/\d=.int (lo+(i:Int) * c):=by
 unfold rng at h
 rw [List.getElem?_map] at h
 by_cases hl:i < n
 ·rw [List.getElem?_range hl] at h;cases h;exact ⟨hl,rfl⟩
 ·rw [List.getElem?_eq_none (by rw [List.length_range];omega)] at h;cases h
theorem zJu (lo c:Int) (n:Nat):(rng lo n c).length=n:=by unfold rng;rw [List.length_map,List.length_range]
theorem zZ {K:PySem.W.Frag} {Hi:Hp} (lo:Int) (n:Nat):sI K Hi (Itr lo n) (rng lo n 1):=fun Hi1 H1 s1 s2 i=>by
 refine ⟨fun hl=>by rw [zJu] at hl;exact hl,fun d hd=>?_⟩
 obtain ⟨h1,rfl⟩:=zJV hd
 refine ⟨h1,fun x H2 y=>?_⟩
 obtain ⟨e,y⟩:=y
 subst e y
 rw [Int.mul_one]
 exact ⟨Hi1,Ext.refl s2,.int _⟩
theorem zDj {tg:Expr} (hg:Gl X "range") (hm:X.mg "range" = none) (ha:PAd X G [a] fs) (hs:starEach [a] X.env=[(false,eval a X.env)]:=by rfl):PId X G tg (.Call (.Name "range" p) [a] [] pos) (zBd fs):=PI.wk (zFk hg hm ha hs) fun σ H Q q=>by
 obtain ⟨ρ,Hi,R,ou⟩:=q
 refine zGM R ou fun vs ds Hi1 H1 e1 R1 r1 o1=>?_
 split at o1
 ·rename_i j
  obtain ⟨v,rfl,h⟩:=r1.one
  by_cases hz:-(2^62)<=j/\j < 2^62
  ·rw [if_pos hz] at o1
   exact ⟨j,by rw [h.intI],hz.1,hz.2,o1.here R1.s _ (zZ 0 j.toNat)⟩
  ·rw [if_neg hz] at o1;exact o1.elim
 ·exact o1.elim
theorem zCD {tg:Expr} (hg:Gl X "range") (hm:X.mg "range" = none) (ha:PAd X G [a,b] fs) (hs:starEach [a,b] X.env=[(false,eval a X.env),(false,eval b X.env)]:=by rfl) (hs2:starEach [b] X.env=[(false,eval b X.env)]:=by rfl):PId X G tg (.Call (.Name "range" p) [a,b] [] pos) (zBg fs):=PI.wk (zEo hg hm ha hs hs2) fun σ H Q q=>by
 obtain ⟨ρ,Hi,R,ou⟩:=q
 refine zGM R ou fun vs ds Hi1 H1 e1 R1 r1 o1=>?_
 split at o1
 ·rename_i i j
  obtain ⟨v,w,rfl,h,h'⟩:=r1.two
  by_cases hz:-(2^62)<=i/\i < 2^62/\-(2^62)<=j/\j < 2^62
  ·rw [if_pos hz] at o1
   exact ⟨i,j,by rw [h.intI,h'.intI],hz,o1.here R1.s _ (zZ i (j - i).toNat)⟩
  ·rw [if_neg hz] at o1;exact o1.elim
 ·exact o1.elim
end
end L3
namespace L3
open PySem PySem.Spec PyProof.Rows L2
unseal PEd PEf PTd PWd PAd PSd fG POd PGd jA PId
structure Fn (K:PySem.W.Frag) (mg:Str->Option Value) (x:Str) (st:Stmt) (ps:List Str) (f:Addr) (fd:FuncData):Prop where
 fn:Fun K x x st f fd
 bd:zBe K fd ps []
 kp:PySem.W.keepIn K (.ref f)=true
 mg:mg x=some (.ref f)
def XE (X:Cx) (G:Gx):XK:=fun cls _ H=>∃ c,X.mg c=some cls/\G.E c H
def nX (K:PySem.W.Frag) (mg:Str->Option Value) (P:Addr):Prop:=∃ f oc od fd osl c,mg "ranked" = some (.ref f)/\K.lookup f=some ⟨oc,od,.func fd,osl⟩/\fd.code=.ref c/\∀ h,K.In h->PySem.W.CodeHd h c P
def TB (K:PySem.W.Frag) (mg:Str->Option Value) (Hi H:Hp):Prop:=∀ P,nX K mg P->zAv P H/\Hi P=none
theorem TB.ext {K:PySem.W.Frag} {mg:Str->Option Value} {Hi H Hi' H':Hp} (t:TB K mg Hi H) (e:Ext Hi H Hi' H'):TB K mg Hi' H':=fun P h=>⟨e.h.t P (t P h).1,by
 cases z:Hi' P with
 | none=>rfl
 | some o=>
  obtain ⟨⟨ps,q,_⟩,n⟩:=t P h
  have:=e.n P n (by rw [z];exact fun w=>by cases w)
  rw [q] at this;cases this⟩
structure Good (X:Cx) (G:Gx) (k:Nat):Prop where
 calm:X.calm=true
 room:Room k X.A
 pass:zCC (CX1 X.prog X.w) X (XE X G)
 own:PassesOwn (model X.prog X.w) X.A X.env X.xe
 tb:TB X.K X.mg G.Bi G.B
def zGr (X:Cx) (G:Gx):Prop:=∀ (pins:List (Addr×Obj)) (σ:St) (H:Hp) (s s':Shared) (ea:Addr) (cls:Value) (vs:List Value),Inv X pins σ H s->Heap.MadeExcOf s.heap s'.heap ea cls vs->s'.os=s.os->AllBare s'.gens->XE X G cls none H->X.xe (.ref ea) s'
def spM (K:PySem.W.Frag) (mg:Str->Option Value) (p:Nat) (m:Mir):Sp:=fun vs H Q E=>vs.length=p/\∃ Bi ds,TB K mg Bi H/\Same Bi H/\IsDs K Bi vs ds/\match m ds with
 | .ok (.v d)=>∀ v Hi' H',Ext Bi H Hi' H'->IsD K Hi' v d->Q v H'
 | .ok (.f es)=>∀ a Hi' H',Ext Bi H Hi' H'->zHk K H Hi' H' a es->Q (.ref a) H'
 | .err c=>∀ C,mg c=some C->∀ Hi' H',Ext Bi H Hi' H'->E C none H'
 | .no=>False
structure CanM (P:Program) (w:World) (K:PySem.W.Frag) (mg:Str->Option Value) (base:Heap) (k:Nat) (x:Str) (ps:List Str) (m:Mir):Prop where
 ex:∃ f fd,FnOk P w K mg base (CX1 P w) k f fd ps (spM K mg ps.length m)/\zBe K fd ps []/\PySem.W.keepIn K (.ref f)=true/\mg x=some (.ref f)
 ln:∀ ds,m ds≠.no->ds.length=ps.length
theorem Good.u {X:Cx} {G:Gx} {k:Nat} (W:Good X G k):X.A.units+64 < cLine:=W.room.units
theorem CanM.mono {P:Program} {w:World} {K:PySem.W.Frag} {mg:Str->Option Value} {base:Heap} {j k:Nat} {x:Str} {ps:List Str} {m:Mir} (c:CanM P w K mg base j x ps m) (h:j<=k):CanM P w K mg base k x ps m:=by
 obtain ⟨⟨f,fd,F,r⟩,l⟩:=c
 exact ⟨⟨f,fd,F.mono h,r⟩,l⟩
section
variable {X:Cx} {G:Gx} {a b e:Expr} {es:List Expr} {pos p:Pos} {f g:Ev} {fs gs:Fv} {t u:Tv} {x:Str} {st:Stmt} {rest:List Stmt} {sa sb:Sv} {k:Nat} {ps:List Str} {m:Mir}
theorem zKX {ps:List Str} (tb:TB X.K X.mg G.Bi G.B) (ln:∀ ds,m ds≠.no->ds.length=ps.length):∀ σ H Q,tD X G (aV m fs) σ H Q->zJK (spM X.K X.mg ps.length m) [] (XE X G) (tAs X G fs) σ H Q:=fun σ H Q q=>by
 obtain ⟨ρ,Hi,R,ou⟩:=q
 refine zGM R ou fun vs ds Hi1 H1 e1 R1 r1 o1=>?_
 rw [List.append_nil]
 have hm:m ds≠.no:=fun z=>by rw [z] at o1;exact o1
 refine ⟨by rw [r1.length];exact ln ds hm,Hi1,ds,tb.ext R1.ext,R1.s,r1,?_⟩
 cases z:m ds with
 | no=>exact absurd z hm
 | err c=>rw [z] at o1;exact fun C hC Hi2 H2 e2=>⟨c,hC,o1 Hi2 H2 e2⟩
 | ok r=>
  rw [z] at o1
  cases r with
  | v d=>exact fun v Hi2 H2 e2 r2=>o1 Hi2 H2 e2 v r2
  | f ds=>
   intro a Hi2 H2 e2 n
   obtain ⟨n1,n2,xs,n3,n4⟩:=n
   exact o1 _ _ (e2.hold n1 n3 n2) (.ref a) (.lst (SqL.of aZ) (n4.mono (dA n2 _)))
theorem aL (W:Good X G k) (c:CanM X.prog X.w X.K X.mg X.base k x ps m) (hg:Gl X x) (ha:PAd X G (e::es) fs)
  (hdb:(x==("__debug__" : Str))=false:=by decide) (he:starEach (e::es) X.env=(false,eval e X.env)::starEach es X.env:=by rfl) (hpl:(backTo pos (starEach es X.env)).any (·.1)=false:=by rfl):
  PEd X G (.Call (.Name x p) (e::es) [] pos) (aV m fs):=by
 obtain ⟨⟨f,fd,F,b,kp,hm⟩,ln⟩:=c
 exact PE.wk (zBr F W.room hg hm kp b .nil W.pass ha hdb he hpl) (zKX W.tb ln)
theorem zJe {ps:List Str} (tb:TB X.K X.mg G.Bi G.B) (ln:∀ ds,m ds≠.no->ds.length=ps.length):∀ σ H Q,tF X G (fB m fs) σ H Q->zJK (spM X.K X.mg ps.length m) [] (XE X G) (tAs X G fs) σ H Q:=fun σ H Q q=>by
 obtain ⟨ρ,Hi,R,ou⟩:=q
 refine zGM R ou fun vs ds Hi1 H1 e1 R1 r1 o1=>?_
 rw [List.append_nil]
 have hm:m ds≠.no:=fun z=>by rw [z] at o1;exact o1
 refine ⟨by rw [r1.length];exact ln ds hm,Hi1,ds,tb.ext R1.ext,R1.s,r1,?_⟩
 cases z:m ds with
 | no=>exact absurd z hm
 | err c=>rw [z] at o1;exact fun C hC Hi2 H2 e2=>⟨c,hC,o1 Hi2 H2 e2⟩
 | ok r=>
  rw [z] at o1
  cases r with
  | v d=>exact o1.elim
  | f ds=>exact fun a Hi2 H2 e2 n=>o1 Hi2 H2 e2 a ⟨e1.h.none n.1,n.2⟩
theorem cB (W:Good X G k) (c:CanM X.prog X.w X.K X.mg X.base k x ps m) (hg:Gl X x) (ha:PAd X G (e::es) fs)
  (hdb:(x==("__debug__" : Str))=false:=by decide) (he:starEach (e::es) X.env=(false,eval e X.env)::starEach es X.env:=by rfl) (hpl:(backTo pos (starEach es X.env)).any (·.1)=false:=by rfl):
  PEf X G (.Call (.Name x p) (e::es) [] pos) (fB m fs):=by
 obtain ⟨⟨f,fd,F,b,kp,hm⟩,ln⟩:=c
 exact PE.wk (zBr F W.room hg hm kp b .nil W.pass ha hdb he hpl) (zJe W.tb ln)
theorem bW {d:D} (hg:Gl X x) (h:∃ v u',X.mg x=some u'/\cS v u'/\IsD X.K (fun _=>none) v d) (hdb:(x==("__debug__" : Str))=false:=by decide):PEd X G (.Name x pos) (eC d):=by
 obtain ⟨v,u',hm,r,hd⟩:=h
 exact aS (zFe hg hm r hdb) fun H=>hd.mono fun b o z=>by cases z
end
abbrev BX (P:Program) (w:World) (K:PySem.W.Frag) (mg:Str->Option Value) (base:Heap) (N:List Str) (x:Str) (st:Stmt) (f:Addr) (cdv:Value) (A:Around) (outer:List Env) (s:Shared) (H:Hp) (E:XK):Cx:=
 zDX (CX1 P w) P w K mg base N x (aK st) f cdv A outer s H E
theorem zU {K:PySem.W.Frag} {mg:Str->Option Value} {Bi H:Hp} {N:List Str} {vs:List V} {ds:List D} (s:Same Bi H) (h:IsDs K Bi vs ds):Rel K mg H Bi Bi H (L2.start N vs) (L3.start N.length ds) where
 len:=by
  unfold L2.start L3.start
  rw [List.length_append,List.length_append,List.length_map,List.length_map,List.length_replicate,List.length_replicate,h.length]
 ext:=Ext.refl s
 slot:=fun i sl e=>by
  unfold L3.start at e
  by_cases hi:i < ds.length
  ·rw [List.getElem?_append_left (by rw [List.length_map];exact hi),List.getElem?_map] at e
   obtain ⟨d,hd⟩:∃ d,ds[i]?=some d:=⟨_,List.getElem?_eq_getElem hi⟩
   rw [hd] at e;cases e
   obtain ⟨v,hv,r⟩:=h.at hd
   refine ⟨v,?_,r⟩
   unfold L2.start
   rw [List.getElem?_append_left (by rw [List.length_map,h.length];exact hi),List.getElem?_map,hv]
   rfl
  ·rw [List.getElem?_append_right (by rw [List.length_map];omega),List.getElem?_replicate] at e
   split at e
   ·cases e;trivial
   ·cases e
 dist:=fun i j a es fs e _ _ _=>by
  exfalso
  unfold L3.start at e
  by_cases hi:i < ds.length
  ·rw [List.getElem?_append_left (by rw [List.length_map];exact hi),List.getElem?_map] at e
   cases z:ds[i]? with
   | none=>rw [z] at e;cases e
   | some d=>rw [z] at e;cases e
  ·rw [List.getElem?_append_right (by rw [List.length_map];omega),List.getElem?_replicate] at e
   split at e<;>cases e
section
variable {P:Program} {w:World} {K:PySem.W.Frag} {mg:Str->Option Value} {base:Heap} {N ps:List Str} {x:Str} {st:Stmt} {f:Addr} {fd:FuncData} {k:Nat} {b:Sv}
theorem zFp {cdv:Value} {A:Around} {outer:List Env} {s:Shared} {H Bi:Hp} {E:XK} (hr:Room k (A.deeper (envOfC x (aK st) s.heap.objs.size f cdv))) (tb:TB K mg Bi H):
  Good (BX P w K mg base N x st f cdv A outer s H E) ⟨H,Bi,fun c H'=>∀ C,mg c=some C->E C none H'⟩ k where
 calm:=rfl
 room:=hr
 pass:=zNv fun c H' q=>by
  obtain ⟨c',h1,h2⟩:=q
  exact h2 c h1
 own:=PassesOwn.leaving
 tb:=tb
theorem zDn {cdv:Value} {A:Around} {outer:List Env} {s:Shared} {H Bi:Hp} {E:XK}:
  zGr (BX P w K mg base N x st f cdv A outer s H E) ⟨H,Bi,fun c H'=>∀ C,mg c=some C->E C none H'⟩:=fun pins σ H1 s1 s' ea cls vs I hx hos hg q=>by
 obtain ⟨c',h1,h2⟩:=q
 exact zBI I hx hos hg (h2 cls h1)
theorem zLF (F:Fn K mg x st ps f fd) (S:FnScope N ps (aK st))
  (h:∀ (cdv:Value) (A:Around) (outer:List Env) (s:Shared) (H:Hp) (E:XK) (G:Gx),Good (BX P w K mg base N x st f cdv A outer s H E) G k->zGr (BX P w K mg base N x st f cdv A outer s H E) G->fG (BX P w K mg base N x st f cdv A outer s H E) G (eX st) b):
  FnOk P w K mg base (CX1 P w) (k+1) f fd ps (spM K mg ps.length (fn ps.length N.length b)):=by
 obtain ⟨oc,od,kV,doc,pm,an,cdv,ct,osl,rfl,lk,hcd⟩:=F.fn.ex
 refine zME lk hcd S (fun vs H Q E h=>h.1) fun A outer s H vs Q E hr hsp=>?_
 obtain ⟨hl,Bi,ds,tb,sm,hd,hq⟩:=hsp
 have hg:=zFp (P:=P) (w:=w) (K:=K) (mg:=mg) (base:=base) (N:=N) (outer:=outer) (H:=H) (Bi:=Bi) (E:=E) hr tb
 refine ⟨_,h cdv A outer s H E _ hg zDn,L3.start N.length ds,Bi,zU sm hd,?_⟩
 have hlen:ds.length=ps.length:=by rw [<-hd.length];exact hl
 unfold fn at hq
 rw [if_pos hlen] at hq
 cases z:b (L3.start N.length ds) with
 | no=>rw [z] at hq;exact hq
 | err c=>rw [z] at hq;exact fun Hi' H' e C hC=>hq C hC Hi' H' e
 | ok fl=>
  rw [z] at hq
  cases fl with
  | nx ρ'=>exact fun σ' Hi' H' s R=>hq .non Hi' H' R.ext .non
  | brk ρ'=>exact hq.elim
  | ctn ρ'=>exact hq.elim
  | ret r=>
   cases r with
   | v d=>exact hq
   | f es=>exact hq
theorem aT (F:Fn K mg x st ps f fd) (S:FnScope N ps (aK st))
  (h:∀ (cdv:Value) (A:Around) (outer:List Env) (s:Shared) (H:Hp) (E:XK) (G:Gx),Good (BX P w K mg base N x st f cdv A outer s H E) G k->zGr (BX P w K mg base N x st f cdv A outer s H E) G->fG (BX P w K mg base N x st f cdv A outer s H E) G (eX st) b):
  CanM P w K mg base (k+1) x ps (fn ps.length N.length b):=by
 refine ⟨⟨f,fd,zLF F S h,F.bd,F.kp,F.mg⟩,fun ds hm=>?_⟩
 unfold fn at hm
 split at hm
 ·assumption
 ·exact absurd rfl hm
end
end L3
namespace L3
open PySem PySem.Spec PyProof.Rows L2
unseal PEd PEf PTd PWd PAd PSd fG POd PGd jA PId
section
variable {X:Cx} {G:Gx} {a b e:Expr} {es:List Expr} {pos p:Pos} {f g:Ev} {fs gs:Fv} {t u:Tv} {x:Str} {st:Stmt} {rest:List Stmt} {sa sb:Sv} {k:Nat}
theorem PTd.frz (h:PTd X G e t):PTd X G e (tFrzB t):=PT.wk h fun σ H Q q=>by
 obtain ⟨ρ,Hi,R,ou⟩:=q
 obtain ⟨Hf,s1,R1,fl⟩:=R.frz
 refine ⟨ρ.map Sl.frz,Hf,R1,?_⟩
 unfold tFrzB at ou
 cases z:t (ρ.map Sl.frz) with
 | no=>rw [z] at ou;exact ou
 | err c=>
  rw [z] at ou
  intro Hi1 H1 e1
  obtain ⟨Ht,e2,k,s2,n⟩:=Ext.thaw s1 fl R1.s e1
  exact ou Ht H1 e2
 | ok c=>
  rw [z] at ou
  intro Hi1 H1 e1
  obtain ⟨Ht,e2,k,s2,n⟩:=Ext.thaw s1 fl R1.s e1
  exact ou Ht H1 e2
def iSq (K:PySem.W.Frag) (tl:TE):TI:=fun σ H R=>tl σ H fun x H1=>∃ a,x=.ref a/\(((∃ xs,SqL K H1 a xs)/\R (Itl K a) H1)∨((∃ xs,SqT K H1 a xs)/\R (Itt K a) H1))
theorem zKY {tg l:Expr} {tl:TE} (hl:PE X l tl):PI X tg l (iSq X.K tl):=by
 intro pins s σ H R I h
 refine thn (hl pins s σ H _ I h) fun v s1 ⟨x,H1,I1,r1,q1⟩=>?_
 obtain ⟨a,e,q1⟩:=q1
 subst e
 cases r1
 rcases q1 with ⟨⟨xs,hq⟩,q⟩ | ⟨⟨xs,hq⟩,q⟩
 ·obtain ⟨its,rv,p,hz⟩:=I1.list hq
  refine wpAny_pyIter_list p.isList ?_
  refine ⟨s1.heap.objs.size,[s1.heap.objs.size],_,_,H1,rfl,I1.kept (t':=s1.toks) fun b o e=>Heap.get?_push_of_some _ e,zAg a _,⟨_,Heap.get?_push_size _ rfl,rfl,rfl⟩,fun b hb=>?_,q⟩
  have e:b=s1.heap.objs.size:=by simpa using hb
  subst e
  exact I1.fpOk (Nat.le_refl _) (I1.hok.fresh (Nat.le_refl _))
 ·obtain ⟨its,rv,p,hz⟩:=I1.tuple hq
  refine wpAny_pyIter_tuple (show s1.heap.IsTuple a its.toArray from p) ?_
  refine ⟨s1.heap.objs.size,[s1.heap.objs.size],_,_,H1,rfl,I1.kept (t':=s1.toks) fun b o e=>Heap.get?_push_of_some _ e,zDO a _,⟨_,Heap.get?_push_size _ rfl,rfl,rfl⟩,fun b hb=>?_,q⟩
  have e:b=s1.heap.objs.size:=by simpa using hb
  subst e
  exact I1.fpOk (Nat.le_refl _) (I1.hok.fresh (Nat.le_refl _))
theorem zAB {K:PySem.W.Frag} {Hi:Hp} {a:Addr} {xs:List V} {ds:List D} (h1:SqL K Hi a xs) (h2:IsDs K Hi xs ds):sI K Hi (Itl K a) ds:=fun Hi1 H1 s1 s2 i=>by
 have h3:=cO (s1.trans s2) h1
 refine ⟨fun hl=>⟨xs,h3,by rw [h2.length];exact hl⟩,fun d hd=>?_⟩
 obtain ⟨v,hv,r⟩:=h2.at hd
 refine ⟨⟨xs,v,h3,hv⟩,fun x H2 y=>?_⟩
 obtain ⟨e,y⟩:=y
 subst e
 have:=y xs h3
 rw [hv] at this
 cases this
 exact ⟨Hi1,Ext.refl s2,r.mono s1⟩
theorem jG {tg:Expr} (h:PEd X G e f):PId X G tg e (rL f):=PI.wk (zKY h) fun σ H Q q=>by
 obtain ⟨ρ,Hi,R,ou⟩:=q
 refine zBA R ou fun v d Hi1 H1 e1 R1 r1 o1=>?_
 cases d with
 | lst ds=>
  obtain ⟨a,xs,rfl,h1,h2⟩:=r1.lstI
  exact ⟨a,rfl,.inl ⟨⟨xs,cO R1.s h1⟩,o1.here R1.s _ (zAB h1 h2)⟩⟩
 | tup ds=>
  obtain ⟨a,xs,rfl,h1,h2⟩:=r1.tupI
  exact ⟨a,rfl,.inr ⟨⟨xs,bX R1.s h1⟩,o1.here R1.s _ (zFb h1 h2)⟩⟩
 | _=>exact o1.elim
theorem bI {i:Nat}:∀ d ρ c,gName i d ρ≠.err c:=fun d ρ c z=>by cases z
theorem zFT:∀ d ρ c,zHy d ρ≠.err c:=fun d ρ c z=>by cases d<;>cases z
theorem rB {g:Gv} {r:List D->Rho->Res Rho} (h1:∀ d ρ c,g d ρ≠.err c) (h2:∀ d ρ c,r d ρ≠.err c):∀ d ρ c,rA g r d ρ≠.err c:=fun d ρ c z=>by
 cases d with
 | nil=>cases z
 | cons d ds=>
  have z':(g d ρ).bind (fun ρ'=>r ds ρ')=.err c:=z
  cases q:g d ρ with
  | no=>rw [q] at z';cases z'
  | err c'=>exact h1 _ _ _ q
  | ok ρ'=>rw [q] at z';exact h2 _ _ _ z'
theorem zFh {r:List D->Rho->Res Rho} (h:∀ d ρ c,r d ρ≠.err c):∀ d ρ c,zHp r d ρ≠.err c:=fun d ρ c z=>by
 cases d<;>first | cases z | exact h _ _ _ z
theorem zIP:∀ (ds:List D) (ρ ρ':Rho),zHy ds ρ=.ok ρ'->ds.length=0:=fun ds ρ ρ' z=>by
 cases ds with
 | nil=>rfl
 | cons d ds=>cases z
theorem wK {g:Gv} {r:List D->Rho->Res Rho} {n:Nat} (h:∀ (ds:List D) (ρ ρ':Rho),r ds ρ=.ok ρ'->ds.length=n):∀ (ds:List D) (ρ ρ':Rho),rA g r ds ρ=.ok ρ'->ds.length=n+1:=fun ds ρ ρ' z=>by
 cases ds with
 | nil=>cases z
 | cons d ds=>
  have z':(g d ρ).bind (fun ρ'=>r ds ρ')=.ok ρ':=z
  cases q:g d ρ with
  | no=>rw [q] at z';cases z'
  | err c'=>rw [q] at z';cases z'
  | ok ρ1=>rw [q] at z';rw [List.length_cons,h ds ρ1 ρ' z']
theorem zGn:∀ a b d,zCi a b=.ok d->∃ i j,a=.int i/\b=.int j/\d=.int (i+j):=fun a b d z=>by
 unfold zCi at z;split at z
 ·cases z;exact ⟨_,_,rfl,rfl,rfl⟩
 ·cases z
theorem zDa:∀ a b c,zCi a b≠.err c:=fun a b c z=>by unfold zCi at z;split at z<;>cases z
theorem zFn:∀ a b d,sQ a b=.ok d->∃ i j,a=.int i/\b=.int j/\d=.int (i - j):=fun a b d z=>by
 unfold sQ at z;split at z
 ·cases z;exact ⟨_,_,rfl,rfl,rfl⟩
 ·cases z
theorem zDr:∀ a b c,sQ a b≠.err c:=fun a b c z=>by unfold sQ at z;split at z<;>cases z
end
end L3
namespace L3
open PySem PySem.Spec PyProof.Rows L2
unseal PEd PEf PTd PWd PAd PSd fG POd PGd jA PId
theorem zAr {K:PySem.W.Frag} {H:Hp}:∀ ns:List Int,IsDs K H (ns.map V.int) (ns.map D.int)
 | []=>.nil
 | n::ns=>.cons (.int n) (zAr ns)
end L3
namespace L3
open PySem PySem.Spec PyProof.Rows L2
unseal PEd PEf PTd PWd PAd PSd fG POd PGd jA PId
section
variable {X:Cx} {G:Gx} {e:Expr} {es:List Expr} {pos np cpos:Pos} {fs:Fv} {k:Nat} {c:Str}
theorem jF (W:Good X G k) (WR:zGr X G) (hR:∃ C,Err X.K X.mg c C) (hg:Gl X c) (ha:PAd X G (e::es) fs)
  (he:starEach (e::es) X.env=(false,eval e X.env)::starEach es X.env:=by rfl) (hplain:(backTo cpos (starEach es X.env)).any (·.1)=false:=by rfl) (hd:(c==("__debug__" : Str))=false:=by decide):
  PSd X G (.Raise (some (.Call (.Name c np) (e::es) [] cpos)) none pos) (kD c fs):=by
 intro pins s σ H E I q
 obtain ⟨ρ,Hi,R,h⟩:=q
 obtain ⟨C,Er⟩:=hR
 obtain ⟨bmB,newId,B,initId,O,FB⟩:=Er.own X.base I.mod.kin
 obtain ⟨tl,N,nm,q,bs,hdct,sn,sub,ab,col,dd,k0,k1,k2,k3,k5,mN,hC,hN,hni,T⟩:=O.obj
 have hA:=ha cpos pins s σ H (fun vs H1=>vs.length<=sizeLine/\XE X G (.ref C) none H1) I ⟨ρ,Hi,R,nR R h fun ds Hi' H' _ e1 h' vs r=>by
  have h':Fin X G Hi' E (if ds.length<=16777216 then (.err c:Res Fl) else .no):=h'
  by_cases hz:ds.length<=16777216
  ·rw [if_pos hz] at h'
   exact ⟨by rw [r.length];exact hz,c,O.bound,h' Hi' H' (R.ext.trans e1)⟩
  ·rw [if_neg hz] at h';exact h'.elim⟩
 refine wpAny_Raise_call_subT (C:=C) (nm:=nm) (q:=q) (N:=N) (bs:=bs) (bm:=tl) (hdct:=hdct) (sn:=sn) (sub:=sub) (ab:=ab) (col:=col) (dd:=dd) (k0:=k0) (k1:=k1) (k2:=k2) (k3:=k3) (k5:=k5)
  FB (mN:=mN) (T.hasType FB.hasBase) (I.ok.hd W.calm) (by rw [he];show (false || (backTo cpos (starEach es X.env)).any (·.1))=false;rw [hplain];rfl) hni (zBS I hg O.bound ⟨rfl,?_⟩ hd)
 rw [he] at hA ⊢
 refine Calls.evalArgs_plain (wpAny_mono hA (fun us s₂ h₂=>?_) fun _ _ y=>y)
 obtain ⟨vs,H2,I2,rv,hz,hx⟩:=h₂
 exact ⟨rfl,by show us.length<=sizeLine;rw [<-rv.length];exact hz,I2.bk _ _ hC,hN.keeps I2.bk,T.keeps I2.bk,fun h' ea hm=>WR pins σ H2 s₂ { s₂ with heap:=h' } ea (.ref C) us I2 hm rfl I2.bare hx⟩
end
end L3
namespace L3
open PySem PySem.Spec PyProof.Rows L2 PySem.W Builtin Builtin.ObjectAttr Builtin.Getset_descriptor
unseal PEd PEf PTd PWd PAd PSd fG POd PGd jA PId
section
variable {prog:Program} {w:World} {A:Around} {E:Value->Shared->Prop} {s:Shared} {K:Frag} {x D:Addr} {ox:Obj}
end
end L3
namespace L3
open PySem PySem.Spec PyProof.Rows L2 PySem.W
unseal PEd PEf PTd PWd PAd PSd fG POd PGd jA PId
section
variable {prog:Program} {w:World} {A:Around} {E:Value->Shared->Prop} {s:Shared} {K:Frag} {x C CE:Addr} {ox:Obj}
end
end L3
namespace L3
open PySem PySem.Spec PyProof.Rows L2 PySem.W
unseal PEd PEf PTd PWd PAd PSd fG POd PGd jA PId
section
variable {X:Cx} {pins:List (Addr×Obj)} {σ:St} {H H':Hp} {s s':Shared} {ea:Addr} {cls:Value}
theorem _root_.L2.Inv.track (I:Inv X pins σ H s) {a:Addr} {o:HO} (hn:H a=none) (h0:X.s₀.heap.get? a=none) (hl:a≠X.env.locals) (hc:∀ x c,X.env.cells.lookup x=some c->c≠a) (hp:∀ p∈X.pn++pins,p.1≠a)
  (ho:kK X.prog X.w (upd H a o) s.heap a o):Inv X pins σ (upd H a o) s where
 ok:=I.ok
 os:=I.os
 bare:=I.bare
 base:=⟨I.base.keep,I.base.slot,fun b ob e n hx=>by
   have:b≠a:=fun z=>by rw [z,h0] at e;cases e
   rw [bC this];exact I.base.free b ob e n hx,I.base.there,fun b xs e=>by
   have z:=I.base.tups b xs e
   rw [bC (bB z hn)];exact z,fun b ob u e=>by
   have z:=I.base.frzs b ob u e
   rw [bC (bB z hn)];exact z,fun b ps e=>by
   obtain ⟨m,z⟩:=I.base.tbls b ps e
   exact ⟨m,by rw [bC (bB z hn)];exact z⟩⟩
 loc:=I.loc
 cell:=I.cell
 free:=by rw [bC (Ne.symm hl)];exact I.free
 freeC:=fun x c e=>by rw [bC (hc x c e)];exact I.freeC x c e
 pin:=fun p hp'=>by
  obtain ⟨e1,e2,e3,e4,e5⟩:=I.pin p hp'
  exact ⟨e1,by rw [bC (hp p hp')];exact e2,e3,e4,e5⟩
 hok:=fun b u e=>by
  by_cases hb:b=a
  ·subst hb;rw [aZ] at e;cases e;exact ho
  ·rw [bC hb] at e
   exact (I.hok b u e).stay (fun c v _ q=>q) (fun c q=>by rw [bC (bB q hn)];exact q) fun c xs q=>by rw [bC (bB q hn)];exact q
 len:=I.len
end
end L3
namespace L3
open PySem PySem.Spec PyProof.Rows L2 PySem.W
unseal PEd PEf PTd PWd PAd PSd fG POd PGd jA PId
section
variable {X:Cx} {G:Gx} {a e:Expr} {es:List Expr} {pos p:Pos} {fs:Fv} {t:Tv} {x:Str} {k:Nat} {ps:List Str} {m:Mir} {st:Stmt} {sts:List Stmt} {sa sb:Sv}
def zOn (X:Cx) (pins:List (Addr×Obj)) (σ:St) (Hi H:Hp) (c:Str) (ev:Value) (s':Shared):Prop:=
 ∃ (s1:Shared) (H1:Hp) (ea:Addr) (cls:Value) (Hi' H':Hp),ev=.ref ea/\Inv X pins σ H1 s1/\X.mg c=some cls/\Fly X.prog X.w X.stack H1 H' s1 ea cls s'/\Ext Hi H Hi' H'/\Keep H H1
def zNR (X:Cx) (G:Gx) (Hi:Hp) (E:Ends) (r:Res Fl):Prop:=match r with
 | .err _=>True
 | r=>Fin X G Hi E r
@[irreducible] def PSx (X:Cx) (G:Gx) (st:Stmt) (f:Sv):Prop:=∀ (pins:List (Addr×Obj)) (s:Shared) (σ:St) (H:Hp) (E:Ends) (ρ:Rho) (Hi:Hp) (Et:Value->Shared->Prop),
 Inv X pins σ H s->kL X G Hi H σ ρ->f ρ≠.no->zNR X G Hi E (f ρ)->(∀ c ev s',f ρ=.err c->zOn X pins σ Hi H c ev s'->Et ev s')->wpAny (model X.prog X.w) X.A (exec st X.env) (SP X pins E) Et s
unseal PSx
@[irreducible] def nJ (X:Cx) (G:Gx) (sts:List Stmt) (f:Sv):Prop:=∀ (pins:List (Addr×Obj)) (s:Shared) (σ:St) (H:Hp) (E:Ends) (ρ:Rho) (Hi:Hp) (Et:Value->Shared->Prop),
 Inv X pins σ H s->kL X G Hi H σ ρ->f ρ≠.no->zNR X G Hi E (f ρ)->(∀ c ev s',f ρ=.err c->zOn X pins σ Hi H c ev s'->Et ev s')->wpAny (model X.prog X.w) X.A (execs sts X.env) (SP X pins E) Et s
unseal nJ
end
end L3
namespace L3
open PySem PySem.Spec PyProof.Rows L2 PySem.W
unseal PEd PEf PTd PWd PAd PSd fG POd PGd jA PId PSx nJ
section
variable {X:Cx} {G:Gx} {k:Nat} {fb fh:Sv} {body suite:List Stmt} {b₀:Stmt} {ce n:Str} {np hpos pos:Pos} {i:Nat} {tb:List Str}
end
end L3
namespace L3
open PySem PySem.Spec PyProof.Rows L2 PySem.W
unseal PEd PEf PTd PWd PAd PSd fG POd PGd jA PId PSx nJ
section
variable {X:Cx} {G:Gx} {a:Expr} {p q pos:Pos} {i:Nat} {anc:List (Str×List Str)} {xs:List Str} {x:Str}
end
end L3
namespace L3
open PySem PySem.Spec PyProof.Rows L2 PySem.W
unseal PEd PEf PTd PWd PAd PSd fG POd PGd jA PId PSx nJ
section
variable {K:Frag} {h:Heap} {mg:Str->Option Value} {x c ce:Str} {C CE:Addr}
theorem zAC {newId:String} {bmB:List Value} {B initId:String} (X:K.In h) (G:h.Ns mainGlobals mg) (e:nsIn K mainGlobals x=some (some (.ref C))) (q:excIn K C bmB newId=true) (F:ExcBaseFacts B newId initId bmB):∃ C,Err K mg x C:=by
 refine ⟨C,⟨fun h' X'=>⟨bmB,newId,B,initId,⟨mg_of X G e,?_⟩,F⟩⟩⟩
 unfold excIn at q
 split at q
 ·rename_i dd cd sl ho
  split at q
  ·rename_i C' bm k0 k1 k2 k3 n k5 hm hs
   simp only [Bool.and_eq_true,beq_iff_eq,Bool.not_eq_true'] at q
   obtain ⟨⟨⟨⟨⟨rfl,rfl⟩,hdel⟩,ht⟩,hok⟩,hni⟩:=q
   obtain ⟨nm,bs,mro,ns,qn,hd,sn,sub,ab,col,del⟩:=cd
   dsimp only at hm hdel hok hni
   subst hm hdel
   have hsl:sl=#[k0,k1,k2,k3,some (.builtin n),k5]:=by
    obtain ⟨l⟩:=sl
    simp only at hs
    rw [hs]
   subst hsl
   exact ⟨bm,ns,nm,qn,bs,hd,sn,sub,ab,col,dd,k0,k1,k2,k3,k5,_,X' _ _ ho,.of_isNs (isNs_of_in X' hok),nsMap_none_of_in X' hok hni,tail_of_in X' ht⟩
  ·cases q
 ·cases q
end
end L3
namespace L3
open PySem PySem.Spec PyProof.Rows L2
unseal PEd PEf PTd PWd PAd PSd fG POd PGd jA PId PSx nJ
def zBN (env:Env):List (Str×NameKind)->List (Str×Addr)->List (Str×Addr)
 | [],cs=>cs
 | (n,k)::r,cs=>zBN env r (if k==.free then (n,(env.cells.lookup n).getD 0)::cs else cs)
theorem zIr {env:Env}:∀ (l:List (Str×NameKind)) (cs:List (Str×Addr)),(∀ p∈l,p.2=.free->∃ c,env.cells.lookup p.1=some c)->
  (forIn l cs (fun p (r:List (Str×Addr))=>if (p.2==NameKind.free)=true then (do let a <-cellOf env p.1;pure (ForInStep.yield ((p.1,a)::r))) else pure (ForInStep.yield r)):Sem (List (Str×Addr)))=pure (zBN env l cs)
 | [],cs,_=>by simp [zBN]
 | (n,k)::r,cs,h=>by
  rw [List.forIn_cons,zBN]
  have ih:=fun cs=>zIr r cs fun p hp=>h p (List.mem_cons_of_mem _ hp)
  by_cases e:(k==NameKind.free)=true
  ·obtain ⟨c,hc⟩:=h (n,k) List.mem_cons_self (beq_iff_eq.mp e)
   simp only [e,if_true,cellOf,hc,pure_bind,Option.getD_some]
   exact ih _
  ·simp only [e,Bool.false_eq_true,if_false,pure_bind]
   exact ih _
theorem zIz {env:Env} {scope:Scope} (h:∀ p∈scope.names,p.2=.free->∃ c,env.cells.lookup p.1=some c):closureFor scope env=pure (zBN env scope.names []):=by
 have:=zIr scope.names [] h
 unfold closureFor
 rw [<-this]
 simp
theorem sV {env:Env}:∀ (l:List (Str×NameKind)) (cs:List (Str×Addr)),(∀ p∈l,p.2=.free->∃ c,env.cells.lookup p.1=some c)->(∀ y c,cs.lookup y=some c->env.cells.lookup y=some c)->
  ∀ y c,(zBN env l cs).lookup y=some c->env.cells.lookup y=some c
 | [],cs,_,h,y,c,e=>h y c e
 | (n,k)::r,cs,hl,h,y,c,e=>by
  rw [zBN] at e
  refine sV r _ (fun p hp=>hl p (List.mem_cons_of_mem _ hp)) (fun y c e=>?_) y c e
  by_cases z:(k==NameKind.free)=true
  ·obtain ⟨c',hc⟩:=hl (n,k) List.mem_cons_self (beq_iff_eq.mp z)
   simp only [z,if_true,List.lookup_cons,hc,Option.getD_some] at e
   cases w:y==n with
   | true=>rw [w] at e;cases e;rw [beq_iff_eq.mp w];exact hc
   | false=>rw [w] at e;exact h y c e
  ·simp only [z,Bool.false_eq_true,if_false] at e
   exact h y c e
theorem zDg {env:Env}:∀ (l:List (Str×NameKind)) (cs:List (Str×Addr)) (y:Str),(∃ c,cs.lookup y=some c)->∃ c,(zBN env l cs).lookup y=some c
 | [],cs,y,h=>h
 | (n,k)::r,cs,y,⟨c,h⟩=>by
  rw [zBN]
  refine zDg r _ y ?_
  split
  ·rw [List.lookup_cons]
   cases y==n with
   | true=>exact ⟨_,rfl⟩
   | false=>exact ⟨c,h⟩
  ·exact ⟨c,h⟩
theorem sZ {env:Env}:∀ (l:List (Str×NameKind)) (cs:List (Str×Addr)) (y:Str),(y,NameKind.free)∈l->∃ c,(zBN env l cs).lookup y=some c
 | (n,k)::r,cs,y,h=>by
  rw [zBN]
  rcases List.mem_cons.mp h with e | h
  ·cases e
   refine zDg r _ _ ⟨(env.cells.lookup n).getD 0,?_⟩
   simp only [beq_self_eq_true,if_true,List.lookup_cons]
  ·exact sZ r _ y h
theorem bR {α:Type}:∀ {l:List (Str×α)} {y:Str} {k:α},l.lookup y=some k->(y,k)∈l
 | (n,k')::r,y,k,h=>by
  rw [List.lookup_cons] at h
  cases z:y==n with
  | true=>rw [z] at h;cases h;rw [beq_iff_eq.mp z];exact List.mem_cons_self
  | false=>rw [z] at h;exact List.mem_cons_of_mem _ (bR h)
theorem cI {env:Env}:∀ {l:List (Str×NameKind)} {y:Str} {k:NameKind},
  (l.map fun (n,k)=>if (k==NameKind.free && env.scope.kind==.function && env.kindOf n==some .cell) then (n,NameKind.cell) else (n,k)).lookup y=some k->
  l.lookup y=some k∨(k=.cell/\l.lookup y=some .free)
 | (n,k')::r,y,k,h=>by
  rw [List.map_cons] at h
  rw [List.lookup_cons]
  by_cases c:(k'==NameKind.free && env.scope.kind==.function && env.kindOf n==some .cell)=true
  ·simp only [c,if_true,List.lookup_cons] at h
   cases z:y==n with
   | true=>
    rw [z] at h
    cases h
    refine .inr ⟨rfl,?_⟩
    simp only [Bool.and_eq_true] at c
    rw [beq_iff_eq.mp c.1.1]
   | false=>rw [z] at h;exact cI h
  ·simp only [c,Bool.false_eq_true,if_false,List.lookup_cons] at h
   cases z:y==n with
   | true=>rw [z] at h;exact .inl h
   | false=>rw [z] at h;exact cI h
def msk (x y:Str):Str:=if y=x then ("" : Str) else y
structure BlkOk (X:Cx) (x:Str) (scope:Scope):Prop where
 kind:scope.kind=.function
 cell:∀ y∈scope.names,y.2≠.cell
 loc:scope.names.lookup x=some .local
 names:∀ y∈scope.names,y.2=.local->scope.names.lookup y.1=some .local
 fre:∀ p∈scope.names,p.2=.free->X.env.kindOf p.1=some .cell∨X.env.kindOf p.1=some .free
 oth:∀ y∈X.N,y≠x->scope.names.lookup y≠some .local
 emp:scope.names.lookup ("" : Str)=none
def cxC (X:Cx) (x:Str) (scope:Scope) (C:Addr) (s₂:Shared) (H₂:Hp) (fp:List Addr):Cx:=
  { prog:=X.prog,w:=X.w,K:=X.K,mg:=X.mg,base:=X.base,A:=X.A,N:=X.N.map (msk x)++[x],s₀:=s₂,H₀:=H₂,env:=compEnvC scope (zBN X.env scope.names []) C X.env,outer:=X.stack,stack:=X.stack,
    ex:=fp,fn:=fun _=>false,calm:=X.calm,pn:=X.pn,xe:=fun _ _=>False }
section
variable {X:Cx} {pins:List (Addr×Obj)} {σ:St} {H:Hp} {s₂:Shared} {x:Str} {scope:Scope} {fp:List Addr} {D C:Addr} {h₁:Heap}
theorem BlkOk.cl (B:BlkOk X x scope) (I:Inv X pins σ H s₂):∀ p∈scope.names,p.2=.free->∃ c,X.env.cells.lookup p.1=some c:=fun p hp e=>I.ok.has p.1 (B.fre p hp e)
theorem zNn (I:Inv X pins σ H s₂) (B:BlkOk X x scope) (hfp:∀ b∈fp,qR X pins H b) (hfl:∀ b∈fp,b < s₂.heap.objs.size) (hD:s₂.heap.objs.size<=D) (hC:s₂.heap.objs.size<=C) (hDC:D≠C)
  (old:∀ b o,s₂.heap.get? b=some o->h₁.get? b=some o) {n:Nat} (hacc:h₁.get? D=some { cls:=.type "list", data:=.seq ([]:List Value).toArray n }) {m:Str->Option Value} (hns:h₁.Ns C m) (t:Nat):
  Inv (cxC X x scope C s₂ H fp) pins (σ++[none]) (upd H D (.lst [])) { s₂ with heap:=h₁,toks:=t }:=by
 have sub:=sV scope.names [] (B.cl I) (fun y c e=>nomatch e)
 have old_lt:∀ {b:Addr} {o:Obj},s₂.heap.get? b=some o->b≠D/\b≠C:=fun e=>⟨Nat.ne_of_lt (Nat.lt_of_lt_of_le (Heap.lt_size e) hD),Nat.ne_of_lt (Nat.lt_of_lt_of_le (Heap.lt_size e) hC)⟩
 have free:∀ {b:Addr},b≠D->H b=none->upd H D (.lst []) b=none:=fun n e=>by rw [bC n];exact e
 refine ⟨⟨I.ok.mod,B.kind,I.ok.glob,I.ok.blt,hC,fun y z c e1 e2=>I.ok.inj y z c (sub y c e1) (sub z c e2),fun y hy=>?_,fun y c e=>(nomatch e),I.ok.hd,I.ok.frames,.inl rfl,fun b hb=>⟨Nat.ne_of_lt (Nat.lt_of_lt_of_le (hfl b hb) hC),fun y c e=>(hfp b hb).2.2.2.2.1 y c (sub y c e)⟩,
  I.bs,Nat.le_trans I.ok.bsz I.sz,fun b o e hb=>?_,fun b hb z=>?_,I.stack,I.stkFree⟩,rfl,I.bare,Un.laid old hD (I.hok.fresh hD),⟨m,hns,fun i y v e1 e2 e3=>?_⟩,fun y c e=>?_,free (Ne.symm hDC) (I.hok.fresh hC),fun y c e=>?_,fun p hp=>?_,I.hok.laid old hD ⟨Nat.zero_le _,[],n,.nil,hacc⟩,?_⟩
 ·have:∃ k,(k=NameKind.cell∨k=NameKind.free)/\((relabel scope X.env).names).lookup y=some k:=hy.elim (fun h=>⟨_,.inl rfl,h⟩) fun h=>⟨_,.inr rfl,h⟩
  obtain ⟨k,hk,e⟩:=this
  have e':(y,NameKind.free)∈scope.names:=by
   rcases cI e with z | ⟨_,z⟩
   ·rcases hk with rfl | rfl
    ·exact absurd rfl (B.cell _ (bR z))
    ·exact bR z
   ·exact bR z
  exact sZ scope.names [] y e'
 ·rcases (hfp b hb).2.2.2.1 with z | z
  ·exact I.ok.noex b o e z
  ·exact absurd (Nat.lt_of_lt_of_le (Heap.lt_size e) (Nat.le_trans I.ok.bsz z)) (Nat.lt_irrefl _)
 ·rcases List.mem_cons.mp (I.stkSub b z) with w | w
  ·exact (hfp b hb).2.1 w
  ·exact (hfp b hb).2.2.1 w
 ·
  have hi:i < σ.length:=by
   by_cases hi:i < σ.length
   ·exact hi
   ·exfalso
    rw [List.getElem?_append_right (by omega)] at e2
    cases q:i - σ.length with
    | zero=>rw [q] at e2;cases e2
    | succ j=>rw [q] at e2;cases e2
  rw [List.getElem?_append_left hi] at e2
  have e1':(X.N.map (msk x)++[x])[i]?=some y:=e1
  rw [List.getElem?_append_left (by rw [List.length_map,<-I.len];exact hi),List.getElem?_map] at e1'
  cases q:X.N[i]? with
  | none=>rw [q] at e1';cases e1'
  | some z=>
   rw [q] at e1'
   have e1'':msk x z=y:=Option.some.inj e1'
   have hz:z∈X.N:=List.mem_of_getElem? q
   have vis:∃ k,((relabel scope X.env).names).lookup y=some k:=e3.elim (fun h=>⟨_,h⟩) fun h=>h.elim (fun h=>⟨_,h⟩) fun h=>⟨_,h⟩
   have hzx:z≠x:=fun w=>by
    obtain ⟨k,hk⟩:=vis
    have:y=("" : Str):=by rw [<-e1'',w];exact if_pos rfl
    rw [this] at hk
    rcases cI hk with h | ⟨_,h⟩<;>(rw [B.emp] at h;cases h)
   have hy:z=y:=by rw [<-e1''];exact (if_neg hzx).symm
   subst hy
   have fr:(z,NameKind.free)∈scope.names:=by
    rcases e3 with h | h | h
    ·rcases cI h with h | ⟨h,_⟩
     ·exact absurd h (B.oth z hz hzx)
     ·cases h
    ·rcases cI h with h | ⟨_,h⟩
     ·exact absurd rfl (B.cell _ (bR h))
     ·exact bR h
    ·rcases cI h with h | ⟨h,_⟩
     ·exact bR h
     ·cases h
   have kd:=B.fre _ fr rfl
   obtain ⟨m0,hn0,hl⟩:=I.loc
   obtain ⟨u,ru,lk⟩:=hl i z v q e2 (kd.elim (fun h=>.inr (.inl h)) fun h=>.inr (.inr h))
   refine ⟨u,ru,.inr ⟨?_,?_⟩⟩
   ·rcases e3 with h | h | h
    ·rcases cI h with h | ⟨h,_⟩
     ·exact absurd h (B.oth z hz hzx)
     ·cases h
    ·exact .inl h
    ·exact .inr h
   ·rcases lk with ⟨k1,_⟩ | ⟨_,c,hc,hcell⟩
    ·rcases kd with kd | kd<;>(rw [kd] at k1;cases k1)
    ·obtain ⟨c',hc'⟩:=sZ (env:=X.env) scope.names [] z fr
     have:=sub z c' hc'
     rw [hc] at this
     cases this
     obtain ⟨o,ho,hd⟩:=hcell
     exact ⟨c,hc',o,old _ _ ho,hd⟩
 ·obtain ⟨v,o,ho,hd⟩:=I.cell y c (sub y c e)
  exact ⟨v,o,old _ _ ho,hd⟩
 ·obtain ⟨v,o,ho,hd⟩:=I.cell y c (sub y c e)
  exact free (old_lt ho).1 (I.freeC y c (sub y c e))
 ·obtain ⟨e,n,ne,nf,d⟩:=I.pin p hp
  refine ⟨old _ _ e,free (old_lt e).1 n,(old_lt e).2,fun z=>?_,d⟩
  rcases List.mem_cons.mp (I.stkSub _ z) with w | w
  ·exact ne w
  ·exact nf w
 ·show (σ++[none]).length=(X.N.map (msk x)++[x]).length
  rw [List.length_append,List.length_append,List.length_map,I.len];rfl
end
end L3
namespace L3
open PySem PySem.Spec PyProof.Rows L2
unseal PEd PEf PTd PWd PAd PSd fG POd PGd jA PId PSx nJ
section
variable {K:PySem.W.Frag} {mg:Str->Option Value} {B Bi Hi H Hi' H':Hp} {σ:St} {ρ:Rho}
theorem Rel.snoc {v:V} {d:D} (R:Rel K mg B Bi Hi H σ ρ) (h:IsD K Hi v d):Rel K mg B Bi Hi H (σ++[some v]) (ρ++[.val d]) where
 len:=by rw [List.length_append,List.length_append,R.len];rfl
 ext:=R.ext
 slot:=fun j s q=>by
  by_cases hl:j < ρ.length
  ·rw [List.getElem?_append_left hl] at q
   rw [List.getElem?_append_left (by rw [R.len];exact hl)]
   exact R.slot j s q
  ·rw [List.getElem?_append_right (by omega)] at q
   rw [List.getElem?_append_right (by rw [R.len];omega),R.len]
   cases z:j - ρ.length with
   | zero=>rw [z] at q;cases q;exact ⟨v,rfl,h⟩
   | succ n=>rw [z] at q;cases q
 dist:=fun j k a ds es q1 q2 q3 q4=>by
  have own:∀ {j:Nat} {ds:List D},(ρ++[Sl.val d])[j]?=some (.own ds)->j < ρ.length:=fun {j ds} q=>by
   by_cases hl:j < ρ.length
   ·exact hl
   ·rw [List.getElem?_append_right (by omega)] at q
    cases z:j - ρ.length with
    | zero=>rw [z] at q;cases q
    | succ n=>rw [z] at q;cases q
  have h1:=own q1
  have h2:=own q2
  rw [List.getElem?_append_left h1] at q1
  rw [List.getElem?_append_left h2] at q2
  rw [List.getElem?_append_left (by rw [R.len];exact h1)] at q3
  rw [List.getElem?_append_left (by rw [R.len];exact h2)] at q4
  exact R.dist j k a ds es q1 q2 q3 q4
theorem Ext.rewrite {a:Addr} {o:HO} (e:Ext Hi H Hi' H') (hn:H a=none) (hi:Hi' a=none) (hl:∃ xs,H' a=some (.lst xs)):Ext Hi H Hi' (upd H' a o) where
 i:=e.i
 h:=⟨fun b u z=>by rw [bC (bB z hn)];exact e.h.k _ _ z,fun P z=>by
  obtain ⟨xs,hl⟩:=hl
  exact (e.h.t P z).put (fun ps y=>by rw [hl] at y;cases y) (fun ob u y=>by rw [hl] at y;cases y)⟩
 s:=fun b u z=>by rw [bC (bB z hi)];exact e.s _ _ z
 n:=e.n
theorem IsDs.snoc {v:V} {d:D} (h:IsD K H v d):∀ {vs:List V} {ds:List D},IsDs K H vs ds->IsDs K H (vs++[v]) (ds++[d])
 | _,_,.nil=>.cons h .nil
 | _,_,.cons r t=>.cons r (IsDs.snoc h t)
end
theorem xX {α:Type} {r:Res α} {a:α} (h:noErr r=.ok a):r=.ok a:=by
 cases r with
 | ok b=>exact h
 | err c=>cases h
 | no=>cases h
theorem zDG {t:Tv} {f:Ev} {ρ:Rho} {d:D} {ds es:List D} (h:hZ t f ρ (d::ds)=.ok es):
  (t (ρ++[.val d])=.ok false/\hZ t f ρ ds=.ok es)∨(t (ρ++[.val d])=.ok true/\∃ e es',f (ρ++[.val d])=.ok e/\hZ t f ρ ds=.ok es'/\es=e::es'):=by
 rw [hZ] at h
 cases ht:noErr (t (ρ++[.val d])) with
 | no=>rw [ht] at h;cases h
 | err c=>rw [ht] at h;cases h
 | ok c=>
  rw [ht] at h
  have ht':=xX ht
  cases c with
  | false=>exact .inl ⟨ht',h⟩
  | true=>
   refine .inr ⟨ht',?_⟩
   have h':((noErr (f (ρ++[.val d]))).bind fun e=>(hZ t f ρ ds).bind fun es=>.ok (e::es))=.ok es:=h
   cases hf:noErr (f (ρ++[.val d])) with
   | no=>rw [hf] at h';cases h'
   | err c=>rw [hf] at h';cases h'
   | ok e=>
    rw [hf] at h'
    have h'':((hZ t f ρ ds).bind fun es=>.ok (e::es))=.ok es:=h'
    cases hr:hZ t f ρ ds with
    | no=>rw [hr] at h'';cases h''
    | err c=>rw [hr] at h'';cases h''
    | ok es'=>
     rw [hr] at h''
     cases h''
     exact ⟨e,es',xX hf,rfl,rfl⟩
theorem yQ {t:Tv} {f:Ev} {ρ:Rho} {c:Str}:∀ {ds:List D},hZ t f ρ ds≠.err c
 | []=>fun h=>by cases h
 | d::ds=>fun h=>by
  rw [hZ] at h
  cases ht:noErr (t (ρ++[.val d])) with
  | no=>rw [ht] at h;cases h
  | err c=>cases q:t (ρ++[.val d])<;>(rw [q] at ht;cases ht)
  | ok b=>
   rw [ht] at h
   cases b with
   | false=>exact yQ h
   | true=>
    have h':((noErr (f (ρ++[.val d]))).bind fun e=>(hZ t f ρ ds).bind fun es=>.ok (e::es))=.err c:=h
    cases hf:noErr (f (ρ++[.val d])) with
    | no=>rw [hf] at h';cases h'
    | err c=>cases q:f (ρ++[.val d])<;>(rw [q] at hf;cases hf)
    | ok e=>
     rw [hf] at h'
     cases hr:hZ t f ρ ds with
     | no=>simp only [Res.bind,hr] at h';cases h'
     | err c'=>exact yQ hr
     | ok es=>simp only [Res.bind,hr] at h';cases h'
@[irreducible] def PTs (X:Cx) (G:Gx) (ifs:List Expr) (t:Tv):Prop:=
 ∀ (pins:List (Addr×Obj)) (s:Shared) (σ:St) (H:Hp) (Q:Bool->Hp->Prop),Inv X pins σ H s->tTb X G t σ H Q->
  wpAny (model X.prog X.w) X.A (forIn ifs true fun c r=>if r=true then do let ok <-isTrue c X.env (eval c X.env);pure (ForInStep.yield ok) else pure (ForInStep.yield r)) (TP X pins σ Q) X.xe s
unseal PTs
theorem kX {X:Cx} {G:Gx}:PTs X G [] lZ:=fun pins s σ H Q I ⟨ρ,Hi,R,o⟩=>wpAny_tests_nil ⟨H,I,Out.here (a:=true) o R.s⟩
end L3
namespace L3
open PySem PySem.Spec PyProof.Rows L2
unseal PEd PEf PTd PWd PAd PSd fG POd PGd jA PId PSx nJ PTs
section
variable {X:Cx} {G:Gx} {elt iter:Expr} {x:Str} {px pos:Pos} {ifs:List Expr} {scope:Scope} {it:Fv} {t:Tv} {f:Ev} {k:Nat}
theorem zJc {M:Model} {A:Around} {α:Type} {m:Sem α} {itv u:Value} {s:Shared} {Q1:Unit->Shared->Prop} {R1:α->Shared->Prop} {E:Value->Shared->Prop} (h:wpAny M A (letOwnedTupleGo (.Name x px) itv u) Q1 E s)
  (k:∀ s5,Q1 () s5->wpAny M A m R1 E s5):wpAny M A m R1 E s:=by
 have key:=wpAny_bind (f:=fun _:Unit=>m) (wpAny_mono h (fun _ s5 h5=>k s5 h5) fun _ _ z=>z)
 have e:(letOwnedTupleGo (.Name x px) itv u >>= fun _=>m)=m:=pure_bind () fun _=>m
 rw [e] at key
 exact key
theorem zGF {N:List Str} (hN:N.Nodup) (h0:("" : Str)∉N) (hx:x≠("" : Str)):(N.map (msk x)++[x]).Nodup:=by
 rw [List.nodup_append]
 refine ⟨?_,List.nodup_cons.mpr ⟨by simp,List.nodup_nil⟩,fun a ha b hb e=>?_⟩
 ·induction N with
  | nil=>exact List.nodup_nil
  | cons y N ih=>
   rw [List.map_cons,List.nodup_cons]
   obtain ⟨hy,hN⟩:=List.nodup_cons.mp hN
   refine ⟨fun hm=>?_,ih hN fun z=>h0 (List.mem_cons_of_mem _ z)⟩
   obtain ⟨z,hz,e⟩:=List.mem_map.mp hm
   unfold msk at e
   by_cases c1:z=x
   ·by_cases c2:y=x
    ·exact hy (by rw [c2,<-c1];exact hz)
    ·rw [if_pos c1,if_neg c2] at e;exact h0 (by rw [e];exact List.mem_cons_self)
   ·by_cases c2:y=x
    ·rw [if_neg c1,if_pos c2] at e;exact h0 (by rw [<-e];exact List.mem_cons_of_mem _ hz)
    ·rw [if_neg c1,if_neg c2] at e;exact hy (by rw [<-e];exact hz)
 ·obtain ⟨z,hz,e1⟩:=List.mem_map.mp ha
  rw [List.mem_singleton] at hb
  subst hb
  subst e
  unfold msk at e1
  split at e1
  ·exact hx e1.symm
  ·rename_i c;exact c e1
structure CW where
 i:Nat
 v:List (Option V)
 H:Hp
 Hi:Hp
 ys:List V
 done:List D
 rest:List D
structure CS (Y:Cx) (pins:List (Addr×Obj)) (σ:St) (tn:Nat->Heap->Prop) (fp:List Addr) (Hi2 H2:Hp) (a:Addr) (m:Nat) (cp:Nat->Res (List D)) (es:List D) (c:CW) (s':Shared):Prop where
 inv:Inv Y pins (σ++c.v) c.H s'
 wid:c.v.length=m
 tn:tn c.i s'.heap
 fr:∀ b∈fp,c.H b=none
 ext:Ext Hi2 H2 c.Hi c.H
 acc:c.H a=some (.lst c.ys)
 hi:c.Hi a=none
 isd:IsDs Y.K c.Hi c.ys c.done
 len:c.done.length<=c.i
 cmp:cp c.i=.ok c.rest
 all:es=c.done++c.rest
def zOk (X:Cx) (pins:List (Addr×Obj)) (σ:St) (use:Option (Value->Sem Unit)) (Q':Value->Shared->Prop) (Qa:Addr->Hp->Prop):Prop:=
 ∀ (C A:Addr) (m:Str->Option Value) (s4:Shared) (H3:Hp),s4.heap.Ns C m->(∀ h',Heap.SameBut C s4.heap h'->Inv X pins σ H3 { s4 with heap:=h' })->qR X pins H3 C->Qa A H3->
  compPost (model X.prog X.w) X.A X.xe use Q' (.ref A) C (.ok .next) s4
theorem zAu (hc:X.calm=true/\TB X.K X.mg G.Bi G.B) (hr:Room k X.A) (Bk:BlkOk X x scope) (hN:X.N.Nodup) (h0:("" : Str)∉X.N) (hx0:x≠("" : Str)) (hi:PId X G (.Name x px) iter it)
  (hb:∀ (C:Addr) (s₂:Shared) (H₂:Hp) (fp:List Addr) (G':Gx),Good (cxC X x scope C s₂ H₂ fp) G' k->PTs (cxC X x scope C s₂ H₂ fp) G' ifs t/\PEd (cxC X x scope C s₂ H₂ fp) G' elt f)
  (hs:∀ x,foldedSetIterable iter X.env x=pure x:=by intro _;rfl)
  {pins:List (Addr×Obj)} {s:Shared} {σ:St} {H Hi:Hp} {ρ:Rho} {use:Option (Value->Sem Unit)} {Q':Value->Shared->Prop} {Qa:Addr->Hp->Prop} {cpos:Pos} (I:Inv X pins σ H s) (R:kL X G Hi H σ ρ)
  (ou:Out G Hi H ((lC it t f) ρ) fun ds Hi' H'=>∀ a,zHk X.K H Hi' H' a ds->Qa a H') (hend:zOk X pins σ use Q' Qa):
  wpAny (model X.prog X.w) X.A (comprehension (.ListComp elt [⟨.Name x px,iter,ifs,0⟩] scope pos) scope X.env cpos (newList []) false (eval iter X.env) use) Q' X.xe s:=by
 refine wpAny_comprehension_free (use:=use) rfl hs (zIz (Bk.cl I)) Bk.kind Bk.names ?_
 refine thn (hi pins s σ H (fun J H2=>∃ ds Hi2,Ext Hi H Hi2 H2/\sI X.K Hi2 J ds/\Out G Hi2 H2 (if ds.length<=16777215 then hZ t f ρ ds else .no) fun ds Hi' H'=>∀ a,zHk X.K H Hi' H' a ds->Qa a H') I
  ⟨ρ,Hi,R,(Out.bind ou).imp fun ds Hi2 H2 e2 o2 J gv=>⟨ds,Hi2,e2,gv,o2⟩⟩) fun v s1 h1=>thn h1 fun itv s2 h2=>?_
 obtain ⟨itA,fp,tn,J,H2,rfl,I2,T,st2,f2,ds,Hi2,e2,gv,ou2⟩:=h2
 have hlen:ds.length<=16777215:=by
  by_cases hlen:ds.length<=16777215
  ·exact hlen
  ·rw [if_neg hlen] at ou2;exact ou2.elim
 rw [if_pos hlen] at ou2
 cases hes:hZ t f ρ ds with
 | no=>rw [hes] at ou2;exact ou2.elim
 | err c=>exact absurd hes yQ
 | ok es=>
  rw [hes] at ou2
  have R2:kL X G Hi2 H2 σ ρ:=R.grow e2
  refine wpAny_newObj_type (wpAny_newFunctionEnv Bk.cell (by intro y hy;simp at hy) (fun h₁ hns₁ hsb₁=>?_) Bk.kind)
  dsimp only at hns₁ hsb₁ ⊢
  generalize hH2:s2.heap.push { cls:=.type "list", dict:=none,data:=.seq ([]:List Value).toArray }=HP at hns₁ hsb₁ ⊢
  have hC:HP.objs.size=s2.heap.objs.size+1:=by rw [<-hH2,Heap.size_push]
  have hDC:s2.heap.objs.size≠HP.objs.size:=by rw [hC];omega
  have ltC:∀ {b:Addr} {o:Obj},s2.heap.get? b=some o->b≠HP.objs.size:=fun e=>by rw [hC];exact Nat.ne_of_lt (Nat.lt_succ_of_lt (Heap.lt_size e))
  have old:∀ b o,s2.heap.get? b=some o->h₁.get? b=some o:=fun b o e=>hsb₁.extBut b o (ltC e) (Heap.get?_push_of_some _ (hH2 ▸ Heap.get?_push_of_some _ e))
  have hacc:h₁.get? s2.heap.objs.size=some { cls:=.type "list", data:=.seq ([]:List Value).toArray 0 }:=hsb₁.extBut _ _ hDC (Heap.get?_push_of_some _ (hH2 ▸ Heap.get?_push_size _ rfl))
  have hfl:∀ b∈fp,b < s2.heap.objs.size:=fun b hb=>by obtain ⟨o,e,_⟩:=T.obj _ _ st2 b hb;exact Heap.lt_size e
  have IE:=zNn (t:=s2.toks+([]:List (Str×Value)).length) I2 Bk f2 hfl (Nat.le_refl _) (by rw [hC];omega) hDC old hacc hns₁
  have sub:=sV scope.names [] (Bk.cl I2) (fun y c e=>nomatch e)
  have H2D:H2 s2.heap.objs.size=none:=I2.hok.fresh (Nat.le_refl _)
  have HD:H s2.heap.objs.size=none:=e2.h.none H2D
  have Hi2D:Hi2 s2.heap.objs.size=none:=e2.s.none H2D
  generalize hX:cxC X x scope HP.objs.size s2 H2 fp=Y at IE
  have GY:Good Y ⟨G.B,G.Bi,fun _ _=>False⟩ k:=by
   subst hX
   exact ⟨hc.1,hr,fun pins σ H s e s' _ h=>by obtain ⟨_,_,_,_,_,c,_,z⟩:=h;exact z.elim,PassesOwn.never,hc.2⟩
  obtain ⟨hts,hel⟩:=(hX ▸ hb HP.objs.size s2 H2 fp ⟨G.B,G.Bi,fun _ _=>False⟩ (hX.symm ▸ GY):PTs Y ⟨G.B,G.Bi,fun _ _=>False⟩ ifs t/\PEd Y ⟨G.B,G.Bi,fun _ _=>False⟩ elt f)
  have stat:∀ {H':Hp},(∀ b∈fp,H' b=none)->∀ b∈fp,qR Y pins H' b:=fun hn b hb=>by
   subst hX
   refine ⟨hn b hb,?_,fun z=>?_,.inl hb,fun y c e=>(f2 b hb).2.2.2.2.1 y c (sub y c e),(f2 b hb).2.2.2.2.2⟩
   ·show b≠HP.objs.size
    rw [hC];exact Nat.ne_of_lt (Nat.lt_succ_of_lt (hfl b hb))
   ·rcases List.mem_cons.mp (I2.stkSub b z) with w | w
    ·exact (f2 b hb).2.1 w
    ·exact (f2 b hb).2.2.1 w
  have YN:Y.N.Nodup:=by subst hX;exact zGF hN h0 hx0
  have Yx:Y.N[σ.length]?=some x:=by
   subst hX
   show (X.N.map (msk x)++[x])[σ.length]?=some x
   rw [List.getElem?_append_right (by rw [List.length_map,I2.len];omega),List.length_map,I2.len,Nat.sub_self]
   rfl
  have Yl:Y.env.scope.names.lookup x=some .local:=by subst hX;exact lookup_relabel_local Bk.loc
  have Ye:Y.env=compEnvC scope (zBN X.env scope.names []) HP.objs.size X.env:=by subst hX;rfl
  have Yxe:∀ e s,¬ Y.xe e s:=by subst hX;exact fun _ _ h=>h
  have tn1:tn 0 h₁:=T.keep _ _ _ st2 fun b _ o e=>old b o e
  have eP:∀ s3:Shared,s3={ s2 with heap:=h₁,toks:=s2.toks+([]:List (Str×Value)).length }->
    codeAny (model X.prog X.w) X.A (.compLoop (.ListComp elt [⟨.Name x px,iter,ifs,0⟩] scope pos) 0 (.ref itA) (.ref s2.heap.objs.size) Y.env) (compPost (model X.prog X.w) X.A X.xe use Q' (.ref s2.heap.objs.size) HP.objs.size) s3:=by
   rintro s3 rfl
   subst hX
   have fr0:∀ b∈fp,upd H2 s2.heap.objs.size (.lst []) b=none:=fun b hb=>by
    rw [bC (Nat.ne_of_lt (hfl b hb))]
    exact (f2 b hb).1
   refine codeAny_compLoop_tests (fun n s'=>∃ c:CW,n=ds.length - c.i/\CS (cxC X x scope HP.objs.size s2 H2 fp) pins σ tn fp Hi2 H2 s2.heap.objs.size 1 (fun i=>hZ t f ρ (ds.drop i)) es c s') ?_ ds.length
    ⟨⟨0,[none],_,Hi2,[],[],es⟩,rfl,⟨IE,rfl,tn1,fr0,(Ext.refl e2.s).trans (Ext.newF e2.s H2D),aZ,Hi2D,.nil,Nat.le_refl _,hes,rfl⟩⟩
   ·rintro n s3 ⟨⟨i,vv,H3,Hi3,ys,done,rest⟩,rfl,I3,wd3,st3,fr3,e3,hD3,hiD3,rd3,hl3,hr3,hes3⟩
    dsimp only at I3 wd3 st3 fr3 e3 hD3 hiD3 rd3 hl3 hr3 hes3 ⊢
    obtain ⟨v,rfl⟩:∃ v,vv=[v]:=by
     match vv,wd3 with
     | [v],_=>exact ⟨v,rfl⟩
    obtain ⟨w1,w2⟩:=gv Hi3 H3 e3.i e3.s i
    have lift:∀ {α:Type} {m:Sem α} {Q':α->Shared->Prop} {E:Value->Shared->Prop} {s':Shared},wpAny (model X.prog X.w) X.A m Q' (cxC X x scope HP.objs.size s2 H2 fp).xe s'->wpAny (model X.prog X.w) X.A m Q' E s':=fun h=>wpAny_mono h (fun _ _ z=>z) fun e s z=>(Yxe e s z).elim
    by_cases hlt:i < ds.length
    ·obtain ⟨d,hd⟩:∃ d,ds[i]?=some d:=⟨_,List.getElem?_eq_getElem hlt⟩
     obtain ⟨go,yl⟩:=w2 d hd
     have e4:ds.drop i=d::ds.drop (i+1):=by
      rw [List.getElem?_eq_getElem hlt] at hd
      cases hd
      exact List.drop_eq_getElem_cons hlt
     rw [e4] at hr3
     refine thn (T.item (cxC X x scope HP.objs.size s2 H2 fp) rfl rfl rfl hc.1 i pins s3 _ H3 _ I3 (stat fr3) st3 go) fun r s4 ⟨u,hru,h4⟩=>?_
     subst hru
     refine zJc h4 fun s5 h5=>?_
     obtain ⟨xv,H5,I5,r5,y5,st5,fr5⟩:=h5
     obtain ⟨Hi5,e5,rd5⟩:=yl xv H5 y5
     have I5':=I5.pinned (stat fr5) (T.obj _ _ st5)
     refine wpAny_assign_Name (rC I5' YN Yx (.inl Yl) r5 (fun s6 I6=>?_) (.inr Yl))
     have es6:(σ++[v]).set σ.length (some xv)=σ++[some xv]:=by rw [List.set_append_right _ _ (Nat.le_refl _),Nat.sub_self];rfl
     rw [es6] at I6
     have E5:Ext Hi2 H2 Hi5 H5:=e3.trans e5
     have R5:kL (cxC X x scope HP.objs.size s2 H2 fp) ⟨G.B,G.Bi,fun _ _=>False⟩ Hi5 H5 (σ++[some xv]) (ρ++[.val d]):=Rel.snoc (R2.grow E5) rd5
     obtain ⟨hD5,hiD5⟩:=e5.out hD3 hiD3
     have rd5':=rd3.mono e5.i
     have again:∀ {H8 Hi8:Hp} {ys':List V} {done' rest':List D} {s8:Shared},Inv (cxC X x scope HP.objs.size s2 H2 fp) (pins++sH fp s5.heap) (σ++[some xv]) H8 s8->Ext Hi2 H2 Hi8 H8->H8 s2.heap.objs.size=some (.lst ys')->Hi8 s2.heap.objs.size=none->IsDs X.K Hi8 ys' done'->done'.length<=i+1->
       hZ t f ρ (ds.drop (i+1))=.ok rest'->es=done'++rest'->∃ m,m < ds.length - i/\∃ c:CW,m=ds.length - c.i/\CS (cxC X x scope HP.objs.size s2 H2 fp) pins σ tn fp Hi2 H2 s2.heap.objs.size 1 (fun i=>hZ t f ρ (ds.drop i)) es c s8:=fun {H8 Hi8 ys' done' rest' s8} I8 E8 a1 a2 a3 a4 a5 a6=>by
      refine ⟨ds.length - (i+1),by omega,⟨i+1,[some xv],H8,Hi8,ys',done',rest'⟩,rfl,⟨I8.unpinned,rfl,T.keep _ _ _ st5 fun b hb o e=>(I8.pin (b,o) (List.mem_append_right _ (List.mem_append_right _ (eO hb e)))).1,fun b hb=>?_,E8,a1,a2,a3,a4,a5,a6⟩⟩
      obtain ⟨o,e,_⟩:=T.obj _ _ st5 b hb
      exact (I8.pin (b,o) (List.mem_append_right _ (List.mem_append_right _ (eO hb e)))).2.1
     rcases zDG hr3 with ⟨ht,hr4⟩ | ⟨ht,e,es',hf,hr4,hee⟩
     ·refine lift (thn (hts _ s6 _ H5 (fun b H'=>b=false/\∃ Hi',Ext Hi5 H5 Hi' H') I6 ⟨_,Hi5,R5,by rw [ht];exact fun Hi' H' e=>⟨rfl,Hi',e⟩⟩) fun b s7 h7=>?_)
      obtain ⟨H7,I7,rfl,Hi7,e7⟩:=h7
      obtain ⟨hD7,hiD7⟩:=e7.out hD5 hiD5
      exact again I7 (E5.trans e7) hD7 hiD7 (rd5'.mono e7.i) (by omega) hr4 hes3
     ·refine lift (thn (hts _ s6 _ H5 (fun b H'=>b=true/\∃ Hi',Ext Hi5 H5 Hi' H') I6 ⟨_,Hi5,R5,by rw [ht];exact fun Hi' H' e=>⟨rfl,Hi',e⟩⟩) fun b s7 h7=>?_)
      obtain ⟨H7,I7,rfl,Hi7,e7⟩:=h7
      obtain ⟨hD7,hiD7⟩:=e7.out hD5 hiD5
      simp only [if_true]
      refine lift (thn (hel _ s7 _ H7 (fun w H'=>∃ Hi',Ext Hi7 H7 Hi' H'/\IsD X.K Hi' w e) I7 ⟨_,Hi7,R5.grow e7,by rw [hf];exact fun Hi' H' ee w hw=>⟨Hi',ee,hw⟩⟩) fun u8 s8 h8=>?_)
      obtain ⟨w8,H8,I8,r8,Hi8,e8,rw8⟩:=h8
      obtain ⟨hD8,hiD8⟩:=e8.out hD7 hiD7
      have rdy:IsDs X.K Hi8 ys done:=(rd5'.mono e7.i).mono e8.i
      refine lift (thn (sC (X:=(cxC X x scope HP.objs.size s2 H2 fp)) _ s8 _ H8 (.ref s2.heap.objs.size) [w8] (.ref s2.heap.objs.size) [u8] (fun _ H'=>H'=upd H8 s2.heap.objs.size (.lst (ys++[w8]))) I8 rfl (.cons r8 .nil) ⟨_,ys,w8,rfl,rfl,hD8,?_,rfl⟩) fun _ s9 h9=>?_)
      ·rw [rdy.length]
       exact Nat.lt_of_le_of_lt hl3 (Nat.lt_of_lt_of_le hlt (Nat.le_trans hlen (by decide)))
      ·obtain ⟨_,H9,I9,_,rfl⟩:=h9
       refine again I9 (Ext.rewrite ((E5.trans e7).trans e8) H2D hiD8 ⟨_,hD8⟩) aZ hiD8 (rdy.snoc rw8) (by rw [List.length_append];exact Nat.succ_le_succ hl3) hr4 ?_
       rw [hes3,hee,List.append_assoc];rfl
    ·rw [List.drop_eq_nil_of_le (by omega),hZ] at hr3
     cases hr3
     refine thn (T.done (cxC X x scope HP.objs.size s2 H2 fp) rfl rfl rfl hc.1 i pins s3 _ H3 _ I3 (stat fr3) st3 (w1 (by omega))) fun r s4 ⟨hrn,I4⟩=>?_
     subst hrn
     obtain ⟨m4,hn4,_⟩:=I4.loc
     have fC:H3 HP.objs.size=none:=I4.free
     have nC:∀ b u,H3 b=some u->b≠HP.objs.size:=fun b u e z=>by rw [z,fC] at e;cases e
     have U4:=I4.base
     refine hend HP.objs.size s2.heap.objs.size m4 s4 H3 hn4 (fun h' hs'=>?_) (I2.fpOk (by rw [hC];omega) fC) ?_
     ·have kp:∀ b o,b≠HP.objs.size->s4.heap.get? b=some o->h'.get? b=some o:=fun b o hb e=>hs'.extBut b o hb e
      refine Inv.call' I2 (ch:=fp) I4.os ⟨fun b o e n hb hx=>kp b o (ltC e) (U4.keep b o e n hb hx),fun b o e n hb hx=>?_,U4.free,fun b o e hx=>?_,U4.tups,U4.frzs,U4.tbls⟩ (fun b u e=>?_) I4.bare (fun b hb=>⟨(f2 b hb).2.2.2.1,(f2 b hb).2.1,(f2 b hb).2.2.2.2.1,(f2 b hb).2.2.2.2.2⟩)
      ·obtain ⟨sl,q⟩:=U4.slot b o e n hb hx
       exact ⟨sl,kp b _ (ltC e) q⟩
      ·obtain ⟨o',q⟩:=U4.there b o e hx
       exact ⟨o',kp b _ (ltC e) q⟩
      ·refine (I4.hok b u e).stay (fun c v hc q=>kp c v ?_ q) (fun _ q=>q) fun _ _ q=>q
       rcases hc with z | z
       ·rw [z];exact nC b u e
       ·exact nC c _ z
     ·refine ou2 Hi3 H3 e3 _ ⟨HD,hiD3,ys,hD3,?_⟩
      rw [hes3,List.append_nil]
      exact rd3
  rw [Ye] at eP
  exact codeAny_compStart_list (eP _ rfl) (T.self _ 0 _ _ _ tn1 (eP _ rfl))
theorem zJd (hc:X.calm=true/\TB X.K X.mg G.Bi G.B) (hr:Room k X.A) (Bk:BlkOk X x scope) (hN:X.N.Nodup) (h0:("" : Str)∉X.N) (hx0:x≠("" : Str)) (hi:PId X G (.Name x px) iter it)
  (hb:∀ (C:Addr) (s₂:Shared) (H₂:Hp) (fp:List Addr) (G':Gx),Good (cxC X x scope C s₂ H₂ fp) G' k->PTs (cxC X x scope C s₂ H₂ fp) G' ifs t/\PEd (cxC X x scope C s₂ H₂ fp) G' elt f)
  (hs:∀ x,foldedSetIterable iter X.env x=pure x:=by intro _;rfl):PEf X G (.ListComp elt [⟨.Name x px,iter,ifs,0⟩] scope pos) (lC it t f):=by
 intro pins s σ H Q I w
 obtain ⟨ρ,Hi,R,ou⟩:=w
 rw [eval_ListComp]
 refine zAu hc hr Bk hN h0 hx0 hi hb hs (use:=none) (Qa:=fun a H'=>Q (.ref a) H') I R ou fun C A m s4 H3 hn hI _ q=>?_
 exact ⟨m,hn,fun h' hs'=>⟨.ref A,H3,hI h' hs',rfl,q⟩⟩
def PC (X:Cx) (e:Expr) (t:TE):Prop:=∀ (pins:List (Addr×Obj)) (s:Shared) (σ:St) (H:Hp) (Q:VK),Inv X pins σ H s->t σ H Q->∀ (u:Value->Sem Unit) (Q':Unit->Shared->Prop),
 (∀ (C:Addr) (m:Str->Option Value) (s4:Shared) (v:V) (w:Value) (H3:Hp),s4.heap.Ns C m->(∀ h',Heap.SameBut C s4.heap h'->Inv X pins σ H3 { s4 with heap:=h' })->qR X pins H3 C->cS v w->Q v H3->
  wpAny (model X.prog X.w) X.A (u w) (fun _ s''=>∃ m,s''.heap.Ns C m/\∀ h',Heap.SameBut C s''.heap h'->Q' () { s'' with heap:=h' }) X.xe s4)->wpAny (model X.prog X.w) X.A (evalThenUse e X.env u) Q' X.xe s
theorem PC.wk {X:Cx} {e:Expr} {t t':TE} (h:PC X e t) (w:∀ σ H Q,t' σ H Q->t σ H Q):PC X e t':=fun pins s σ H Q I q=>h pins s σ H Q I (w σ H Q q)
@[irreducible] def PCd (X:Cx) (G:Gx) (e:Expr) (f:Ev):Prop:=PC X e (tD X G f)
unseal PCd
@[irreducible] def PCf (X:Cx) (G:Gx) (e:Expr) (f:Fv):Prop:=PC X e (tF X G f)
unseal PCf
theorem zJg (hc:X.calm=true/\TB X.K X.mg G.Bi G.B) (hr:Room k X.A) (Bk:BlkOk X x scope) (hN:X.N.Nodup) (h0:("" : Str)∉X.N) (hx0:x≠("" : Str)) (hi:PId X G (.Name x px) iter it)
  (hb:∀ (C:Addr) (s₂:Shared) (H₂:Hp) (fp:List Addr) (G':Gx),Good (cxC X x scope C s₂ H₂ fp) G' k->PTs (cxC X x scope C s₂ H₂ fp) G' ifs t/\PEd (cxC X x scope C s₂ H₂ fp) G' elt f)
  (hs:∀ x,foldedSetIterable iter X.env x=pure x:=by intro _;rfl):PCf X G (.ListComp elt [⟨.Name x px,iter,ifs,0⟩] scope pos) (lC it t f):=by
 intro pins s σ H Q I w u Q' hend
 obtain ⟨ρ,Hi,R,ou⟩:=w
 rw [arm_evalThenUse_ListComp]
 refine wpAny_bind (zAu hc hr Bk hN h0 hx0 hi hb hs (use:=some u) (Q':=fun _ s=>wpAny (model X.prog X.w) X.A (pure ()) Q' X.xe s) (Qa:=fun a H'=>Q (.ref a) H') I R ou fun C A m s4 H3 hn hI fo q=>?_)
 refine thn (hend C m s4 (.ref A) (.ref A) H3 hn hI fo rfl q) fun _ s5 h5=>?_
 obtain ⟨m5,hn5,h5⟩:=h5
 exact ⟨m5,hn5,fun h' hs'=>wpAny_pure (h5 h' hs')⟩
theorem PCf.d (h:PCf X G e fs):PCd X G e (eF fs):=PC.wk h fun σ H Q q=>by
 obtain ⟨ρ,Hi,R,ou⟩:=q
 refine ⟨ρ,Hi,R,?_⟩
 cases z:fs ρ with
 | no=>unfold eF at ou;rw [z] at ou;exact ou
 | err c=>unfold eF at ou;rw [z] at ou;exact ou
 | ok ds=>
  unfold eF at ou;rw [z] at ou
  intro Hi1 H1 e1 a n
  obtain ⟨n1,n2,xs,n3,n4⟩:=n
  have o2:∀ Hi' H',Ext Hi H Hi' H'->∀ v,IsD X.K Hi' v (.lst ds)->Q v H':=ou
  exact o2 _ _ (e1.hold n1 n3 n2) (.ref a) (.lst (SqL.of aZ) (n4.mono (dA n2 _)))
theorem zJB {i:Nat} {y:Str} {e:Expr} {te:TE} {pos' pos:Pos} (hN:X.N.Nodup) (hi:X.N[i]?=some y) (hx:Loc X.env.scope y) (he:PC X e te) (hs:swapsWith e (some (.Name y pos')) pos.line X.env=pure true)
  (hf:X.fn y=true∨X.env.scope.names.lookup y=some .local):PS X (.Assign [.Name y pos'] e pos) (zNj te (L2.gName i)):=by
 intro pins s σ H E I h
 rw [exec_Assign_Name_used _ _ _ _ hs]
 refine wpAny_bind (wpAny_standAt (wpAny_bind ?_))
 refine he pins s σ H _ I h _ _ fun C m s4 v w H3 hn hI fo r q=>?_
 have I4:Inv X pins σ H3 s4:=hI s4.heap (Heap.SameBut.refl _ _)
 refine wpAny_assign_Name (zBn I4 hN hi hx r (fun s5 I5 sb=>?_) hf)
 obtain ⟨a,sb,ha⟩:=sb
 have aC:C≠a:=by
  rcases ha with rfl | ha
  ·exact fo.2.1
  ·exact fun z=>fo.2.2.2.2.1 y a ha z.symm
 refine ⟨m,hn.sameBut sb aC,fun h' hs'=>wpAny_pure ?_⟩
 have fC:=fo.1
 have nC:∀ b u,H3 b=some u->b≠C:=fun b u e z=>by rw [z,fC] at e;cases e
 have kp:∀ b o,b≠C->s5.heap.get? b=some o->h'.get? b=some o:=fun b o hb e=>hs'.extBut b o hb e
 refine ⟨σ.set i (some v),H3,?_,q⟩
 refine Inv.call' I5 (ch:=[C]) rfl ⟨fun b o e n hb hx=>kp b o (by simpa using hx) e,fun b o e n hb hx=>⟨o.slots,kp b _ (by simpa using hx) e⟩,fun b o e n hx=>n,fun b o e hx=>⟨o,kp b _ (by simpa using hx) e⟩,fun _ _ q=>q,fun _ _ _ q=>q,fun _ ps q=>⟨#[],by simpa using q⟩⟩ (fun b u e=>?_) I5.bare (fun b hb=>?_)
 ·refine (I5.hok b u e).stay (fun c v hc q=>kp c v ?_ q) (fun _ q=>q) fun _ _ q=>q
  rcases hc with z | z
  ·rw [z];exact nC b u e
  ·exact nC c _ z
 ·have e:b=C:=by simpa using hb
  subst e
  exact ⟨fo.2.2.2.1,fo.2.1,fo.2.2.2.2.1,fo.2.2.2.2.2⟩
theorem zFJ {i:Nat} {y:Str} {e:Expr} {f:Ev} {pos' pos:Pos} (hN:X.N.Nodup) (hi:X.N[i]?=some y) (hx:Loc X.env.scope y) (he:PCd X G e f) (hs:swapsWith e (some (.Name y pos')) pos.line X.env=pure true)
  (hf:X.fn y=true∨X.env.scope.names.lookup y=some .local:=by first | exact .inl rfl | exact .inr rfl | assumption):PSd X G (.Assign [.Name y pos'] e pos) (dI i f):=PS.wk (zJB hN hi hx he hs hf) fun E σ H q=>by
 obtain ⟨ρ,Hi,R,h⟩:=q
 exact ⟨ρ,Hi,R,nR R h fun d Hi' H' _ e h' v r=>h' _ Hi' H' (Same.refl _) ((R.grow e).set r)⟩
end
end L3
namespace L3
open PySem PySem.Spec PyProof.Rows L2
unseal PEd PEf PTd PWd PAd PSd fG POd PGd jA PId PSx nJ PTs PCd PCf
def zMN (sc:Scope) (N:List Str) (x:Str) (scope:Scope):Bool:=
 scope.names.all (fun y=>y.2 != .cell) && scope.names.lookup x==some .local && scope.names.all (fun y=>y.2 != .local || scope.names.lookup y.1==some .local)
  && scope.names.all (fun p=>p.2 != .free || (sc.names.lookup p.1==some .cell || sc.names.lookup p.1==some .free)) && N.all (fun y=>y==x || scope.names.lookup y != some .local) && (scope.names.lookup ("" : Str)).isNone && !N.contains ("" : Str) && x != ("" : Str)
section
variable {X:Cx} {G:Gx} {elt iter:Expr} {x:Str} {px pos:Pos} {ifs:List Expr} {scope sc:Scope} {it:Fv} {t:Tv} {f:Ev} {k:Nat} {N:List Str}
theorem zIH (hk:scope.kind=.function) (hsc:X.env.scope=sc) (hN:X.N=N) (h:zMN sc N x scope=true):BlkOk X x scope/\("" : Str)∉X.N/\x≠("" : Str):=by
 unfold zMN at h
 simp only [Bool.and_eq_true] at h
 obtain ⟨⟨⟨⟨⟨⟨⟨h1,h2⟩,h3⟩,h4⟩,h5⟩,h6⟩,h7⟩,h8⟩:=h
 subst hN hsc
 refine ⟨⟨hk,fun y hy e=>?_,beq_iff_eq.mp h2,fun y hy e=>?_,fun p hp e=>?_,fun y hy hne e=>?_,?_⟩,fun z=>?_,fun z=>?_⟩
 ·have:=List.all_eq_true.mp h1 y hy
  rw [e] at this;cases this
 ·have:=List.all_eq_true.mp h3 y hy
  rw [e] at this
  simpa using this
 ·have:=List.all_eq_true.mp h4 p hp
  rw [e] at this
  have q:X.env.scope.names.lookup p.1=some .cell∨X.env.scope.names.lookup p.1=some .free:=by simpa using this
  exact q
 ·have:=List.all_eq_true.mp h5 y hy
  rw [e] at this
  simp [hne] at this
 ·simpa using h6
 ·have:X.N.contains ("" : Str)=true:=by simpa using z
  rw [this] at h7;cases h7
 ·rw [z] at h8;simp at h8
theorem iL (W:Good X G k) (hnd:N.Nodup) (hk:scope.kind=.function) (hsc:X.env.scope=sc) (hN:X.N=N) (h:zMN sc N x scope=true) (hi:PId X G (.Name x px) iter it)
  (hb:∀ (C:Addr) (s₂:Shared) (H₂:Hp) (fp:List Addr) (G':Gx),Good (cxC X x scope C s₂ H₂ fp) G' k->PTs (cxC X x scope C s₂ H₂ fp) G' ifs t/\PEd (cxC X x scope C s₂ H₂ fp) G' elt f)
  (hs:∀ x,foldedSetIterable iter X.env x=pure x:=by intro _;rfl):PEf X G (.ListComp elt [⟨.Name x px,iter,ifs,0⟩] scope pos) (lC it t f):=by
 obtain ⟨b,h0,hx⟩:=zIH hk hsc hN h
 exact zJd ⟨W.calm,W.tb⟩ W.room b (hN ▸ hnd) h0 hx hi hb hs
theorem yP (W:Good X G k) (hnd:N.Nodup) (hk:scope.kind=.function) (hsc:X.env.scope=sc) (hN:X.N=N) (h:zMN sc N x scope=true) (hi:PId X G (.Name x px) iter it)
  (hb:∀ (C:Addr) (s₂:Shared) (H₂:Hp) (fp:List Addr) (G':Gx),Good (cxC X x scope C s₂ H₂ fp) G' k->PTs (cxC X x scope C s₂ H₂ fp) G' ifs t/\PEd (cxC X x scope C s₂ H₂ fp) G' elt f)
  (hs:∀ x,foldedSetIterable iter X.env x=pure x:=by intro _;rfl):PCf X G (.ListComp elt [⟨.Name x px,iter,ifs,0⟩] scope pos) (lC it t f):=by
 obtain ⟨b,h0,hx⟩:=zIH hk hsc hN h
 exact zJg ⟨W.calm,W.tb⟩ W.room b (hN ▸ hnd) h0 hx hi hb hs
end
end L3
namespace L3
open PySem PySem.Spec PyProof.Rows L2
unseal PEd PEf PTd PWd PAd PSd fG POd PGd jA PId PSx nJ PTs PCd PCf
section
variable {X:Cx} {G:Gx} {a b:Expr} {pos:Pos} {f:Fv} {g:Ev}
theorem IsDs.rep {K:PySem.W.Frag} {H:Hp} {xs:List V} {ds:List D} (h:IsDs K H xs ds):∀ n:Nat,IsDs K H (List.replicate n xs).flatten (List.replicate n ds).flatten
 | 0=>.nil
 | n+1=>by
  rw [List.replicate_succ,List.replicate_succ,List.flatten_cons,List.flatten_cons]
  exact h.append (IsDs.rep h n)
theorem zCN (ha:PEf X G a f) (hb:PEd X G b g):PEf X G (.BinOp a .Mult b pos) (zIY f g):=PE.wk (zGz zLi ha hb) fun σ H Q q=>by
 obtain ⟨ρ,Hi,R,ou⟩:=q
 refine ⟨ρ,Hi,R,(Out.bind ou).imp fun ds Hi1 H1 e1 o1 l nl=>?_⟩
 refine ⟨ρ,Hi1,R.grow e1,(Out.bind o1).imp fun d Hi2 H2 e2 o2 v rv=>?_⟩
 cases d<;>first | exact o2.elim | skip
 rename_i k
 obtain ⟨n1,n2,xs,n3,n4⟩:=nl
 have o2':Out G Hi2 H2 (if 0<=k/\k < 2^62/\ds.length * k.toNat<=16777216 then Res.ok (List.replicate k.toNat ds).flatten else .no) _:=o2
 by_cases hz:0<=k/\k < 2^62/\ds.length * k.toNat<=16777216
 ·rw [if_pos hz] at o2'
  refine ⟨l,k,xs,rfl,rv.intI,e2.h.at n3,by omega,by omega,by rw [n4.length];exact hz.2.2,fun p hp=>?_⟩
  exact o2' _ _ (Ext.newF e2.s hp) p ⟨(e1.h.trans e2.h).none hp,e2.s.none hp,_,aZ,(n4.mono e2.i).rep _⟩
 ·rw [if_neg hz] at o2';exact o2'.elim
end
section
variable {es r:List Expr} {a b f:Expr} {k:Nat} {p:Pos} {x:Str} {c:Const} {env:Env}
theorem gO:starEach (.Tuple es k p::r) env=(false,eval (.Tuple es k p) env)::starEach r env:=rfl
theorem bH {o:Operator}:starEach (.BinOp a o b p::r) env=(false,eval (.BinOp a o b p) env)::starEach r env:=rfl
theorem aN:starEach (.Subscript a b p::r) env=(false,eval (.Subscript a b p) env)::starEach r env:=rfl
theorem aD:starEach (.Name x p::r) env=(false,eval (.Name x p) env)::starEach r env:=rfl
theorem bO:starEach (.Constant c k p::r) env=(false,eval (.Constant c k p) env)::starEach r env:=rfl
theorem aQ {ks:List Keyword}:starEach (.Call f es ks p::r) env=(false,eval (.Call f es ks p) env)::starEach r env:=rfl
end
end L3
namespace L3
open PySem PySem.Spec PyProof.Rows L2
unseal PEd PEf PTd PWd PAd PSd fG POd PGd jA PId PSx nJ PTs PCd PCf
section
variable {X:Cx} {G:Gx} {e st:Expr} {te tk:TE} {lo hi:Option Expr} {tl th:TO} {pos p2:Pos} {f g:Ev} {l h:Ov}
end
end L3
set_option maxRecDepth 100000
namespace L3
open PySem PySem.Spec PyProof.Rows L2
theorem fF:Slot "reversed" "__next__" "reversed.__next__" :=
 .of (owner := "reversed") (n := "__next__") (by rw [typeLookup_type,builtinLookup_eq_fast];kernel_rfl) (by decide +kernel) (by decide +kernel) (by decide +kernel) (by first | exact .inl (by decide +kernel) | exact .inr (by decide +kernel)) (by rw [isSubtype_type];kernel_rfl)
theorem oD:Slot "reversed" "__iter__" "reversed.__iter__" :=
 .of (owner := "reversed") (n := "__iter__") (by rw [typeLookup_type,builtinLookup_eq_fast];kernel_rfl) (by decide +kernel) (by decide +kernel) (by decide +kernel) (by first | exact .inl (by decide +kernel) | exact .inr (by decide +kernel)) (by rw [isSubtype_type];kernel_rfl)
theorem yB:Slot "reversed" "__init__" "object.__init__" :=
 .of (owner := "object") (n := "__init__") (by rw [typeLookup_type,builtinLookup_eq_fast];kernel_rfl) (by decide +kernel) (by decide +kernel) (by decide +kernel) (by first | exact .inl (by decide +kernel) | exact .inr (by decide +kernel)) (by rw [isSubtype_type];kernel_rfl)
theorem mJ:entryFor table "reversed.__next__" = some Builtin.«reversed.__next__» := entryFor_of_tree (by kernel_rfl)
theorem vR:entryFor table "reversed.__iter__" = some Builtin.«dict_keyiterator.__iter__» :=
 entryFor_alias (id' := "dict_keyiterator.__iter__") (by kernel_rfl) (by first | rfl | decide +kernel | (unfold String.splitOn;simp +decide [String.splitOnAux])) (by decide +kernel) (by kernel_rfl)
theorem zAR:Manifest.owners.lookup (String.ofList ['d', 'e', 's', 'r', 'e', 'v', 'e', 'r'].reverse)=some Manifest.sig_reversed:=by kernel_rfl
theorem oZ (a:Value):argsOk "reversed.__next__" ⟨[a],[]⟩:=by
 unfold argsOk;rw [signature?_of (id := "reversed.__next__") (n:=['_', '_', 't', 'x', 'e', 'n', '_', '_']) (o:=['d', 'e', 's', 'r', 'e', 'v', 'e', 'r']) (by kernel_rfl) zAR];kernel_rfl
theorem zC (a:Value):argsOk "reversed.__iter__" ⟨[a],[]⟩:=by
 unfold argsOk;rw [signature?_of (id := "reversed.__iter__") (n:=['_', '_', 'r', 'e', 't', 'i', '_', '_']) (o:=['d', 'e', 's', 'r', 'e', 'v', 'e', 'r']) (by kernel_rfl) zAR];kernel_rfl
theorem zDP:TypeCalled "reversed" "reversed.__new__" "object.__init__" :=
 ⟨by decide +kernel,F.create_reversed,⟨_,_,F.mro_reversed⟩,F.made_reversed,F.plain_reversed_new,F.sub_reversed_self,yB⟩
theorem pY:typeLookup (.type "tuple") "__reversed__" = pure none:=by rw [typeLookup_type,builtinLookup_eq_fast];kernel_rfl
theorem zK:isSubtype (.type "tuple") (.type "dict")=pure false:=by rw [isSubtype_type];kernel_rfl
def uS (h:Heap) (a t:Addr) (i:Int):Prop:=∃ o,h.get? a=some o/\o.cls=.type "reversed" /\ o.data=.fields #[.ref t,rawInt i]
theorem uS.typeIs {s:Shared} {a t:Addr} {i:Int} (x:uS s.heap a t i):s.TypeIs (.ref a) "reversed" := let ⟨o,ho,hc,_⟩:=x;⟨o,ho,hc⟩
section
variable {prog:Program} {w:World} {A:Around} {E:Value->Shared->Prop} {s:Shared}
theorem yE (t:Addr) (items:Array Value) (hfit:(items.size:Int) < 2^63):Meets (Builtin.«reversed.__new__» ⟨[.type "reversed", .ref t],[]⟩)
  (fun _ R s=>IsTup s.heap t items/\R (.ok (.ret (.ref s.heap.objs.size))) { s with heap:=s.heap.push { cls:=.type "reversed", data:=.fields #[.ref t,rawInt ((items.size:Int) - 1)] },toks:=s.toks+1+1 }):=
 .of_wp fun prog w A R s h=>by
 obtain ⟨ht,h⟩:=h
 unfold Builtin.«reversed.__new__»
 refine wpAny_bind (wpAny_of_eq (newClass_reversed _) ?_)
 try dsimp only
 refine wpAny_bind (wpAny_of_eq (a:=()) (by first | rfl | kernel_rfl) ?_)
 refine wpAny_bind (wpAny_of_eq (a:=()) (by first | rfl | kernel_rfl) ?_)
 try dsimp only
 refine wpAny_bind (wpAny_specialOf ht.typeIs pY ?_)
 try dsimp only
 refine wpAny_bind ?_
 show wpAny _ _ (isInstance (.ref t) (.type "dict") >>= _) _ _ s
 refine wpAny_bind (wpAny_isInstance ht.typeIs zK ?_)
 show wpAny _ _ (specialOf (.ref t) (Str.ofString "__getitem__") >>= _) _ _ s
 refine wpAny_bind (wpAny_specialOf ht.typeIs PyProof.Rows.slot_tuple_getitem.lookup ?_)
 refine wpAny_pure ?_
 show wpAny _ _ (call (.builtin "len") [.ref t] >>= _) _ _ s
 refine wpAny_bind (PyProof.Rows.len_tuple ht hfit ?_)
 refine wpAny_bind (wpAny_of_eq (a:=some (items.size:Int)) rfl ?_)
 show wpAny _ _ (newObj (.type "reversed") (.fields #[.ref t,rawInt ((items.size:Int) - 1)]) >>= _) _ _ _
 exact wpAny_bind (wpAny_newObj_type (wpAny_pure ⟨_,rfl,h⟩))
theorem zHB {t:Addr} {items:Array Value} {Q:Value->Shared->Prop} (ht:IsTup s.heap t items) (hfit:(items.size:Int) < 2^63)
  (h:Q (.ref s.heap.objs.size) { s with heap:=s.heap.push { cls:=.type "reversed", data:=.fields #[.ref t,rawInt ((items.size:Int) - 1)] },toks:=s.toks+1+1 }):
  wpAny (model prog w) A (call (.type "reversed") [.ref t]) Q E s:=
 callType_new zDP (by decide) (F.typeCall_reversed_1 _) (F.newCall_reversed_1 _) (fun obj=>F.args_object_init_2 obj _) F.entry_reversed_new (yE t items hfit) ⟨ht,⟨_,Heap.get?_push_size _ rfl,rfl⟩,h⟩
theorem zCO {a t:Addr} {i:Int} {Q:Value->Shared->Prop} (x:uS s.heap a t i) (h:Q (.ref a) s):wpAny (model prog w) A (pyIter (.ref a)) Q E s:=by
 refine wpAny_pyIter_slot x.typeIs oD (wpAny_call_entry oD x.typeIs vR ?_ (zC _))
 show wpAny _ _ (ret (.ref a)) _ _ s
 exact wpAny_pure ⟨_,rfl, "reversed", _,x.typeIs,fF.lookup,h⟩
theorem zGR {a t:Addr} {i:Nat} {items:Array Value} {x:Value} {Q:Option Value->Shared->Prop} (hit:uS s.heap a t (i:Int)) (ht:IsTup s.heap t items) (hb:(i:Int) < 2^63) (hx:items[i]?=some x)
  (hQ:∀ h' tk,uS h' a t ((i:Int) - 1)->Heap.SameBut a s.heap h'->Q (some x) { s with heap:=h',toks:=tk }):wpAny (model prog w) A (pyNext (.ref a)) Q E s:=by
 obtain ⟨o,ho,hc,hd⟩:=id hit
 unfold pyNext
 refine wpAny_bind (wpAny_attempt (wpAny_callSpecial?_slot (name:=Str.ofString "__next__") hit.typeIs fF (wpAny_call_entry fF hit.typeIs mJ ?_ (oZ _))))
 unfold Builtin.«reversed.__next__»
 refine wpAny_bind (wpAny_of_eq (a:=(Value.ref a,[])) rfl ?_)
 try dsimp only
 refine wpAny_bind (wpAny_field ho hd (x:=.ref t) rfl ?_)
 refine wpAny_bind (wpAny_field ho hd (x:=rawInt (i:Int)) rfl ?_)
 show wpAny _ _ (if (i:Int) < 0 then _ else _) _ _ s
 rw [if_neg (by omega)]
 show wpAny _ _ (specialOf (.ref t) (Str.ofString "__getitem__") >>= _) _ _ s
 refine wpAny_bind (wpAny_specialOf ht.typeIs PyProof.Rows.slot_tuple_getitem.lookup ?_)
 rw [if_neg (by simp)]
 refine wpAny_bind (wpAny_mkInt ?_)
 refine wpAny_bind (wpAny_attempt (PyProof.Rows.getItem_tuple (items:=items) (j:=i) (x:=x) ht (by omega) hb ?_ hx ?_))
 ·have:=(Array.getElem?_eq_some_iff.mp hx).1
  unfold seqIndex?
  simp
  omega
 try dsimp only
 refine wpAny_bind (wpAny_field ho hd (x:=rawInt (i:Int)) rfl ?_)
 show wpAny _ _ (setField (.ref a) 1 (rawInt ((i:Int) - 1)) >>= _) _ _ _
 refine wpAny_bind (wpAny_setField ho hd (by simp) ?_)
 refine wpAny_pure ⟨x,rfl,wpAny_pure (hQ _ _ ?_ (Heap.SameBut.update ..))⟩
 exact ⟨_,Heap.get?_update_self _ ho (Obj.isFreed_of_fields (Obj.data_mapFields hd _)),(Obj.cls_mapFields ..).trans hc,by
  rw [Obj.data_mapFields hd];simp⟩
theorem zAY {a t:Addr} {j:Int} {Q:Option Value->Shared->Prop} (hh:A.handled=none) (hit:uS s.heap a t j) (hj:j < 0)
  (hQ:∀ h',Heap.ExtBut a s.heap h'->Q none { s with heap:=h' }):wpAny (model prog w) A (pyNext (.ref a)) Q E s:=by
 obtain ⟨o,ho,hc,hd⟩:=id hit
 unfold pyNext
 refine wpAny_bind (wpAny_attempt (wpAny_callSpecial?_slot (name:=Str.ofString "__next__") hit.typeIs fF (wpAny_call_entry fF hit.typeIs mJ ?_ (oZ _))))
 unfold Builtin.«reversed.__next__»
 refine wpAny_bind (wpAny_of_eq (a:=(Value.ref a,[])) rfl ?_)
 try dsimp only
 refine wpAny_bind (wpAny_field ho hd (x:=.ref t) rfl ?_)
 refine wpAny_bind (wpAny_field ho hd (x:=rawInt j) rfl ?_)
 show wpAny _ _ (if j < 0 then _ else _) _ _ s
 rw [if_pos hj]
 refine wpAny_bind (wpAny_rule ?_)
 refine wpAny_bind ?_
 show wpAny _ _ (setField (.ref a) 1 (rawInt (-1)) >>= _) _ _ _
 refine wpAny_bind (wpAny_setField ho hd (by simp) ?_)
 have ho2:=Heap.get?_update_self (Obj.mapFields fun x=>x.setIfInBounds 1 (rawInt (-1))) ho (Obj.isFreed_of_fields (Obj.data_mapFields hd _))
 have hd2:=Obj.data_mapFields hd (fun x=>x.setIfInBounds 1 (rawInt (-1)))
 refine wpAny_setField ho2 hd2 (by simp) ?_
 refine wpAny_bind ?_
 show wpAny _ _ (newExc (.type "StopIteration") [] >>= _) _ _ _
 refine wpAny_bind ?_
 simp only [newExc,newTuple]
 refine wpAny_bind (wpAny_newObj_type ?_ (by size_fits))
 refine wpAny_bind (m:=firstArgMember _ _) (wpAny_of_eq (a:=Value.none) (by first | rfl | (simp only [firstArgMember];rfl)) ?_)
 refine wpAny_newObj_type ?_ (by size_fits)
 simp only [raiseNew]
 refine wpAny_bind (wpAny_handled ?_)
 first | rw [show A.in1.handled=none from hh] | rw [hh]
 refine wpAny_bind (wpAny_pure (wpAny_throw ?_))
 refine wpAny_bind (wpAny_isInstance (T := "StopIteration") (b:=true) ⟨_,Heap.get?_push_size _ rfl,rfl⟩ isSubtype_stop ?_)
 refine wpAny_pure (hQ _ fun b ob hb e=>Heap.get?_push_of_some _ (Heap.get?_push_of_some _ ?_))
 exact (Heap.SameBut.update ..).extBut b ob hb ((Heap.SameBut.update ..).extBut b ob hb e)
end
def Itv (K:PySem.W.Frag) (a:Addr) (n:Nat):It:=
 ⟨fun i H=>∃ xs x,SqT K H a xs/\xs.length=n/\xs.reverse[i]?=some x,fun i H x H'=>H'=H/\∀ xs,SqT K H a xs->xs.reverse[i]?=some x,fun i H=>∃ xs,SqT K H a xs/\n<=i⟩
theorem zHO {P:Program} {w:World} {K:PySem.W.Frag} {tg:Expr} (a it:Addr) (n:Nat) (hn:n<=sizeLine):Turn P w K tg (Itv K a n) [it] it (fun i h=>uS h it a ((n:Int) - 1 - (i:Int))) where
 mem:=by simp
 obj:=fun i h st b hb=>by
  have e:b=it:=by simpa using hb
  subst e
  obtain ⟨o,e,c,d⟩:=st
  exact ⟨o,e,fun v z=>by rw [d] at z;cases z⟩
 keep:=fun i h h' st k=>by
  obtain ⟨o,e,c,d⟩:=st
  exact ⟨o,k it (by simp) o e,c,d⟩
 item:=by
  intro X hP hw hK hc i pins s σ H E I hf st hg
  subst hP hw hK
  obtain ⟨xs,x,hq,hn',hx⟩:=hg
  obtain ⟨its,rv,p,hz⟩:=I.tuple hq
  have hi:i < xs.length:=by
   have:=(List.getElem?_eq_some_iff.mp hx).1
   rwa [List.length_reverse] at this
  have hx':xs[n - 1 - i]?=some x:=by
   rw [List.getElem?_reverse hi,hn'] at hx
   exact hx
  obtain ⟨u,hu,ru⟩:=rv.get hx'
  obtain ⟨f0,f1,f2,f3,f4,f5⟩:=hf it (by simp)
  have st0:uS s.heap it a ((n - 1 - i:Nat):Int):=by rw [show ((n - 1 - i:Nat):Int)=(n:Int) - 1 - (i:Int) by omega];exact st
  have hb:((n - 1 - i:Nat):Int) < 2^63:=by
   have:sizeLine < 2^63:=by decide
   omega
  refine zGR (items:=its.toArray) st0 p hb (x:=u) (by simpa using hu) fun h' tk st' sb=>?_
  have I1:Inv X pins σ H { s with heap:=h',toks:=tk }:=I.turned (t':=tk) (fun b o hb e=>(sb.2 b hb).trans e) f0 f1 f3 f4 f5
  obtain ⟨o,e,c,d⟩:=id st'
  have st2:uS h' it a ((n:Int) - 1 - ((i+1:Nat):Int)):=by rw [show (n:Int) - 1 - ((i+1:Nat):Int)=((n - 1 - i:Nat):Int) - 1 by omega];exact st'
  exact ⟨u,rfl,zFL (s:={ s with heap:=h',toks:=tk }) e c d (by decide) ⟨x,H,I1,ru,⟨rfl,fun ys hy=>by rw [I.tuple_inj hy hq];exact hx⟩,st2,fun b hb=>(hf b hb).1⟩⟩
 done:=by
  intro X hP hw hK hc i pins s σ H E I hf st hg
  subst hP hw hK
  obtain ⟨xs,hq,hx⟩:=hg
  obtain ⟨f0,f1,f2,f3,f4,f5⟩:=hf it (by simp)
  exact zAY (I.ok.hd hc) st (by omega) fun h' eb=>⟨rfl,I.turned (t':=s.toks) (fun b o hb e=>eb b o hb e) f0 f1 f3 f4 f5⟩
 self:=fun _ _ _ _ _ st h=>zCO st h
theorem zCT:bootBuiltins "reversed" = some (.type "reversed"):=by first | rfl | decide +kernel
section
unseal PEd PEf PTd PWd PAd PSd fG POd PGd jA PId PSx nJ PTs PCd PCf
variable {X:Cx} {G:Gx} {fs:Fv} {f:Ev}
def iRv (K:PySem.W.Frag) (ta:TA):TI:=fun σ H R=>ta σ H fun vs H1=>∃ a xs,vs=[.ref a]/\SqT K H1 a xs/\R (Itv K a xs.length) H1
theorem zLB {tg a:Expr} {ta:TA} {p pos:Pos} (hg:Gl X "reversed") (hm:X.mg "reversed" = none) (ha:PA X [a] ta) (hs:starEach [a] X.env=[(false,eval a X.env)]:=by rfl):PI X tg (.Call (.Name "reversed" p) [a] [] pos) (iRv X.K ta):=by
 intro pins s σ H R I h
 refine Call_ (mG I hg hm zCT (PyProof.Rows.callWith_type1 (thn (ha pos pins s σ H _ I h) fun us s1 ⟨vs,H1,I1,r1,q1⟩=>?_) hs rfl))
 obtain ⟨t,xs,rfl,hq,q⟩:=q1
 cases r1 with
 | cons r rr=>
  cases rr
  cases r
  obtain ⟨its,rv,pt,hz⟩:=I1.tuple hq
  have hl:=rv.length
  have big:sizeLine < 2^63:=by decide
  refine zHB (items:=its.toArray) pt (by rw [List.size_toArray];omega) ?_
  have hR:uS (s1.heap.push { cls:=.type "reversed", data:=.fields #[.ref t,rawInt ((its.toArray.size:Int) - 1)] }) s1.heap.objs.size t ((xs.length:Int) - 1 - ((0:Nat):Int)):=
   ⟨_,Heap.get?_push_size _ rfl,rfl,by rw [hl,List.size_toArray];simp⟩
  refine zCO (s:={ s1 with heap:=_,toks:=_ }) hR ?_
  refine ⟨s1.heap.objs.size,[s1.heap.objs.size],_,_,H1,rfl,I1.kept (t':=s1.toks+1+1) fun b o e=>Heap.get?_push_of_some _ e,zHO t _ xs.length hz,hR,fun b hb=>?_,q⟩
  have e:b=s1.heap.objs.size:=by simpa using hb
  subst e
  exact I1.fpOk (Nat.le_refl _) (I1.hok.fresh (Nat.le_refl _))
theorem zEv {K:PySem.W.Frag} {Hi:Hp} {a:Addr} {xs:List V} {ds:List D} (h1:SqT K Hi a xs) (h2:IsDs K Hi xs ds):sI K Hi (Itv K a xs.length) ds.reverse:=fun Hi1 H1 s1 s2 i=>by
 have h3:=bX (s1.trans s2) h1
 have hl:=h2.length
 refine ⟨fun hl'=>⟨xs,h3,by rw [List.length_reverse] at hl';omega⟩,fun d hd=>?_⟩
 have hi:i < ds.length:=by
  have:=(List.getElem?_eq_some_iff.mp hd).1
  rwa [List.length_reverse] at this
 rw [List.getElem?_reverse hi] at hd
 obtain ⟨v,hv,r⟩:=h2.at hd
 have hv':xs.reverse[i]?=some v:=by rw [List.getElem?_reverse (by omega),hl];exact hv
 refine ⟨⟨xs,v,h3,rfl,hv'⟩,fun x H2 y=>?_⟩
 obtain ⟨e,y⟩:=y
 subst e
 have:=y xs h3
 rw [hv'] at this
 cases this
 exact ⟨Hi1,Ext.refl s2,r.mono s1⟩
theorem zNz {tg a:Expr} {p pos:Pos} (hg:Gl X "reversed") (hm:X.mg "reversed" = none) (ha:PEd X G a f) (hst:starEach [a] X.env=[(false,eval a X.env)]:=by rfl):PId X G tg (.Call (.Name "reversed" p) [a] [] pos) (zMI f):=PI.wk (zLB hg hm (jS ha qK (by rw [hst];rfl)) hst) fun σ H Q q=>by
 obtain ⟨ρ,Hi,R,ou⟩:=q
 refine zBA R ou fun v d Hi1 H1 e1 R1 r1 o1=>?_
 cases d with
 | tup ds=>
  obtain ⟨a,xs,rfl,h1,h2⟩:=r1.tupI
  exact ⟨a,xs,rfl,bX R1.s h1,o1.here R1.s _ (zEv h1 h2)⟩
 | _=>exact o1.elim
end
end L3
namespace L3
open PySem PySem.Spec PyProof.Rows L2
unseal PEd PEf PTd PWd PAd PSd fG POd PGd jA PId PSx nJ PTs PCd PCf
section
variable {X:Cx} {G:Gx}
def zOo (K:PySem.W.Frag):List V->Hp->VK->Prop:=fun xs H Q=>∃ (a:Addr) (ns:List Int),xs=[.ref a]/\(SqL K H a (ns.map V.int)∨SqT K H a (ns.map V.int))/\Q (.int ns.sum) H
theorem sD (ns:List Int):∀ j,preSum (fun i=>ns.getD i 0) j=(ns.take j).sum
 | 0=>by rw [List.take_zero];rfl
 | j+1=>by
  rw [preSum,sD ns j,List.take_succ]
  rw [List.getD_eq_getElem?_getD]
  cases ns[j]? with
  | none=>simp
  | some x=>simp
theorem zEK {ns:List Int} {its:List Value} (r:dE (ns.map V.int) its) {i:Nat} {v:Value} (h:its[i]?=some v):∃ t,v=.int (ns.getD i 0) t:=by
 have hl:=r.length
 rw [List.length_map] at hl
 have hi:=(List.getElem?_eq_some_iff.mp h).1
 have hx:(ns.map V.int)[i]?=some (.int (ns.getD i 0)):=by
  rw [List.getElem?_map,List.getD_eq_getElem?_getD,List.getElem?_eq_getElem (by omega)]
  rfl
 obtain ⟨u,hu,ru⟩:=r.get hx
 rw [h] at hu
 cases hu
 exact ru
theorem lV (hc:X.calm=true):uT X (.builtin "sum") (zOo X.K):=by
 intro pins s σ H xs us Q I r h
 obtain ⟨a,ns,rfl,hq,q⟩:=h
 obtain ⟨u,rfl,ru⟩:=r.one
 cases ru
 have hh:=I.ok.hd hc
 rcases hq with hq | hq
 ·obtain ⟨its,rv,p,hz⟩:=I.list hq
  have hlt:a < s.heap.objs.size:=by obtain ⟨_,e,_⟩:=p.isList;exact Heap.lt_size e
  have hl:=rv.length
  rw [List.length_map] at hl
  refine call_sum_walkG (wpAny_pyIter_list p.isList ?_)
  refine ⟨s.heap.objs.size,_,_,_,_,_,fun i=>ns.getD i 0,rfl,Walks.list (A:=X.A.in1) hh s.heap.objs.size a (Nat.ne_of_lt hlt) its.toArray,⟨⟨_,Heap.get?_push_size _ rfl,rfl,rfl⟩,p.isList.push _⟩,fun b hb=>?_,fun i v hv=>zEK rv (by simpa using hv),fun h' tk t' hk=>?_⟩
  ·show b < (s.heap.push _).objs.size
   rw [Heap.size_push]
   rcases List.mem_cons.mp hb with rfl | hb
   ·exact Nat.lt_succ_self _
   ·rcases List.mem_cons.mp hb with rfl | hb
    ·exact Nat.lt_succ_of_lt hlt
    ·cases hb
  ·refine ⟨.int ns.sum,H,I.kept (t':=tk) fun b o e=>hk b o (fun z=>?_) (Heap.get?_push_of_some _ e),⟨t',?_⟩,q⟩
   ·have z':b=s.heap.objs.size:=by simpa using z
    have l:=Heap.lt_size e
    rw [z'] at l
    exact Nat.lt_irrefl _ l
   ·rw [List.size_toArray,<-hl,sD,List.take_length]
 ·obtain ⟨its,rv,p,hz⟩:=I.tuple hq
  have p':s.heap.IsTuple a its.toArray:=p
  have hlt:a < s.heap.objs.size:=by obtain ⟨_,e,_⟩:=p';exact Heap.lt_size e
  have hl:=rv.length
  rw [List.length_map] at hl
  refine call_sum_walkG (wpAny_pyIter_tuple p' ?_)
  refine ⟨s.heap.objs.size,_,_,_,_,_,fun i=>ns.getD i 0,rfl,Walks.tuple (A:=X.A.in1) hh s.heap.objs.size a (Nat.ne_of_lt hlt) its.toArray,⟨⟨_,Heap.get?_push_size _ rfl,rfl,rfl⟩,p'.push _⟩,fun b hb=>?_,fun i v hv=>zEK rv (by simpa using hv),fun h' tk t' hk=>?_⟩
  ·show b < (s.heap.push _).objs.size
   rw [Heap.size_push]
   rcases List.mem_cons.mp hb with rfl | hb
   ·exact Nat.lt_succ_self _
   ·rcases List.mem_cons.mp hb with rfl | hb
    ·exact Nat.lt_succ_of_lt hlt
    ·cases hb
  ·refine ⟨.int ns.sum,H,I.kept (t':=tk) fun b o e=>hk b o (fun z=>?_) (Heap.get?_push_of_some _ e),⟨t',?_⟩,q⟩
   ·have z':b=s.heap.objs.size:=by simpa using z
    have l:=Heap.lt_size e
    rw [z'] at l
    exact Nat.lt_irrefl _ l
   ·rw [List.size_toArray,<-hl,sD,List.take_length]
theorem pK {K:PySem.W.Frag} {H:Hp}:∀ {xs:List V} {ds:List D} {ns:List Int},IsDs K H xs ds->qS ds=some ns->xs=ns.map V.int
 | _,_,ns,.nil,h=>by cases h;rfl
 | _,_,ns,.cons (d:=d) (ds:=ds) r rs,h=>by
  cases d with
  | int i=>
   rw [qS] at h
   cases z:qS ds with
   | none=>rw [z] at h;cases h
   | some ms=>
    rw [z] at h
    cases h
    rw [r.intI,pK rs z]
    rfl
  | _=>cases h
theorem wB:zBu X (zOo X.K) zBR:=⟨fun a c z=>(by
  unfold zBR at z
  split at z
  ·split at z<;>cases z
  ·split at z<;>cases z
  ·cases z),fun Hi H vs ds d Q s r z q=>by
  unfold zBR at z
  split at z
  ·split at z
   ·rename_i ns hns
    cases z
    obtain ⟨v,rfl,h⟩:=r.one
    obtain ⟨a,xs,rfl,h1,h2⟩:=h.lstI
    have e:=pK h2 hns
    subst e
    exact ⟨a,ns,rfl,.inl (cO s h1),q _ Hi H (Ext.refl s) (.int _)⟩
   ·cases z
  ·split at z
   ·rename_i ns hns
    cases z
    obtain ⟨v,rfl,h⟩:=r.one
    obtain ⟨a,xs,rfl,h1,h2⟩:=h.tupI
    have e:=pK h2 hns
    subst e
    exact ⟨a,ns,rfl,.inr (bX s h1),q _ Hi H (Ext.refl s) (.int _)⟩
   ·cases z
  ·cases z⟩
theorem jH:bootBuiltins "sum" = some (.builtin "sum"):=by first | rfl | decide +kernel
end
end L3
namespace L3
open PySem PySem.Spec PyProof.Rows L2
unseal PEd PEf PTd PWd PAd PSd fG POd PGd jA PId PSx nJ PTs PCd PCf
section
variable {prog:Program} {w:World} {A:Around} {E:Value->Shared->Prop} {s:Shared}
end
section
variable {X:Cx} {G:Gx} {es:List Expr} {pos:Pos}
end
theorem ln0 {α:Type} {us:List α} (h:us.length=0):us=[]:=List.eq_nil_of_length_eq_zero h
theorem ln1 {α:Type} {us:List α} (h:us.length=1):∃ a0:α,us=[a0]:=by
 cases us with
 | nil=>cases h
 | cons a r=>
  cases ln0 (Nat.succ.inj h)
  exact ⟨a,rfl⟩
theorem ln2 {α:Type} {us:List α} (h:us.length=2):∃ a0 a1:α,us=[a0,a1]:=by
 cases us with
 | nil=>cases h
 | cons a r=>
  obtain ⟨a1,rfl⟩:=ln1 (Nat.succ.inj h)
  exact ⟨a,a1,rfl⟩
theorem ln3 {α:Type} {us:List α} (h:us.length=3):∃ a0 a1 a2:α,us=[a0,a1,a2]:=by
 cases us with
 | nil=>cases h
 | cons a r=>
  obtain ⟨a1,a2,rfl⟩:=ln2 (Nat.succ.inj h)
  exact ⟨a,a1,a2,rfl⟩
theorem ln4 {α:Type} {us:List α} (h:us.length=4):∃ a0 a1 a2 a3:α,us=[a0,a1,a2,a3]:=by
 cases us with
 | nil=>cases h
 | cons a r=>
  obtain ⟨a1,a2,a3,rfl⟩:=ln3 (Nat.succ.inj h)
  exact ⟨a,a1,a2,a3,rfl⟩
end L3
namespace L3
open PySem PySem.Spec PyProof.Rows L2
unseal PEd PEf PTd PWd PAd PSd fG POd PGd jA PId PSx nJ PTs PCd PCf
section
variable {X:Cx} {G:Gx} {a b c e:Expr} {pos p2:Pos} {f g h:Ev} {fs:Fv} {lo hi:Option Expr} {l u:Ov}
end
end L3
namespace L3
open PySem PySem.Spec PyProof.Rows L2
unseal PEd PEf PTd PWd PAd PSd fG POd PGd jA PId PSx nJ PTs PCd PCf
section
variable {X:Cx} {G:Gx} {a b c e:Expr} {pos p2 p:Pos} {f g h:Ev} {fs:Fv} {x:Str}
theorem zLp {bl:List Stmt}:fG X G bl sNo:=fun pins s σ H E I q=>by
 obtain ⟨ρ,Hi,R,ou⟩:=q
 exact ou.elim
def zHG (T:List (Str×Str)):List (Str×KTD.Dat):=T.map fun q=>(q.1,.flat (.str q.2))
structure IsTab (K:PySem.W.Frag) (mg:Str->Option Value) (x:Str) (T:List (Str×Str)) (a:Addr):Prop where
 mg:mg x=some (.ref a)
 tab:∀ h:Heap,K.In h->KTD.TextTab h a (zHG T)
theorem zEB (k:Str):∀ T:List (Str×Str),KTD.datumAt k (zHG T)=(T.lookup k).map fun y=>.flat (.str y)
 | []=>rfl
 | (x,y)::r=>by
  show (if decide (k=x)=true then some (KTD.Dat.flat (.str y)) else KTD.datumAt k (zHG r))=_
  rw [List.lookup_cons]
  by_cases hx:k=x
  ·rw [if_pos (decide_eq_true hx),show (k==x)=true from beq_iff_eq.mpr hx];rfl
  ·rw [if_neg (by simp [hx]),show (k==x)=false from beq_eq_false_iff_ne.mpr hx];exact zEB k r
theorem zFu (k:Str) (T:List (Str×Str)):KTD.inKeys k (zHG T)=(T.lookup k).isSome:=by
 rw [<-KTD.isSome_datumAt,zEB,Option.isSome_map]
theorem zIy {T:List (Str×Str)} {ad:Addr} (t:IsTab X.K X.mg x T ad) (hg:Gl X x) (hd:(x==("__debug__" : Str))=false:=by decide):PE X (.Name x p) (tC (.ref ad)):=zFe hg t.mg rfl hd
theorem zGs {T:List (Str×Str)} {ad:Addr} (t:IsTab X.K X.mg x T ad):OpR X (compareOp .NotIn) (fun v y H Q=>∃ k,v=.str k/\y=.ref ad/\Q (.bl (!(T.lookup k).isSome)) H):=by
 intro pins s σ H v y u w Q I rx ry h
 obtain ⟨k,rfl,rfl,q⟩:=h
 obtain ⟨tk,rfl⟩:=rx
 cases ry
 refine KTD.notin_text ⟨t.tab s.heap I.kIn,fun _ _ e=>e⟩ ?_
 rw [zFu]
 exact ⟨.bl _,H,I.tok _,rfl,q⟩
theorem zAl {h₀:Heap} {k:Str} {P:Value->Prop}:∀ {T:List (Str×Str)},(∀ z t,T.lookup k=some z->P (.str z t))->KTD.EachL h₀ k P (zHG T)
 | [],_=>trivial
 | [(x,y)],hP=>fun hk t=>hP y t (by rw [List.lookup_cons,show (k==x)=true from beq_iff_eq.mpr hk])
 | (x,y)::q::r,hP=>by
  show if decide (k=x)=true then KTD.Opened h₀ P (.flat (.str y)) else KTD.EachL h₀ k P (zHG (q::r))
  by_cases hk:k=x
  ·rw [if_pos (decide_eq_true hk)]
   exact fun t=>hP y t (by rw [List.lookup_cons,show (k==x)=true from beq_iff_eq.mpr hk])
  ·rw [if_neg (by simp [hk])]
   exact zAl fun z t hz=>hP z t (by rw [List.lookup_cons,show (k==x)=false from beq_eq_false_iff_ne.mpr hk];exact hz)
theorem zGv (T:List (Str×Str)):((zHG T).all fun q=>KTD.plain q.2)=true:=by
 unfold zHG
 rw [List.all_map]
 exact List.all_eq_true.mpr fun _ _=>rfl
theorem zLd {T:List (Str×Str)} {ad:Addr} (t:IsTab X.K X.mg x T ad):IxR X (fun v y H Q=>∃ k z,v=.ref ad/\y=.str k/\T.lookup k=some z/\Q (.str z) H):=by
 intro value slice pins s σ H v y u w Q I rx ry h hs
 obtain ⟨k,z,rfl,rfl,hk,q⟩:=h
 cases rx
 obtain ⟨tk,rfl⟩:=ry
 refine KTD.item_textA ⟨t.tab s.heap I.kIn,fun _ _ e=>e⟩ (zGv T) (by rw [zFu,hk];rfl) ?_ hs
 refine zAl fun z' t' hz=>?_
 rw [hk] at hz
 cases hz
 exact ⟨.str _,H,I.tok _,⟨_,rfl⟩,q⟩
theorem unT {o:D->Res D} {r:R2} {y:V} (hr:∀ (Hi H:Hp) (v:V) (d:D) (Q:VK),IsD X.K Hi v d->Same Hi H->(∃ d',o d=.ok d'/\(∀ w Hi' H',Ext Hi H Hi' H'->IsD X.K Hi' w d'->Q w H'))->r v y H Q)
  (he:∀ d c,o d≠.err c):∀ σ H Q,tD X G (eUn o f) σ H Q->tOp r (tD X G f) (tC y) σ H Q:=fun σ H Q q=>by
 obtain ⟨ρ,Hi,R,ou⟩:=q
 refine zBA R ou fun v d Hi1 H1 e1 R1 r1 o1=>?_
 cases z:o d with
 | no=>rw [z] at o1;exact o1.elim
 | err c=>exact absurd z (he d c)
 | ok d'=>rw [z] at o1;exact hr Hi1 H1 v d Q r1 R1.s ⟨d',z,fun w Hi' H' e1 r1=>o1 Hi' H' e1 w r1⟩
theorem zMu {T:List (Str×Str)} {ad:Addr}:∀ σ H Q,tD X G (eUn (pH T) f) σ H Q->tOp (fun v y H Q=>∃ k,v=.str k/\y=.ref ad/\Q (.bl (!(T.lookup k).isSome)) H) (tD X G f) (tC (.ref ad)) σ H Q:=
 unT (fun Hi H v d Q r s h=>by
  obtain ⟨d',z,q⟩:=h
  unfold pH at z
  split at z
  ·cases z;exact ⟨_,r.strI,rfl,q _ Hi H (Ext.refl s) (.bl _)⟩
  ·cases z) fun d c z=>by unfold pH at z;split at z<;>cases z
theorem zMp {op:CmpOp} {o:D->Res D} {r:R2} {y:V} (hp:PT X (.Compare a [op] [b] pos) (zMy (tOp r (tD X G f) (tC y)))) (hu:∀ σ H Q,tD X G (eUn o f) σ H Q->tOp r (tD X G f) (tC y) σ H Q):PTd X G (.Compare a [op] [b] pos) (dW (eUn o f)):=
 PT.wk hp fun σ H Q q=>by
  obtain ⟨ρ,Hi,R,ou⟩:=q
  refine hu σ H _ ⟨ρ,Hi,R,ou.bind.imp fun d Hi' H' e o v r=>?_⟩
  cases d with
  | bl c=>rw [r.blI];exact ⟨c,rfl,o.here e.s⟩
  | _=>exact o.elim
theorem zHW {T:List (Str×Str)} {ad:Addr} (t:IsTab X.K X.mg x T ad) (hg:Gl X x) (ha:PEd X G a f) (hm:behindInMarks .NotIn (.Name x p)=false) (hd:(x==("__debug__" : Str))=false:=by decide):PTd X G (.Compare a [.NotIn] [.Name x p] pos) (dW (eUn (pH T) f)):=
 zMp (zGc (zGs t) ha (zIy t hg hd) hm) zMu
theorem zIU {T:List (Str×Str)} {ad:Addr} (t:IsTab X.K X.mg x T ad) (hg:Gl X x) (hb:PEd X G b g) (hs:zBv b) (hd:(x==("__debug__" : Str))=false:=by decide):PEd X G (.Subscript (.Name x p) b pos) (eUn (tR T) g):=
 PE.wk (zDB (zLd t) (zIy t hg hd) hb hs) fun σ H Q q=>by
  obtain ⟨ρ,Hi,R,ou⟩:=q
  refine zBA R ou fun v d Hi1 H1 e1 R1 r1 o1=>?_
  cases d with
  | str k=>
   have o2:Out G Hi1 H1 (zKK (T.lookup k)) _:=o1
   cases z:T.lookup k with
   | none=>rw [z] at o2;exact o2.elim
   | some y=>rw [z] at o2;exact ⟨k,y,rfl,r1.strI,z,o2.here R1.s _ (.str _)⟩
  | _=>exact o1.elim
end
end L3
namespace L3
open PySem PySem.Spec PyProof.Rows L2
unseal PEd PEf PTd PWd PAd PSd fG POd PGd jA PId PSx nJ PTs PCd PCf
section
variable {prog:Program} {w:World} {A:Around} {R:Result->Shared->Prop} {I:Addr} {fp wr:List Addr} {n:Nat} {P:Nat->Value->Prop} {St:Nat->Heap->Prop} {kw:List (Str×Value)}
end
section
variable {X:Cx} {G:Gx} {a c:Expr} {pos p kp:Pos} {f g:Ev}
end
end L3
namespace L3
open PySem PySem.Spec PyProof.Rows L2
unseal PEd PEf PTd PWd PAd PSd fG POd PGd jA PId PSx nJ PTs PCd PCf
section
variable {X:Cx} {G:Gx} {e:Expr} {pos:Pos} {f:Ev}
end
end L3
namespace L2
open PySem PySem.Spec PyProof.Rows
section
variable {κ:Type} [DecidableEq κ]
end
abbrev KT (H:Hp):List (List Key×V)->List (List Key×Addr×Value)->Prop:=Paired fun p q=>p.1=q.1/\H q.2.1=some (.tup (p.1.map kV))/\cS p.2 q.2.2
section
variable {P:Program} {w:World} {H:Hp} {h:Heap} {a:Addr}
end
section
variable {X:Cx} {pins:List (Addr×Obj)} {σ:St} {H:Hp} {s:Shared} {a:Addr} {y v:V} {u r:Value} {o:Option V} {A:Around} {E:Value->Shared->Prop}
end
section
variable {X:Cx} {pins:List (Addr×Obj)} {σ:St} {H:Hp} {s:Shared} {a:Addr} {kvs:List (Key×V)} {k:Key} {u:Value} {A:Around} {E:Value->Shared->Prop}
end
section
variable {X:Cx} {o i e value:Expr} {pos pos' tpos:Pos} {td ty tv:TE}
end
section
variable {X:Cx} {pos:Pos}
end
end L2
namespace L3
open PySem PySem.Spec PyProof.Rows L2
unseal PEd PEf PTd PWd PAd PSd fG POd PGd jA PId PSx nJ PTs PCd PCf
section
variable {X:Cx} {G:Gx} {a b c e:Expr} {pos p2 p:Pos} {f g h:Ev} {fs:Fv} {x:Str}
end
end L3
namespace L3
open PySem PySem.Spec PyProof.Rows L2
def itN (k:Bool):String:=if k then "list_iterator" else "tuple_iterator"
def zCz (k:Bool) (h:Heap) (it l:Addr) (i:Nat):Prop:=if k then h.IsListIter it l i else h.IsTupleIter it l i
def vE (k:Bool) (h:Heap) (l:Addr) (xs:Array Value):Prop:=if k then h.IsList l xs else h.IsTuple l xs
theorem zCz.get {k:Bool} {h:Heap} {it l:Addr} {i:Nat} (x:zCz k h it l i):∃ o,h.get? it=some o/\o.cls=.type (itN k)/\o.data=.fields #[.ref l,.int i 0]:=by
 cases k<;>(obtain ⟨o,a,b,c⟩:=x;exact ⟨o,a,b,c⟩)
theorem zCz.mk {k:Bool} {h:Heap} {it l:Addr} {i:Nat} {o:Obj} (a:h.get? it=some o) (b:o.cls=.type (itN k)) (c:o.data=.fields #[.ref l,.int i 0]):zCz k h it l i:=by
 cases k<;>exact ⟨o,a,b,c⟩
theorem zCz.go {k:Bool} {h h':Heap} {it l:Addr} {i:Nat} (x:zCz k h it l i) (g:∀ o,h.get? it=some o->h'.get? it=some o):zCz k h' it l i:=by
 obtain ⟨o,a,b,c⟩:=x.get
 exact .mk (g o a) b c
theorem vE.go {k:Bool} {h h':Heap} {l:Addr} {xs:Array Value} (x:vE k h l xs) (g:∀ o,h.get? l=some o->h'.get? l=some o):vE k h' l xs:=by
 cases k<;>(obtain ⟨o,a,b⟩:=x;exact ⟨o,g o a,b⟩)
section
variable {prog:Program} {w:World} {A:Around} {E:Value->Shared->Prop} {s:Shared}
theorem zFO {k:Bool} {l:Addr} {xs:Array Value} {Q:Value->Shared->Prop} (hl:vE k s.heap l xs) (hQ:Q (.ref s.heap.objs.size) { s with heap:=s.heap.push { cls:=.type (itN k),data:=.fields #[.ref l,.int 0 0] } }):
  wpAny (model prog w) A (pyIter (.ref l)) Q E s:=by
 cases k
 ·exact wpAny_pyIter_tuple hl hQ
 ·exact wpAny_pyIter_list hl hQ
theorem nxT {it t:Addr} {i:Nat} {items:Array Value} {Q:Value->Shared->Prop} (hh:A.handled=none∨(items[i]?).isSome=true) (x:s.heap.IsTupleIter it t i) (y:s.heap.IsTuple t items)
  (go:∀ v,items[i]?=some v->∀ h2,h2.IsTupleIter it t (i+1)->Heap.SameBut it s.heap h2->Q v { s with heap:=h2 })
  (stop:items[i]?=none->∀ h2 e,Heap.ExtBut it s.heap h2->(∃ ob,h2.get? e=some ob/\ob.cls=.type "StopIteration")->E (.ref e) { s with heap:=h2 }):wpAny (model prog w) A (Builtin.SmallTypes.nextOf (.ref it)) Q E s:=by
 obtain ⟨oi,ei,ci,di⟩:=id x
 obtain ⟨ot,et,_,nt,dt⟩:=y
 have nn:¬ ((Value.ref t==Value.none)=true):=Bool.false_ne_true
 unfold Builtin.SmallTypes.nextOf
 refine wpAny_bind (wpAny_callSpecial?_slot (name:=Str.ofString "__next__") x.typeIs F.slot_tuple_iterator_next (wpAny_call_entry F.slot_tuple_iterator_next x.typeIs F.entry_tuple_iterator_next (show wpAny _ _ (field _ 0 >>= _) _ _ s from wpAny_bind (wpAny_field ei di (x:=.ref t) rfl ?_)) (F.args_tuple_iterator_next_1 _)))
 show wpAny _ _ (ite ((Value.ref t==Value.none)=true) _ _) _ _ s
 rw [if_neg nn]
 refine show wpAny _ _ (field _ 1 >>= _) _ _ s from wpAny_bind (wpAny_field ei di (x:=.int i 0) rfl (show wpAny _ _ (seqItems? _ >>= _) _ _ s from wpAny_bind (wpAny_seqItems et dt ?_)))
 have fr:∀ g:Array Value->Array Value,Heap.get? (s.heap.update it (Obj.mapFields g)) it=some (Obj.mapFields g oi):=fun g=>Heap.get?_update_self _ ei (Obj.isFreed_of_fields (Obj.data_mapFields di g))
 cases q:items[i]? with
 | some v=>
  simp only [Int.toNat_natCast,q]
  refine wpAny_bind (wpAny_setField ei di (by simp) (wpAny_pure ⟨v,rfl,wpAny_pure (go v q _ ⟨_,fr _,(Obj.cls_mapFields ..).trans ci,?_⟩ (Heap.SameBut.update ..))⟩))
  rw [Obj.data_mapFields di]
  simp [rawInt]
 | none=>
  have hh:A.handled=none:=hh.elim id fun z=>by rw [q] at z;cases z
  simp only [Int.toNat_natCast,q]
  refine wpAny_bind (wpAny_rule (wpAny_bind (wpAny_setField ei di (by simp) (show wpAny _ _ (newExc _ [] >>= _) _ _ _ from wpAny_bind ?_))))
  simp only [newExc,newTuple]
  refine wpAny_bind (wpAny_newObj_type (wpAny_bind (m:=firstArgMember _ _) (wpAny_of_eq (a:=Value.none) (by first | rfl | (simp only [firstArgMember];rfl)) (wpAny_newObj_type ?_ (by size_fits)))) (by size_fits))
  simp only [raiseNew]
  refine wpAny_bind (wpAny_handled ?_)
  rw [show A.in1.handled=none from hh]
  exact wpAny_bind (wpAny_pure (wpAny_throw (stop q _ _ (((Heap.SameBut.update ..).extBut.push _).push _) ⟨_,Heap.get?_push_size _ rfl,rfl⟩)))
theorem zEU {k:Bool} {it t:Addr} {i:Nat} {items:Array Value} {x:Value} {Q:Value->Shared->Prop} (hit:zCz k s.heap it t i) (ht:vE k s.heap t items) (hx:items[i]?=some x)
  (hQ:∀ h',zCz k h' it t (i+1)->Heap.SameBut it s.heap h'->Q x { s with heap:=h' }):wpAny (model prog w) A (Builtin.SmallTypes.nextOf (.ref it)) Q E s:=by
 cases k
 ·exact nxT (.inr (by rw [hx];rfl)) hit ht (fun v q h2 g1 g2=>by rw [hx] at q;cases q;exact hQ h2 g1 g2) fun q=>by rw [hx] at q;cases q
 ·exact wpAny_nextOf_list_item hit ht hx hQ
theorem zIB {k:Bool} {it t:Addr} {i:Nat} {items:Array Value} {Q:Value->Shared->Prop} (hh:A.handled=none) (hit:zCz k s.heap it t i) (ht:vE k s.heap t items) (hx:items[i]?=none)
  (hE:∀ h' e,Heap.ExtBut it s.heap h'->(∃ o,h'.get? e=some o/\o.cls=.type "StopIteration")->E (.ref e) { s with heap:=h' }):wpAny (model prog w) A (Builtin.SmallTypes.nextOf (.ref it)) Q E s:=by
 cases k
 ·exact nxT (.inl hh) hit ht (fun v q=>by rw [hx] at q;cases q) fun _=>hE
 ·exact wpAny_nextOf_list_end hh hit ht hx hE
def wH (f0:Value) (k1 k2:Bool) (l1 l2 n:Addr) (j1 j2:Nat) (h:Heap):Prop:=
 IsZip h (n+4) (n+2) (n+3) f0/\IsPair h (n+2) (.ref n) (.ref (n+1))/\(∃ a b,IsPair h (n+3) a b)/\zCz k1 h n l1 j1/\zCz k2 h (n+1) l2 j2
def mX (n:Addr) (h h2:Heap):Prop:=∀ c o,c≠n+4->c≠n+3->c≠n->c≠n+1->h.get? c=some o->h2.get? c=some o
theorem mX.then {n:Addr} {h h1 h2:Heap} (a:mX n h h1) (b:mX n h1 h2):mX n h h2:=fun c o c1 c2 c3 c4 e=>b c o c1 c2 c3 c4 (a c o c1 c2 c3 c4 e)
theorem mX.eb {n a:Addr} {h h2:Heap} (k:Heap.ExtBut a h h2) (m:a=n+4∨a=n+3∨a=n∨a=n+1):mX n h h2:=fun c o c1 c2 c3 c4 e=>k c o (fun z=>by subst z;rcases m with m | m | m | m<;>contradiction) e
theorem mX.sq {k:Bool} {n l:Addr} {h h2:Heap} {xs:Array Value} (a:mX n h h2) (hl:l < n) (x:vE k h l xs):vE k h2 l xs:=
 x.go fun o e=>a l o (Nat.ne_of_lt (Nat.lt_add_right 4 hl)) (Nat.ne_of_lt (Nat.lt_add_right 3 hl)) (Nat.ne_of_lt hl) (Nat.ne_of_lt (Nat.lt_succ_of_lt hl)) e
theorem zHo (n:Addr):n+3≠n+4/\n+2≠n+4/\n≠n+4/\n+1≠n+4/\n+2≠n+3/\n≠n+3/\n+1≠n+3/\n+2≠n/\n+1≠n/\n+2≠n+1:=by
 refine ⟨?_,?_,?_,?_,?_,?_,?_,?_,?_,?_⟩<;>(intro z;have z':(_:Nat)=_:=z;omega)
theorem wH.fld {f0:Value} {k1 k2:Bool} {l1 l2 n:Addr} {j1 j2:Nat} {h h2:Heap} (g:wH f0 k1 k2 l1 l2 n j1 j2 h) {f1:Value} (z:IsZip h2 (n+4) (n+2) (n+3) f1) (s:Heap.ExtBut (n+4) h h2):wH f1 k1 k2 l1 l2 n j1 j2 h2:=by
 obtain ⟨_,g2,⟨a,b,g3⟩,g4,g5⟩:=g
 obtain ⟨e1,e2,e3,e4,_⟩:=zHo n
 exact ⟨z,s _ _ e2 g2,⟨a,b,s _ _ e1 g3⟩,g4.go fun o e=>s _ o e3 e,g5.go fun o e=>s _ o e4 e⟩
theorem wH.it1 {f0:Value} {k1 k2:Bool} {l1 l2 n:Addr} {j1 j2 m:Nat} {h h2:Heap} (g:wH f0 k1 k2 l1 l2 n j1 j2 h) (z:zCz k1 h2 n l1 m) (s:Heap.ExtBut n h h2):wH f0 k1 k2 l1 l2 n m j2 h2:=by
 obtain ⟨g1,g2,⟨a,b,g3⟩,_,g5⟩:=g
 obtain ⟨e1,e2,e3,e4,e5,e6,e7,e8,e9,_⟩:=zHo n
 exact ⟨s _ _ e3.symm g1,s _ _ e8 g2,⟨a,b,s _ _ e6.symm g3⟩,z,g5.go fun o e=>s _ o e9 e⟩
theorem wH.it2 {f0:Value} {k1 k2:Bool} {l1 l2 n:Addr} {j1 j2 m:Nat} {h h2:Heap} (g:wH f0 k1 k2 l1 l2 n j1 j2 h) (z:zCz k2 h2 (n+1) l2 m) (s:Heap.ExtBut (n+1) h h2):wH f0 k1 k2 l1 l2 n j1 m h2:=by
 obtain ⟨g1,g2,⟨a,b,g3⟩,g4,_⟩:=g
 obtain ⟨e1,e2,e3,e4,e5,e6,e7,e8,e9,e10⟩:=zHo n
 exact ⟨s _ _ e4.symm g1,s _ _ e10 g2,⟨a,b,s _ _ e7.symm g3⟩,g4.go fun o e=>s _ o e9.symm e,z⟩
theorem wH.out {f0 a b:Value} {k1 k2:Bool} {l1 l2 n:Addr} {j1 j2:Nat} {h h2:Heap} (g:wH f0 k1 k2 l1 l2 n j1 j2 h) (z:IsPair h2 (n+3) a b) (s:Heap.ExtBut (n+3) h h2):wH f0 k1 k2 l1 l2 n j1 j2 h2:=by
 obtain ⟨g1,g2,_,g4,g5⟩:=g
 obtain ⟨e1,e2,e3,e4,e5,e6,e7,_⟩:=zHo n
 exact ⟨s _ _ e1.symm g1,s _ _ e5 g2,⟨a,b,z⟩,g4.go fun o e=>s _ o e6 e,g5.go fun o e=>s _ o e7 e⟩
theorem zOB {k1 k2:Bool} {n l1 l2:Addr} {j:Nat} {xs ys:Array Value} {Q:PySem.Fin->Shared->Prop} (hh:A.handled=none) (b1:l1 < n) (b2:l2 < n) (g:wH .none k1 k2 l1 l2 n j j s.heap) (d1:vE k1 s.heap l1 xs) (d2:vE k2 s.heap l2 ys)
  (go:∀ x y,xs[j]?=some x->ys[j]?=some y->∀ h2,wH (rawInt s.heap.objs.size) k1 k2 l1 l2 n (j+1) (j+1) h2->IsPair h2 s.heap.objs.size x y->mX n s.heap h2->Q (.done (.ret (.ref s.heap.objs.size))) { s with heap:=h2 })
  (stop:xs[j]?=none∨ys[j]?=none->∀ h2 e,mX n s.heap h2->(∃ o,h2.get? e=some o/\o.cls=.type "StopIteration")->E (.ref e) { s with heap:=h2 }):
  wpAny (model prog w) A (Builtin.«zip.__next__» ⟨[.ref (n+4)],[]⟩) Q E s:=by
 have stopZ:∀ {h1:Heap} {e:Addr} {v:Value} {k:Nat} {R:Unit->Shared->Prop},(xs[j]?=none∨ys[j]?=none)->mX n s.heap h1->IsZip h1 (n+4) (n+2) (n+3) .ellipsis->(∃ o,h1.get? e=some o/\o.cls=.type "StopIteration")->k < 5->
   (∀ h3,mX n s.heap h3->(∃ o,h3.get? e=some o/\o.cls=.type "StopIteration")->R () { s with heap:=h3 })->wpAny (model prog w) A (setField (.ref (n+4)) k v) R E { s with heap:=h1 }:=by
  intro h1 e v k R q kz z he hk fin
  obtain ⟨oe,e1,e2⟩:=he
  have nz:e≠n+4:=fun y=>by subst y;rw [z] at e1;cases e1;simp at e2
  exact wpAny_setField_rec z (by simpa using hk) fun h3 _ s3=>fin h3 (kz.then (.eb s3.extBut (.inl rfl))) ⟨oe,s3.extBut _ _ nz e1,e2⟩
 obtain ⟨z0,t0,⟨a,b,p0⟩,_⟩:=id g
 refine show wpAny _ _ (field _ 2 >>= _) _ _ s from wpAny_bind (wpAny_field z0 rfl (x:=.bool false) rfl (show wpAny _ _ (field _ 3 >>= _) _ _ s from wpAny_bind (wpAny_field z0 rfl (x:=.ref (n+2)) rfl (wpAny_bind (wpAny_seqItems t0 rfl (wpAny_bind ?_))))))
 unfold Builtin.SmallTypes.ownedTupleIsFree
 refine wpAny_bind (wpAny_field z0 rfl (x:=.none) rfl (wpAny_pure ?_))
 simp only [if_true]
 refine wpAny_bind (wpAny_rule (wpAny_bind (wpAny_field z0 rfl (x:=.ref (n+3)) rfl (wpAny_bind (wpAny_setField_rec z0 (by simp) fun h1 z1 s1=>wpAny_bind ?_)))))
 have g1:wH .ellipsis k1 k2 l1 l2 n j j h1:=g.fld z1 s1.extBut
 have k1':mX n s.heap h1:=.eb s1.extBut (.inl rfl)
 simp only [List.zipIdx_cons,List.zipIdx_nil,List.forIn_cons,List.forIn_nil]
 refine wpAny_bind (wpAny_bind (wpAny_onRaise (show wpAny _ _ (Builtin.SmallTypes.nextOf _ >>= _) _ _ _ from wpAny_bind ?_)))
 cases q1:xs[j]? with
 | none=>
  refine zIB (s:={ s with heap:=h1 }) hh g1.2.2.2.1 (k1'.sq b1 d1) q1 fun h2 e x2 he=>stopZ (.inl q1) (k1'.then (.eb x2 (.inr (.inr (.inl rfl))))) (x2 _ _ (zHo n).2.2.1.symm g1.1) he (by decide) fun h3=>stop (.inl q1) h3 e
 | some x=>
  refine zEU (s:={ s with heap:=h1 }) g1.2.2.2.1 (k1'.sq b1 d1) q1 fun h2 i2 s2=>wpAny_pure ?_
  have g2:=g1.it1 i2 s2.extBut
  have k2':=k1'.then (.eb s2.extBut (.inr (.inr (.inl rfl))))
  have p2:IsPair h2 (n+3) a b:=s2.extBut _ _ (zHo n).2.2.2.2.2.1.symm (s1.extBut _ _ (zHo n).1 p0)
  refine wpAny_bind (wpAny_seqItems (s:={ s with heap:=h2 }) p2 rfl (wpAny_bind (wpAny_updateSeq_pair p2 fun h3 p3 s3=>wpAny_bind (wpAny_letGo (wpAny_pure ?_)))))
  have g3:=g2.out p3 s3.extBut
  have k3':=k2'.then (.eb s3.extBut (.inr (.inl rfl)))
  refine wpAny_bind (wpAny_bind (wpAny_onRaise (show wpAny _ _ (Builtin.SmallTypes.nextOf _ >>= _) _ _ _ from wpAny_bind ?_)))
  cases q2:ys[j]? with
  | none=>
   refine zIB (s:={ s with heap:=h3 }) hh g3.2.2.2.2 (k3'.sq b2 d2) q2 fun h4 e x4 he=>stopZ (.inr q2) (k3'.then (.eb x4 (.inr (.inr (.inr rfl))))) (x4 _ _ (zHo n).2.2.2.1.symm g3.1) he (by decide) fun h5=>stop (.inr q2) h5 e
  | some y=>
   refine zEU (s:={ s with heap:=h3 }) g3.2.2.2.2 (k3'.sq b2 d2) q2 fun h4 i4 s4=>wpAny_pure ?_
   have g4:=g3.it2 i4 s4.extBut
   have p4:IsPair h4 (n+3) x b:=s4.extBut _ _ (zHo n).2.2.2.2.2.2.1.symm p3
   refine wpAny_bind (wpAny_seqItems (s:={ s with heap:=h4 }) p4 rfl (wpAny_bind (wpAny_updateSeq_pair p4 fun h5 p5 s5=>wpAny_bind (wpAny_letGo (wpAny_pure (wpAny_pure ?_))))))
   have p5:IsPair h5 (n+3) x y:=p5
   have g5:=g4.out p5 s5.extBut
   have k5':=(k3'.then (.eb s4.extBut (.inr (.inr (.inr rfl))))).then (.eb s5.extBut (.inr (.inl rfl)))
   have sz:h5.objs.size=s.heap.objs.size:=s5.1.trans (s4.1.trans (s3.1.trans (s2.1.trans s1.1)))
   refine wpAny_bind (wpAny_seqItems (s:={ s with heap:=h5 }) p5 rfl (wpAny_bind (wpAny_newTuple (show wpAny _ _ (Builtin.SmallTypes.ownedTupleHandOut _ (.ref h5.objs.size) >>= _) _ _ _ from wpAny_bind ?_))))
   unfold Builtin.SmallTypes.ownedTupleHandOut
   refine wpAny_bind (wpAny_setField_rec (Heap.get?_push_of_some _ g5.1) (by simp) fun h7 z7 s7=>wpAny_setField_rec z7 (by simp) fun h8 z8 s8=>wpAny_pure ?_)
   have nz:h5.objs.size≠n+4:=Nat.ne_of_gt (Heap.lt_size g5.1)
   have x8:Heap.ExtBut (n+4) h5 h8:=fun c o c1 e=>s8.extBut _ _ c1 (s7.extBut _ _ c1 (Heap.get?_push_of_some _ e))
   have g8:wH (rawInt h5.objs.size) k1 k2 l1 l2 n (j+1) (j+1) h8:=g5.fld z8 x8
   have t8:IsPair h8 h5.objs.size x y:=s8.extBut _ _ nz (s7.extBut _ _ nz (Heap.get?_push_size _ rfl))
   rw [sz] at g8 t8
   show Q (.done (.ret (.ref h5.objs.size))) _
   rw [sz]
   exact go x y q1 q2 h8 g8 t8 (k5'.then (.eb x8 (.inl rfl)))
theorem zNT {k1 k2:Bool} {n l1 l2:Addr} {j:Nat} {xs ys:Array Value} {Q:Option Value->Shared->Prop} (hh:A.handled=none) (b1:l1 < n) (b2:l2 < n) (g:wH .none k1 k2 l1 l2 n j j s.heap) (d1:vE k1 s.heap l1 xs) (d2:vE k2 s.heap l2 ys)
  (go:∀ x y,xs[j]?=some x->ys[j]?=some y->∀ h2,wH (rawInt s.heap.objs.size) k1 k2 l1 l2 n (j+1) (j+1) h2->IsPair h2 s.heap.objs.size x y->mX n s.heap h2->Q (some (.ref s.heap.objs.size)) { s with heap:=h2 })
  (stop:xs[j]?=none∨ys[j]?=none->∀ h2,mX n s.heap h2->Q none { s with heap:=h2 }):wpAny (model prog w) A (pyNext (.ref (n+4))) Q E s:=by
 have ty:s.TypeIs (.ref (n+4)) "zip" := ⟨_,g.1,rfl⟩
 unfold pyNext
 refine wpAny_bind (wpAny_attempt (wpAny_callSpecial?_slot (name:=Str.ofString "__next__") ty F.slot_zip_next (wpAny_call_entry F.slot_zip_next ty F.entry_zip_next
  (zOB hh b1 b2 g d1 d2 (fun x y q1 q2 h2 a1 a2 a3=>⟨_,rfl,wpAny_pure (go x y q1 q2 h2 a1 a2 a3)⟩) fun q h2 e k he=>?_) (F.args_zip_next_1 _))))
 obtain ⟨o,eo,co⟩:=he
 exact wpAny_bind (wpAny_isInstance (T := "StopIteration") (b:=true) ⟨o,eo,co⟩ isSubtype_stop (wpAny_pure (stop q h2 k)))
end
abbrev zO (k:Bool) (l:Addr):Obj:={ cls:=.type (itN k),data:=.fields #[.ref l,.int 0 0] }
abbrev zH2 (k1 k2:Bool) (h:Heap) (l1 l2:Addr):Heap:=(h.push (zO k1 l1)).push (zO k2 l2)
abbrev zH3 (k1 k2:Bool) (h:Heap) (l1 l2:Addr):Heap:=(zH2 k1 k2 h l1 l2).push { cls:=.type "tuple", data:=.seq #[.ref h.objs.size,.ref (h.push (zO k1 l1)).objs.size] }
abbrev zH4 (k1 k2:Bool) (h:Heap) (l1 l2:Addr):Heap:=(zH3 k1 k2 h l1 l2).push { cls:=.type "tuple", data:=.seq #[.none,.none] }
abbrev zH5 (k1 k2:Bool) (h:Heap) (l1 l2:Addr):Heap:=(zH4 k1 k2 h l1 l2).push { cls:=.type "zip", data:=.fields #[.none,.bool false,.bool false,.ref (zH2 k1 k2 h l1 l2).objs.size,.ref (zH3 k1 k2 h l1 l2).objs.size] }
theorem zHz (k1 k2:Bool) (l1 l2:Addr) (xs ys:Array Value):Meets (Builtin.«zip.__new__» ⟨[.type "zip", .ref l1,.ref l2],[]⟩) (fun _ R s=>vE k1 s.heap l1 xs/\vE k2 s.heap l2 ys/\
  R (.ok (.ret (.ref (zH4 k1 k2 s.heap l1 l2).objs.size))) { s with heap:=zH5 k1 k2 s.heap l1 l2 }):=
 .of_wp fun prog w A R s h=>by
  obtain ⟨hp,g,d,tk,os⟩:=s
  obtain ⟨hl1,hl2,h⟩:=h
  have hsub:=sub_zip
  have d1:vE k1 (Shared.heap ⟨hp,g,d,tk,os⟩) l1 xs:=hl1
  have d2:vE k2 (Shared.heap ⟨hp.push { cls:=.type (itN k1),data:=.fields #[.ref l1,.int 0 0] },g,d,tk,os⟩) l2 ys:=hl2.go fun o e=>Heap.get?_push_of_some _ e
  wp_walk using zFO d1,zFO d2
  exact ⟨_,rfl,h⟩
section
variable {prog:Program} {w:World} {A:Around} {E:Value->Shared->Prop} {s:Shared}
theorem zHh {k1 k2:Bool} {l1 l2:Addr} {xs ys:Array Value} {Q:Value->Shared->Prop} (d1:vE k1 s.heap l1 xs) (d2:vE k2 s.heap l2 ys)
  (h:∀ h2,wH .none k1 k2 l1 l2 s.heap.objs.size 0 0 h2->(∀ c o,s.heap.get? c=some o->h2.get? c=some o)->Q (.ref (s.heap.objs.size+4)) { s with heap:=h2 }):wpAny (model prog w) A (call (.type "zip") [.ref l1,.ref l2]) Q E s:=by
 refine callType_new F.called_zip (by decide) (F.typeCall_zip_2 _ _) (F.newCall_zip_2 _ _) (fun obj=>F.args_object_init_3 obj _ _) F.entry_zip_new (zHz k1 k2 l1 l2 xs ys) ⟨d1,d2,?_⟩
 have up:∀ {h:Heap} {a:Addr} {o ob:Obj},h.get? a=some o->(h.push ob).get? a=some o:=fun e=>Heap.get?_push_of_some _ e
 have m1:(s.heap.push (zO k1 l1)).objs.size=s.heap.objs.size+1:=Heap.size_push ..
 have m2:(zH2 k1 k2 s.heap l1 l2).objs.size=s.heap.objs.size+2:=(Heap.size_push ..).trans (congrArg (·+1) m1)
 have m3:(zH3 k1 k2 s.heap l1 l2).objs.size=s.heap.objs.size+3:=(Heap.size_push ..).trans (congrArg (·+1) m2)
 have m4:(zH4 k1 k2 s.heap l1 l2).objs.size=s.heap.objs.size+4:=(Heap.size_push ..).trans (congrArg (·+1) m3)
 have r0:(zH5 k1 k2 s.heap l1 l2).get? s.heap.objs.size=some (zO k1 l1):=up (up (up (up (Heap.get?_push_size _ rfl))))
 have r1:(zH5 k1 k2 s.heap l1 l2).get? (s.heap.push (zO k1 l1)).objs.size=some (zO k2 l2):=up (up (up (Heap.get?_push_size _ rfl)))
 have r2:(zH5 k1 k2 s.heap l1 l2).get? (zH2 k1 k2 s.heap l1 l2).objs.size=some _:=up (up (Heap.get?_push_size _ rfl))
 have r3:(zH5 k1 k2 s.heap l1 l2).get? (zH3 k1 k2 s.heap l1 l2).objs.size=some _:=up (Heap.get?_push_size _ rfl)
 have r4:(zH5 k1 k2 s.heap l1 l2).get? (zH4 k1 k2 s.heap l1 l2).objs.size=some _:=Heap.get?_push_size _ rfl
 rw [m1] at r1
 rw [m1,m2] at r2
 rw [m3] at r3
 rw [m2,m3,m4] at r4
 show _/\_
 rw [m4]
 exact ⟨⟨_,r4,rfl⟩,h _ ⟨r4,r2,⟨_,_,r3⟩,.mk r0 rfl rfl,.mk r1 rfl rfl⟩ fun c o x=>up (up (up (up (up x))))⟩
end
end L3
namespace L3
open PySem PySem.Spec PyProof.Rows L2
section
variable {X:Cx} {pins:List (Addr×Obj)} {σ:St} {H:Hp} {s:Shared} {h':Heap} {fp:List Addr}
theorem zJY {t':Nat} {p:Addr} {xs:List V} {us:List Value} (I:Inv X pins σ H s) (hf:∀ b∈fp,qR X pins H b) (k:∀ b o,b∉fp->s.heap.get? b=some o->h'.get? b=some o)
  (hp:s.heap.objs.size<=p) (ht:IsTup h' p us.toArray) (hv:dE xs us) (hz:xs.length<=sizeLine):Inv X pins σ (upd H p (.tup xs)) { s with heap:=h',toks:=t' }:=by
 have hn:H p=none:=I.hok.fresh hp
 have nf:∀ b u,H b=some u->b∉fp:=fun b u e z=>by rw [(hf b z).1] at e;cases e
 have np:∀ b u,H b=some u->upd H p (.tup xs) b=some u:=fun b u e=>by rw [bC (bB e hn)];exact e
 refine I.step (g':=s.gens) (d':=s.drawn) (ch:=fp) (fun b hb=>⟨(hf b hb).2.2.2.1,(hf b hb).2.1,(hf b hb).2.2.2.2.1,(hf b hb).2.2.2.2.2⟩) (fun b o _ _ hc e _=>k b o hc e) (fun b o _ _ hc e _=>⟨o.slots,k b o hc e⟩) (fun b o _ e n=>?_)
  (fun b o hc e=>⟨o,k b o hc e⟩) (fun b xs e=>np _ _ e) (fun b o u e=>np _ _ e) (fun b ps e=>⟨#[],by rw [np _ _ e];simp⟩) (fun m hm=>?_) (fun b u e=>?_) I.bare
 ·rw [bC (Nat.ne_of_lt (Nat.lt_of_lt_of_le (Heap.lt_size e) hp))];exact n
 ·obtain ⟨o,es,ep,ho,r⟩:=hm
  exact ⟨o,es,ep,k _ o (fun z=>(hf _ z).2.1 rfl) ho,r⟩
 ·by_cases hb:b=p
  ·subst hb
   rw [aZ] at e;cases e
   exact ⟨hz,us,hv,ht⟩
  ·rw [bC hb] at e
   refine (I.hok b u e).stay (fun c v hc q=>k c v ?_ q) (fun _ q=>np _ _ q) fun _ _ q=>np _ _ q
   rcases hc with z | z
   ·rw [z];exact nf b u e
   ·exact nf c _ z
theorem zJv {t':Nat} (I:Inv X pins σ H s) (hf:∀ b∈fp,qR X pins H b) (k:∀ b o,b∉fp->s.heap.get? b=some o->h'.get? b=some o):Inv X pins σ H { s with heap:=h',toks:=t' }:=by
 have nf:∀ b u,H b=some u->b∉fp:=fun b u e z=>by rw [(hf b z).1] at e;cases e
 refine I.step (g':=s.gens) (d':=s.drawn) (ch:=fp) (fun b hb=>⟨(hf b hb).2.2.2.1,(hf b hb).2.1,(hf b hb).2.2.2.2.1,(hf b hb).2.2.2.2.2⟩) (fun b o _ _ hc e _=>k b o hc e) (fun b o _ _ hc e _=>⟨o.slots,k b o hc e⟩) (fun b o _ e n=>n)
  (fun b o hc e=>⟨o,k b o hc e⟩) (fun b xs e=>e) (fun b o u e=>e) (fun b ps e=>⟨#[],by rw [e];simp⟩) (fun m hm=>?_) (fun b u e=>?_) I.bare
 ·obtain ⟨o,es,ep,ho,r⟩:=hm
  exact ⟨o,es,ep,k _ o (fun z=>(hf _ z).2.1 rfl) ho,r⟩
 ·refine (I.hok b u e).stay (fun c v hc q=>k c v ?_ q) (fun _ q=>q) fun _ _ q=>q
  rcases hc with z | z
  ·rw [z];exact nf b u e
  ·exact nf c _ z
end
def SqK (k:Bool) (K:PySem.W.Frag) (H:Hp) (a:Addr) (xs:List V):Prop:=if k then SqL K H a xs else SqT K H a xs
theorem rG {k:Bool} {K:PySem.W.Frag} {H H':Hp} (e:Same H H') {a:Addr} {xs:List V} (h:SqK k K H a xs):SqK k K H' a xs:=by
 cases k
 ·exact bX e h
 ·exact cO e h
section
variable {X:Cx} {pins:List (Addr×Obj)} {σ:St} {H:Hp} {s:Shared} {k:Bool} {a:Addr} {xs ys:List V}
theorem sqI (I:Inv X pins σ H s) (h:SqK k X.K H a xs):∃ its:List Value,dE xs its/\vE k s.heap a its.toArray/\xs.length<=sizeLine:=by
 cases k
 ·obtain ⟨its,rv,p,hz⟩:=I.tuple h
  exact ⟨its,rv,p,hz⟩
 ·obtain ⟨its,rv,p,hz⟩:=I.list h
  exact ⟨its,rv,p.isList,hz⟩
theorem zEE (I:Inv X pins σ H s) (h:SqK k X.K H a xs) (h':SqK k X.K H a ys):xs=ys:=by
 cases k
 ·exact I.tuple_inj h h'
 ·exact I.list_inj h h'
theorem vE.lt {h:Heap} {l:Addr} {xs:Array Value} (x:vE k h l xs):l < h.objs.size:=by
 cases k<;>(obtain ⟨o,e,_⟩:=x;exact Heap.lt_size e)
end
def Itz (K:PySem.W.Frag) (k1 k2:Bool) (a1 a2:Addr):It:=
  ⟨fun i H=>∃ xs ys x y,SqK k1 K H a1 xs/\SqK k2 K H a2 ys/\xs[i]?=some x/\ys[i]?=some y,
   fun i H v H'=>∃ p x y,v=.ref p/\H p=none/\H'=upd H p (.tup [x,y])/\(∀ xs,SqK k1 K H a1 xs->xs[i]?=some x)/\∀ ys,SqK k2 K H a2 ys->ys[i]?=some y,
   fun i H=>∃ xs ys,SqK k1 K H a1 xs/\SqK k2 K H a2 ys/\(xs.length<=i∨ys.length<=i)⟩
def zOO (k1 k2:Bool) (a1 a2 n:Addr) (i:Nat) (h:Heap):Prop:=wH .none k1 k2 a1 a2 n i i h
theorem tO {h:Heap} {b:Addr} {o:Obj} {d:Data} (e:h.get? b=some o) (hd:o.data=d) (nd:∀ v,d≠.cell v):∃ o,h.get? b=some o/\∀ v,o.data≠.cell v:=⟨o,e,fun v z=>nd v (hd.symm.trans z)⟩
theorem zHU {P:Program} {w:World} {K:PySem.W.Frag} {elts:List Expr} {x1:Nat} {tp:Pos} (k1 k2:Bool) (a1 a2 n:Addr) (l1:a1 < n) (l2:a2 < n):
  Turn P w K (.Tuple elts x1 tp) (Itz K k1 k2 a1 a2) [n+4,n+2,n+3,n,n+1] (n+4) (zOO k1 k2 a1 a2 n) where
 mem:=by simp
 obj:=fun i h st b hb=>by
  obtain ⟨t1,t2,⟨a,b',t3⟩,t4,t5⟩:=st
  obtain ⟨o4,e4,_,d4⟩:=t4.get
  obtain ⟨o5,e5,_,d5⟩:=t5.get
  simp only [List.mem_cons,List.not_mem_nil,or_false] at hb
  rcases hb with rfl | rfl | rfl | rfl | rfl
  ·exact tO t1 rfl fun v z=>by cases z
  ·exact tO t2 rfl fun v z=>by cases z
  ·exact tO t3 rfl fun v z=>by cases z
  ·exact tO e4 d4 fun v z=>by cases z
  ·exact tO e5 d5 fun v z=>by cases z
 keep:=fun i h h' st k=>by
  obtain ⟨t1,t2,⟨a,b',t3⟩,t4,t5⟩:=st
  exact ⟨k _ (by simp) _ t1,k _ (by simp) _ t2,⟨a,b',k _ (by simp) _ t3⟩,t4.go fun o e=>k _ (by simp) o e,t5.go fun o e=>k _ (by simp) o e⟩
 item:=by
  intro X hP hw hK hc i pins s σ H E I hf st hg
  subst hP hw hK
  obtain ⟨xs,ys,x,y,q1,q2,hx,hy⟩:=hg
  obtain ⟨us,r1,s1,z1⟩:=sqI I q1
  obtain ⟨ws,r2,s2,z2⟩:=sqI I q2
  obtain ⟨u,hu,ru⟩:=r1.get hx
  obtain ⟨v,hv,rv⟩:=r2.get hy
  have hu':us.toArray[i]?=some u:=by simpa using hu
  have hv':ws.toArray[i]?=some v:=by simpa using hv
  have st':=st
  obtain ⟨t1,t2,⟨a,b,t3⟩,t4,t5⟩:=st
  refine zNT (I.ok.hd hc) l1 l2 st' s1 s2 (fun x' y' f1 f2 h' g' p' kz=>?_) (fun q=>?_)
  rotate_left
  ·rw [hu',hv'] at q;rcases q with q | q<;>cases q
  rw [hu'] at f1;cases f1
  rw [hv'] at f2;cases f2
  refine ⟨_,rfl,wpAny_letOwnedTupleGo_zip (s:={ s with heap:=h' }) g'.1 fun h'' c1 c2=>?_⟩
  have zl:s.heap.objs.size≠n+4:=Nat.ne_of_gt (Heap.lt_size t1)
  have np:H s.heap.objs.size=none:=I.hok.fresh (Nat.le_refl _)
  have I1:Inv X pins σ (upd H s.heap.objs.size (.tup [x,y])) { s with heap:=h'',toks:=s.toks }:=zJY (us:=[u,v]) I hf (fun b o hb e=>by
    simp only [List.mem_cons,List.not_mem_nil,or_false,not_or] at hb
    exact c2.extBut b o hb.1 (kz b o hb.1 hb.2.2.1 hb.2.2.2.1 hb.2.2.2.2 e)) (Nat.le_refl _) ⟨_,c2.extBut _ _ zl p',rfl,_,rfl⟩ (.cons ru (.cons rv .nil)) (show 2<=sizeLine by decide)
  refine ⟨.ref s.heap.objs.size,_,I1,rfl,⟨_,x,y,rfl,np,rfl,fun zs hz=>by rw [zEE I hz q1];exact hx,fun zs hz=>by rw [zEE I hz q2];exact hy⟩,g'.fld c1 c2.extBut,fun b hb=>?_⟩
  ·obtain ⟨o,e,_⟩:∃ o,s.heap.get? b=some o/\True:=by
    obtain ⟨o4,e4,_⟩:=t4.get
    obtain ⟨o5,e5,_⟩:=t5.get
    simp only [List.mem_cons,List.not_mem_nil,or_false] at hb
    rcases hb with rfl | rfl | rfl | rfl | rfl
    ·exact ⟨_,t1,trivial⟩
    ·exact ⟨_,t2,trivial⟩
    ·exact ⟨_,t3,trivial⟩
    ·exact ⟨_,e4,trivial⟩
    ·exact ⟨_,e5,trivial⟩
   rw [bC (Nat.ne_of_lt (Heap.lt_size e))]
   exact (hf b hb).1
 done:=by
  intro X hP hw hK hc i pins s σ H E I hf st hg
  subst hP hw hK
  obtain ⟨xs,ys,q1,q2,hl⟩:=hg
  obtain ⟨us,r1,s1,z1⟩:=sqI I q1
  obtain ⟨ws,r2,s2,z2⟩:=sqI I q2
  have st':=st
  obtain ⟨t1,t2,⟨a,b,t3⟩,t4,t5⟩:=st
  have e1:=r1.length
  have e2:=r2.length
  refine zNT (I.ok.hd hc) l1 l2 st' s1 s2 (fun x y f1 f2=>?_) fun _ h' b7=>⟨rfl,zJv (t':=s.toks) I hf fun b o hb e=>?_⟩
  ·have m1:=(Array.getElem?_eq_some_iff.mp f1).1
   have m2:=(Array.getElem?_eq_some_iff.mp f2).1
   rw [List.size_toArray] at m1 m2
   omega
  ·simp only [List.mem_cons,List.not_mem_nil,or_false,not_or] at hb
   exact b7 b o hb.1 hb.2.2.1 hb.2.2.2.1 hb.2.2.2.2 e
 self:=fun _ _ _ _ _ st h=>wpAny_pyIter_zip st.1 h
section
unseal PEd PEf PTd PWd PAd PSd fG POd PGd jA PId PSx nJ PTs PCd PCf
variable {X:Cx} {G:Gx} {fs:Fv} {f:Ev}
def iZp (K:PySem.W.Frag) (ta:TA):TI:=fun σ H R=>ta σ H fun vs H1=>∃ k1 k2 a1 a2 xs ys,vs=[.ref a1,.ref a2]/\SqK k1 K H1 a1 xs/\SqK k2 K H1 a2 ys/\R (Itz K k1 k2 a1 a2) H1
theorem zLe {a b:Expr} {ta:TA} {p pos:Pos} {elts:List Expr} {x1:Nat} {tp:Pos} (hg:Gl X "zip") (hm:X.mg "zip" = none) (ha:PA X [a,b] ta)
  (hs:starEach [a,b] X.env=[(false,eval a X.env),(false,eval b X.env)]:=by rfl) (hs2:starEach [b] X.env=[(false,eval b X.env)]:=by rfl):PI X (.Tuple elts x1 tp) (.Call (.Name "zip" p) [a,b] [] pos) (iZp X.K ta):=by
 intro pins s σ H R I h
 refine Call_ (mG I hg hm boot_zip (PyProof.Rows.callWith_type1 (thn (ha pos pins s σ H _ I h) fun us s1 ⟨vs,H1,I1,r1,q1⟩=>?_) (by rw [hs,hs2]) (by rw [hs2];rfl)))
 obtain ⟨k1,k2,a1,a2,xs,ys,rfl,h1,h2,q⟩:=q1
 cases r1 with
 | cons r rr=>
  cases rr with
  | cons r' rr=>
   cases rr
   cases r
   cases r'
   obtain ⟨us,rv,p1,z1⟩:=sqI I1 h1
   obtain ⟨ws,rw_,p2,z2⟩:=sqI I1 h2
   refine zHh p1 p2 fun h' b1 b6=>wpAny_pyIter_zip (s:={ s1 with heap:=h' }) b1.1 ?_
   refine ⟨s1.heap.objs.size+4,_,_,_,H1,rfl,I1.kept (t':=s1.toks) b6,zHU k1 k2 a1 a2 s1.heap.objs.size p1.lt p2.lt,b1,fun b hb=>?_,q⟩
   have hb':s1.heap.objs.size<=b:=by
    simp only [List.mem_cons,List.not_mem_nil,or_false] at hb
    rcases hb with rfl | rfl | rfl | rfl | rfl<;>omega
   exact I1.fpOk hb' (I1.hok.fresh hb')
theorem zAJ:∀ (xs ys:List D) (i:Nat) (d:D),(iY xs ys)[i]?=some d->∃ a b,xs[i]?=some a/\ys[i]?=some b/\d=.tup [a,b]
 | a::r,b::q,0,d,h=>by cases h;exact ⟨a,b,rfl,rfl,rfl⟩
 | a::r,b::q,i+1,d,h=>zAJ r q i d h
 | [],_,i,d,h=>by cases i<;>cases h
 | a::r,[],i,d,h=>by cases i<;>cases h
theorem zAn:∀ (xs ys:List D),(iY xs ys).length=min xs.length ys.length
 | a::r,b::q=>by
  have:=zAn r q
  simp only [iY,List.length_cons,this]
  omega
 | [],_=>by simp [iY]
 | a::r,[]=>by simp [iY]
theorem zGf {K:PySem.W.Frag} {Hi:Hp} {k1 k2:Bool} {a1 a2:Addr} {xs ys:List V} {ds es:List D} (h1:SqK k1 K Hi a1 xs) (h2:IsDs K Hi xs ds) (h3:SqK k2 K Hi a2 ys) (h4:IsDs K Hi ys es):
  sI K Hi (Itz K k1 k2 a1 a2) (iY ds es):=fun Hi1 H1 s1 s2 i=>by
 have g1:=rG (s1.trans s2) h1
 have g3:=rG (s1.trans s2) h3
 refine ⟨fun hl=>⟨xs,ys,g1,g3,?_⟩,fun d hd=>?_⟩
 ·rw [zAn] at hl
  have e1:=h2.length
  have e2:=h4.length
  omega
 ·obtain ⟨a,b,ha,hb,rfl⟩:=zAJ ds es i d hd
  obtain ⟨v,hv,rv⟩:=h2.at ha
  obtain ⟨w,hw,rw_⟩:=h4.at hb
  refine ⟨⟨xs,ys,v,w,g1,g3,hv,hw⟩,fun x H2 y=>?_⟩
  obtain ⟨p,x',y',rfl,hp,rfl,y1,y2⟩:=y
  have e1:=y1 xs g1
  have e2:=y2 ys g3
  rw [hv] at e1;cases e1
  rw [hw] at e2;cases e2
  have hi:=s2.none hp
  have sm:=dA hi (.tup [v,w])
  exact ⟨upd Hi1 p (.tup [v,w]),Ext.new s2 hp,.tup (.inl (.inl aZ)) (.cons ((rv.mono s1).mono sm) (.cons ((rw_.mono s1).mono sm) .nil))⟩
theorem zOm {K:PySem.W.Frag} {H:Hp} {v:V} {d:D} {ds:List D} (h:IsD K H v d) (e:zGK d=some ds):∃ k a xs,v=.ref a/\SqK k K H a xs/\IsDs K H xs ds:=by
 cases d with
 | lst es=>cases e;obtain ⟨a,xs,rfl,h1,h2⟩:=h.lstI;exact ⟨true,a,xs,rfl,h1,h2⟩
 | tup es=>cases e;obtain ⟨a,xs,rfl,h1,h2⟩:=h.tupI;exact ⟨false,a,xs,rfl,h1,h2⟩
 | _=>cases e
theorem zDI {a b:Expr} {p pos:Pos} {elts:List Expr} {x1:Nat} {tp:Pos} (hg:Gl X "zip") (hm:X.mg "zip" = none) (ha:PAd X G [a,b] fs)
  (hs:starEach [a,b] X.env=[(false,eval a X.env),(false,eval b X.env)]:=by rfl) (hs2:starEach [b] X.env=[(false,eval b X.env)]:=by rfl):
  PId X G (.Tuple elts x1 tp) (.Call (.Name "zip" p) [a,b] [] pos) (zHf fs):=PI.wk (zLe hg hm ha hs hs2) fun σ H Q q=>by
 obtain ⟨ρ,Hi,R,ou⟩:=q
 refine zGM R ou fun vs ds Hi1 H1 e1 R1 r1 o1=>?_
 split at o1
 ·rename_i x y
  obtain ⟨v,w,rfl,h,h'⟩:=r1.two
  split at o1
  ·rename_i ds es q1 q2
   obtain ⟨k1,a1,xs,rfl,g1,g2⟩:=zOm h q1
   obtain ⟨k2,a2,ys,rfl,g3,g4⟩:=zOm h' q2
   exact ⟨k1,k2,a1,a2,xs,ys,rfl,rG R1.s g1,rG R1.s g3,o1.here R1.s _ (zGf g1 g2 g3 g4)⟩
  ·exact o1.elim
 ·exact o1.elim
end
end L3
namespace L3
open PySem PySem.Spec PyProof.Rows L2
unseal PEd PEf PTd PWd PAd PSd fG POd PGd jA PId PSx nJ PTs PCd PCf
structure BlkOk2 (X:Cx) (xs:List Str) (scope:Scope):Prop where
 kind:scope.kind=.function
 cell:∀ y∈scope.names,y.2≠.cell
 loc:∀ x∈xs,scope.names.lookup x=some .local
 names:∀ y∈scope.names,y.2=.local->scope.names.lookup y.1=some .local
 fre:∀ p∈scope.names,p.2=.free->X.env.kindOf p.1=some .cell∨X.env.kindOf p.1=some .free
 oth:∀ y∈X.N,scope.names.lookup y≠some .local
def zBo (X:Cx) (xs:List Str) (scope:Scope) (C:Addr) (s₂:Shared) (H₂:Hp) (fp:List Addr):Cx:=
  { prog:=X.prog,w:=X.w,K:=X.K,mg:=X.mg,base:=X.base,A:=X.A,N:=X.N++xs,s₀:=s₂,H₀:=H₂,env:=compEnvC scope (zBN X.env scope.names []) C X.env,outer:=X.stack,stack:=X.stack,
    ex:=fp,fn:=fun _=>false,calm:=X.calm,pn:=X.pn,xe:=fun _ _=>False }
section
variable {X:Cx} {pins:List (Addr×Obj)} {σ:St} {H:Hp} {s₂:Shared} {xs:List Str} {scope:Scope} {fp:List Addr} {D C:Addr} {h₁:Heap}
theorem BlkOk2.cl (B:BlkOk2 X xs scope) (I:Inv X pins σ H s₂):∀ p∈scope.names,p.2=.free->∃ c,X.env.cells.lookup p.1=some c:=fun p hp e=>I.ok.has p.1 (B.fre p hp e)
theorem zLa (I:Inv X pins σ H s₂) (B:BlkOk2 X xs scope) (hfp:∀ b∈fp,qR X pins H b) (hfl:∀ b∈fp,b < s₂.heap.objs.size) (hD:s₂.heap.objs.size<=D) (hC:s₂.heap.objs.size<=C) (hDC:D≠C)
  (old:∀ b o,s₂.heap.get? b=some o->h₁.get? b=some o) {n:Nat} (hacc:h₁.get? D=some { cls:=.type "list", data:=.seq ([]:List Value).toArray n }) {m:Str->Option Value} (hns:h₁.Ns C m) (t:Nat):
  Inv (zBo X xs scope C s₂ H fp) pins (σ++xs.map fun _=>none) (upd H D (.lst [])) { s₂ with heap:=h₁,toks:=t }:=by
 have sub:=sV scope.names [] (B.cl I) (fun y c e=>nomatch e)
 have old_lt:∀ {b:Addr} {o:Obj},s₂.heap.get? b=some o->b≠D/\b≠C:=fun e=>⟨Nat.ne_of_lt (Nat.lt_of_lt_of_le (Heap.lt_size e) hD),Nat.ne_of_lt (Nat.lt_of_lt_of_le (Heap.lt_size e) hC)⟩
 have free:∀ {b:Addr},b≠D->H b=none->upd H D (.lst []) b=none:=fun n e=>by rw [bC n];exact e
 refine ⟨⟨I.ok.mod,B.kind,I.ok.glob,I.ok.blt,hC,fun y z c e1 e2=>I.ok.inj y z c (sub y c e1) (sub z c e2),fun y hy=>?_,fun y c e=>(nomatch e),I.ok.hd,I.ok.frames,.inl rfl,fun b hb=>⟨Nat.ne_of_lt (Nat.lt_of_lt_of_le (hfl b hb) hC),fun y c e=>(hfp b hb).2.2.2.2.1 y c (sub y c e)⟩,
  I.bs,Nat.le_trans I.ok.bsz I.sz,fun b o e hb=>?_,fun b hb z=>?_,I.stack,I.stkFree⟩,rfl,I.bare,Un.laid old hD (I.hok.fresh hD),⟨m,hns,fun i y v e1 e2 e3=>?_⟩,fun y c e=>?_,free (Ne.symm hDC) (I.hok.fresh hC),fun y c e=>?_,fun p hp=>?_,I.hok.laid old hD ⟨Nat.zero_le _,[],n,.nil,hacc⟩,?_⟩
 ·have:∃ k,(k=NameKind.cell∨k=NameKind.free)/\((relabel scope X.env).names).lookup y=some k:=hy.elim (fun h=>⟨_,.inl rfl,h⟩) fun h=>⟨_,.inr rfl,h⟩
  obtain ⟨k,hk,e⟩:=this
  have e':(y,NameKind.free)∈scope.names:=by
   rcases cI e with z | ⟨_,z⟩
   ·rcases hk with rfl | rfl
    ·exact absurd rfl (B.cell _ (bR z))
    ·exact bR z
   ·exact bR z
  exact sZ scope.names [] y e'
 ·rcases (hfp b hb).2.2.2.1 with z | z
  ·exact I.ok.noex b o e z
  ·exact absurd (Nat.lt_of_lt_of_le (Heap.lt_size e) (Nat.le_trans I.ok.bsz z)) (Nat.lt_irrefl _)
 ·rcases List.mem_cons.mp (I.stkSub b z) with w | w
  ·exact (hfp b hb).2.1 w
  ·exact (hfp b hb).2.2.1 w
 ·
  have hi:i < σ.length:=by
   by_cases hi:i < σ.length
   ·exact hi
   ·exfalso
    rw [List.getElem?_append_right (by omega),List.getElem?_map] at e2
    cases q:xs[i - σ.length]? with
    | none=>rw [q] at e2;cases e2
    | some z=>rw [q] at e2;cases e2
  rw [List.getElem?_append_left hi] at e2
  have e1':(X.N++xs)[i]?=some y:=e1
  rw [List.getElem?_append_left (by rw [<-I.len];exact hi)] at e1'
  cases q:X.N[i]? with
  | none=>rw [q] at e1';cases e1'
  | some z=>
   rw [q] at e1'
   have hy:z=y:=Option.some.inj e1'
   have hz:z∈X.N:=List.mem_of_getElem? q
   subst hy
   have fr:(z,NameKind.free)∈scope.names:=by
    rcases e3 with h | h | h
    ·rcases cI h with h | ⟨h,_⟩
     ·exact absurd h (B.oth z hz)
     ·cases h
    ·rcases cI h with h | ⟨_,h⟩
     ·exact absurd rfl (B.cell _ (bR h))
     ·exact bR h
    ·rcases cI h with h | ⟨h,_⟩
     ·exact bR h
     ·cases h
   have kd:=B.fre _ fr rfl
   obtain ⟨m0,hn0,hl⟩:=I.loc
   obtain ⟨u,ru,lk⟩:=hl i z v q e2 (kd.elim (fun h=>.inr (.inl h)) fun h=>.inr (.inr h))
   refine ⟨u,ru,.inr ⟨?_,?_⟩⟩
   ·rcases e3 with h | h | h
    ·rcases cI h with h | ⟨h,_⟩
     ·exact absurd h (B.oth z hz)
     ·cases h
    ·exact .inl h
    ·exact .inr h
   ·rcases lk with ⟨k1,_⟩ | ⟨_,c,hc,hcell⟩
    ·rcases kd with kd | kd<;>(rw [kd] at k1;cases k1)
    ·obtain ⟨c',hc'⟩:=sZ (env:=X.env) scope.names [] z fr
     have:=sub z c' hc'
     rw [hc] at this
     cases this
     obtain ⟨o,ho,hd⟩:=hcell
     exact ⟨c,hc',o,old _ _ ho,hd⟩
 ·obtain ⟨v,o,ho,hd⟩:=I.cell y c (sub y c e)
  exact ⟨v,o,old _ _ ho,hd⟩
 ·obtain ⟨v,o,ho,hd⟩:=I.cell y c (sub y c e)
  exact free (old_lt ho).1 (I.freeC y c (sub y c e))
 ·obtain ⟨e,n,ne,nf,d⟩:=I.pin p hp
  refine ⟨old _ _ e,free (old_lt e).1 n,(old_lt e).2,fun z=>?_,d⟩
  rcases List.mem_cons.mp (I.stkSub _ z) with w | w
  ·exact ne w
  ·exact nf w
 ·show (σ++xs.map fun _=>none).length=(X.N++xs).length
  rw [List.length_append,List.length_append,List.length_map,I.len]
end
theorem zCo {f:Ev} {ρ:Rho} {d:D} {ds es:List D} (h:fH f ρ (d::ds)=.ok es):
  ∃ a b e es',d=.tup [a,b]/\f (ρ++[.val a,.val b])=.ok e/\fH f ρ ds=.ok es'/\es=e::es':=by
 unfold fH at h
 split at h
 ·cases ‹_=[]›
 ·rename_i a b ds' q
  cases q
  cases hf:noErr (f (ρ++[.val a,.val b])) with
  | no=>rw [hf] at h;cases h
  | err c=>rw [hf] at h;cases h
  | ok e=>
   rw [hf] at h
   cases hr:fH f ρ ds with
   | no=>simp only [Res.bind,hr] at h;cases h
   | err c=>simp only [Res.bind,hr] at h;cases h
   | ok es'=>
    simp only [Res.bind,hr] at h
    cases h
    exact ⟨a,b,e,es',rfl,xX hf,rfl,rfl⟩
 ·cases h
theorem zAG {f:Ev} {ρ:Rho} {c:Str}:∀ {ds:List D},fH f ρ ds≠.err c
 | []=>fun h=>by cases h
 | d::ds=>fun h=>by
  unfold fH at h
  split at h
  ·cases ‹_=[]›
  ·rename_i a b ds' q
   cases q
   cases hf:noErr (f (ρ++[.val a,.val b])) with
   | no=>rw [hf] at h;cases h
   | err c=>cases q:f (ρ++[.val a,.val b])<;>(rw [q] at hf;cases hf)
   | ok e=>
    rw [hf] at h
    cases hr:fH f ρ ds with
    | no=>simp only [Res.bind,hr] at h;cases h
    | err c'=>exact zAG hr
    | ok es'=>simp only [Res.bind,hr] at h;cases h
  ·cases h
section
variable {X:Cx} {G:Gx} {elt iter:Expr} {xa xb:Str} {pa pb tp pos:Pos} {x1:Nat} {scope:Scope} {it:Fv} {f:Ev} {k:Nat}
theorem zEd (hc:X.calm=true/\TB X.K X.mg G.Bi G.B) (hr:Room k X.A) (Bk:BlkOk2 X [xa,xb] scope) (hN:(X.N++[xa,xb]).Nodup) (hi:PId X G (.Tuple [.Name xa pa,.Name xb pb] x1 tp) iter it)
  (hb:∀ (C:Addr) (s₂:Shared) (H₂:Hp) (fp:List Addr) (G':Gx),Good (zBo X [xa,xb] scope C s₂ H₂ fp) G' k->PEd (zBo X [xa,xb] scope C s₂ H₂ fp) G' elt f)
  (hs:∀ x,foldedSetIterable iter X.env x=pure x:=by intro _;rfl)
  {pins:List (Addr×Obj)} {s:Shared} {σ:St} {H Hi:Hp} {ρ:Rho} {use:Option (Value->Sem Unit)} {Q':Value->Shared->Prop} {Qa:Addr->Hp->Prop} {cpos:Pos} (I:Inv X pins σ H s) (R:kL X G Hi H σ ρ)
  (ou:Out G Hi H ((qM it f) ρ) fun ds Hi' H'=>∀ a,zHk X.K H Hi' H' a ds->Qa a H') (hend:zOk X pins σ use Q' Qa):
  wpAny (model X.prog X.w) X.A (comprehension (.ListComp elt [⟨.Tuple [.Name xa pa,.Name xb pb] x1 tp,iter,[],0⟩] scope pos) scope X.env cpos (newList []) false (eval iter X.env) use) Q' X.xe s:=by
 refine wpAny_comprehension_free (use:=use) rfl hs (zIz (Bk.cl I)) Bk.kind Bk.names ?_
 refine thn (hi pins s σ H (fun J H2=>∃ ds Hi2,Ext Hi H Hi2 H2/\sI X.K Hi2 J ds/\Out G Hi2 H2 (if ds.length<=16777215 then fH f ρ ds else .no) fun ds Hi' H'=>∀ a,zHk X.K H Hi' H' a ds->Qa a H') I
  ⟨ρ,Hi,R,(Out.bind ou).imp fun ds Hi2 H2 e2 o2 J gv=>⟨ds,Hi2,e2,gv,o2⟩⟩) fun v s1 h1=>thn h1 fun itv s2 h2=>?_
 obtain ⟨itA,fp,tn,J,H2,rfl,I2,T,st2,f2,ds,Hi2,e2,gv,ou2⟩:=h2
 have hlen:ds.length<=16777215:=by
  by_cases hlen:ds.length<=16777215
  ·exact hlen
  ·rw [if_neg hlen] at ou2;exact ou2.elim
 rw [if_pos hlen] at ou2
 cases hes:fH f ρ ds with
 | no=>rw [hes] at ou2;exact ou2.elim
 | err c=>exact absurd hes zAG
 | ok es=>
  rw [hes] at ou2
  have R2:kL X G Hi2 H2 σ ρ:=R.grow e2
  refine wpAny_newObj_type (wpAny_newFunctionEnv Bk.cell (by intro y hy;simp at hy) (fun h₁ hns₁ hsb₁=>?_) Bk.kind)
  dsimp only at hns₁ hsb₁ ⊢
  generalize hH2:s2.heap.push { cls:=.type "list", dict:=none,data:=.seq ([]:List Value).toArray }=HP at hns₁ hsb₁ ⊢
  have hC:HP.objs.size=s2.heap.objs.size+1:=by rw [<-hH2,Heap.size_push]
  have hDC:s2.heap.objs.size≠HP.objs.size:=by rw [hC];omega
  have ltC:∀ {b:Addr} {o:Obj},s2.heap.get? b=some o->b≠HP.objs.size:=fun e=>by rw [hC];exact Nat.ne_of_lt (Nat.lt_succ_of_lt (Heap.lt_size e))
  have old:∀ b o,s2.heap.get? b=some o->h₁.get? b=some o:=fun b o e=>hsb₁.extBut b o (ltC e) (Heap.get?_push_of_some _ (hH2 ▸ Heap.get?_push_of_some _ e))
  have hacc:h₁.get? s2.heap.objs.size=some { cls:=.type "list", data:=.seq ([]:List Value).toArray 0 }:=hsb₁.extBut _ _ hDC (Heap.get?_push_of_some _ (hH2 ▸ Heap.get?_push_size _ rfl))
  have hfl:∀ b∈fp,b < s2.heap.objs.size:=fun b hb=>by obtain ⟨o,e,_⟩:=T.obj _ _ st2 b hb;exact Heap.lt_size e
  have IE:=zLa (t:=s2.toks+([]:List (Str×Value)).length) I2 Bk f2 hfl (Nat.le_refl _) (by rw [hC];omega) hDC old hacc hns₁
  have sub:=sV scope.names [] (Bk.cl I2) (fun y c e=>nomatch e)
  have H2D:H2 s2.heap.objs.size=none:=I2.hok.fresh (Nat.le_refl _)
  have HD:H s2.heap.objs.size=none:=e2.h.none H2D
  have Hi2D:Hi2 s2.heap.objs.size=none:=e2.s.none H2D
  generalize hX:zBo X [xa,xb] scope HP.objs.size s2 H2 fp=Y at IE
  have GY:Good Y ⟨G.B,G.Bi,fun _ _=>False⟩ k:=by
   subst hX
   exact ⟨hc.1,hr,fun pins σ H s e s' _ h=>by obtain ⟨_,_,_,_,_,c,_,z⟩:=h;exact z.elim,PassesOwn.never,hc.2⟩
  have hel:=(hX ▸ hb HP.objs.size s2 H2 fp ⟨G.B,G.Bi,fun _ _=>False⟩ (hX.symm ▸ GY):PEd Y ⟨G.B,G.Bi,fun _ _=>False⟩ elt f)
  have stat:∀ {H':Hp},(∀ b∈fp,H' b=none)->∀ b∈fp,qR Y pins H' b:=fun hn b hb=>by
   subst hX
   refine ⟨hn b hb,?_,fun z=>?_,.inl hb,fun y c e=>(f2 b hb).2.2.2.2.1 y c (sub y c e),(f2 b hb).2.2.2.2.2⟩
   ·show b≠HP.objs.size
    rw [hC];exact Nat.ne_of_lt (Nat.lt_succ_of_lt (hfl b hb))
   ·rcases List.mem_cons.mp (I2.stkSub b z) with w | w
    ·exact (f2 b hb).2.1 w
    ·exact (f2 b hb).2.2.1 w
  have YN:Y.N.Nodup:=by subst hX;exact hN
  have Ya:Y.N[σ.length]?=some xa:=by
   subst hX
   show (X.N++[xa,xb])[σ.length]?=some xa
   rw [List.getElem?_append_right (by rw [I2.len];omega),I2.len,Nat.sub_self]
   rfl
  have Yb:Y.N[σ.length+1]?=some xb:=by
   subst hX
   show (X.N++[xa,xb])[σ.length+1]?=some xb
   rw [List.getElem?_append_right (by rw [I2.len];omega),I2.len,Nat.add_sub_cancel_left]
   rfl
  have Yla:Y.env.scope.names.lookup xa=some .local:=by subst hX;exact lookup_relabel_local (Bk.loc xa (by simp))
  have Ylb:Y.env.scope.names.lookup xb=some .local:=by subst hX;exact lookup_relabel_local (Bk.loc xb (by simp))
  have asg:PG Y (.Tuple [.Name xa pa,.Name xb pb] x1 tp) (L2.zHp Y.K 2 (L2.rA (L2.gName σ.length) (L2.rA (L2.gName (σ.length+1)) L2.zHy))):=
   zIw (by subst hX;exact hc.1) (wJ (zBH YN Ya (.inl Yla) (.inr Yla)) (wJ (zBH YN Yb (.inl Ylb) (.inr Ylb)) zEz))
  have Ye:Y.env=compEnvC scope (zBN X.env scope.names []) HP.objs.size X.env:=by subst hX;rfl
  have Yxe:∀ e s,¬ Y.xe e s:=by subst hX;exact fun _ _ h=>h
  have tn1:tn 0 h₁:=T.keep _ _ _ st2 fun b _ o e=>old b o e
  have eP:∀ s3:Shared,s3={ s2 with heap:=h₁,toks:=s2.toks+([]:List (Str×Value)).length }->
    codeAny (model X.prog X.w) X.A (.compLoop (.ListComp elt [⟨.Tuple [.Name xa pa,.Name xb pb] x1 tp,iter,[],0⟩] scope pos) 0 (.ref itA) (.ref s2.heap.objs.size) Y.env) (compPost (model X.prog X.w) X.A X.xe use Q' (.ref s2.heap.objs.size) HP.objs.size) s3:=by
   rintro s3 rfl
   subst hX
   have fr0:∀ b∈fp,upd H2 s2.heap.objs.size (.lst []) b=none:=fun b hb=>by
    rw [bC (Nat.ne_of_lt (hfl b hb))]
    exact (f2 b hb).1
   refine PyProof.Rows.LCp.codeAny_compLoop_pair (fun n s'=>∃ c:CW,n=ds.length - c.i/\CS (zBo X [xa,xb] scope HP.objs.size s2 H2 fp) pins σ tn fp Hi2 H2 s2.heap.objs.size 2 (fun i=>fH f ρ (ds.drop i)) es c s') ?_ ds.length
    ⟨⟨0,[none,none],_,Hi2,[],[],es⟩,rfl,⟨IE,rfl,tn1,fr0,(Ext.refl e2.s).trans (Ext.newF e2.s H2D),aZ,Hi2D,.nil,Nat.le_refl _,hes,rfl⟩⟩
   ·rintro n s3 ⟨⟨i,vv,H3,Hi3,ys,done,rest⟩,rfl,I3,wd3,st3,fr3,e3,hD3,hiD3,rd3,hl3,hr3,hes3⟩
    dsimp only at I3 wd3 st3 fr3 e3 hD3 hiD3 rd3 hl3 hr3 hes3 ⊢
    obtain ⟨v,v',rfl⟩:∃ v v',vv=[v,v']:=by
     match vv,wd3 with
     | [v,v'],_=>exact ⟨v,v',rfl⟩
    obtain ⟨w1,w2⟩:=gv Hi3 H3 e3.i e3.s i
    have lift:∀ {α:Type} {m:Sem α} {Q':α->Shared->Prop} {E:Value->Shared->Prop} {s':Shared},wpAny (model X.prog X.w) X.A m Q' (zBo X [xa,xb] scope HP.objs.size s2 H2 fp).xe s'->wpAny (model X.prog X.w) X.A m Q' E s':=fun h=>wpAny_mono h (fun _ _ z=>z) fun e s z=>(Yxe e s z).elim
    by_cases hlt:i < ds.length
    ·obtain ⟨d,hd⟩:∃ d,ds[i]?=some d:=⟨_,List.getElem?_eq_getElem hlt⟩
     obtain ⟨go,yl⟩:=w2 d hd
     have e4:ds.drop i=d::ds.drop (i+1):=by
      rw [List.getElem?_eq_getElem hlt] at hd
      cases hd
      exact List.drop_eq_getElem_cons hlt
     rw [e4] at hr3
     refine thn (T.item (zBo X [xa,xb] scope HP.objs.size s2 H2 fp) rfl rfl rfl hc.1 i pins s3 _ H3 _ I3 (stat fr3) st3 go) fun r s4 ⟨u,hru,h4⟩=>?_
     subst hru
     refine thn h4 fun _ s5 h5=>?_
     obtain ⟨xv,H5,I5,r5,y5,st5,fr5⟩:=h5
     obtain ⟨Hi5,e5,rd5⟩:=yl xv H5 y5
     have I5':=I5.pinned (stat fr5) (T.obj _ _ st5)
     obtain ⟨a,b,e,es',rfl,hf,hr4,hee⟩:=zCo hr3
     obtain ⟨pa',ps,rfl,hq,hps⟩:=rd5.tupI
     obtain ⟨va,vb,rfl,ra,rb⟩:=hps.two
     refine lift (thn (asg _ s5 _ H5 _ u (fun σ' H'=>σ'=σ++[some va,some vb]/\H'=H5) I5' r5 ⟨pa',_,rfl,bX (e3.trans e5).s hq,rfl,va,_,rfl,vb,_,rfl,rfl,?_,rfl⟩) fun _ s6 h6=>?_)
     ·rw [List.set_append_right _ _ (Nat.le_refl _),Nat.sub_self,List.set_append_right _ _ (Nat.le_succ _),Nat.succ_sub (Nat.le_refl _),Nat.sub_self];rfl
     obtain ⟨σ6,H6,I6,rfl,rfl⟩:=h6
     have E5:Ext Hi2 H2 Hi5 H6:=e3.trans e5
     have R5:kL (zBo X [xa,xb] scope HP.objs.size s2 H2 fp) ⟨G.B,G.Bi,fun _ _=>False⟩ Hi5 H6 (σ++[some va,some vb]) (ρ++[.val a,.val b]):=by
      have:=Rel.snoc (Rel.snoc (R2.grow E5) ra) rb
      rw [List.append_assoc,List.append_assoc] at this
      exact this
     obtain ⟨hD5,hiD5⟩:=e5.out hD3 hiD3
     have rd5':=rd3.mono e5.i
     have again:∀ {H8 Hi8:Hp} {ys':List V} {done' rest':List D} {s8:Shared},Inv (zBo X [xa,xb] scope HP.objs.size s2 H2 fp) (pins++sH fp s5.heap) (σ++[some va,some vb]) H8 s8->Ext Hi2 H2 Hi8 H8->H8 s2.heap.objs.size=some (.lst ys')->Hi8 s2.heap.objs.size=none->IsDs X.K Hi8 ys' done'->done'.length<=i+1->
       fH f ρ (ds.drop (i+1))=.ok rest'->es=done'++rest'->∃ m,m < ds.length - i/\∃ c:CW,m=ds.length - c.i/\CS (zBo X [xa,xb] scope HP.objs.size s2 H2 fp) pins σ tn fp Hi2 H2 s2.heap.objs.size 2 (fun i=>fH f ρ (ds.drop i)) es c s8:=fun {H8 Hi8 ys' done' rest' s8} I8 E8 a1 a2 a3 a4 a5 a6=>by
      refine ⟨ds.length - (i+1),by omega,⟨i+1,[some va,some vb],H8,Hi8,ys',done',rest'⟩,rfl,⟨I8.unpinned,rfl,T.keep _ _ _ st5 fun b hb o e=>(I8.pin (b,o) (List.mem_append_right _ (List.mem_append_right _ (eO hb e)))).1,fun b hb=>?_,E8,a1,a2,a3,a4,a5,a6⟩⟩
      obtain ⟨o,e,_⟩:=T.obj _ _ st5 b hb
      exact (I8.pin (b,o) (List.mem_append_right _ (List.mem_append_right _ (eO hb e)))).2.1
     refine lift (thn (hel _ s6 _ H6 (fun w H'=>∃ Hi',Ext Hi5 H6 Hi' H'/\IsD X.K Hi' w e) I6 ⟨_,Hi5,R5,by rw [hf];exact fun Hi' H' ee w hw=>⟨Hi',ee,hw⟩⟩) fun u8 s8 h8=>?_)
     obtain ⟨w8,H8,I8,r8,Hi8,e8,rw8⟩:=h8
     obtain ⟨hD8,hiD8⟩:=e8.out hD5 hiD5
     have rdy:IsDs X.K Hi8 ys done:=rd5'.mono e8.i
     refine lift (thn (sC (X:=(zBo X [xa,xb] scope HP.objs.size s2 H2 fp)) _ s8 _ H8 (.ref s2.heap.objs.size) [w8] (.ref s2.heap.objs.size) [u8] (fun _ H'=>H'=upd H8 s2.heap.objs.size (.lst (ys++[w8]))) I8 rfl (.cons r8 .nil) ⟨_,ys,w8,rfl,rfl,hD8,?_,rfl⟩) fun _ s9 h9=>?_)
     ·rw [rdy.length]
      exact Nat.lt_of_le_of_lt hl3 (Nat.lt_of_lt_of_le hlt (Nat.le_trans hlen (by decide)))
     ·obtain ⟨_,H9,I9,_,rfl⟩:=h9
      refine again I9 (Ext.rewrite (E5.trans e8) H2D hiD8 ⟨_,hD8⟩) aZ hiD8 (rdy.snoc rw8) (by rw [List.length_append];exact Nat.succ_le_succ hl3) hr4 ?_
      rw [hes3,hee,List.append_assoc];rfl
    ·rw [List.drop_eq_nil_of_le (by omega),fH] at hr3
     cases hr3
     refine thn (T.done (zBo X [xa,xb] scope HP.objs.size s2 H2 fp) rfl rfl rfl hc.1 i pins s3 _ H3 _ I3 (stat fr3) st3 (w1 (by omega))) fun r s4 ⟨hrn,I4⟩=>?_
     subst hrn
     obtain ⟨m4,hn4,_⟩:=I4.loc
     have fC:H3 HP.objs.size=none:=I4.free
     have nC:∀ b u,H3 b=some u->b≠HP.objs.size:=fun b u e z=>by rw [z,fC] at e;cases e
     have U4:=I4.base
     refine hend HP.objs.size s2.heap.objs.size m4 s4 H3 hn4 (fun h' hs'=>?_) (I2.fpOk (by rw [hC];omega) fC) ?_
     ·have kp:∀ b o,b≠HP.objs.size->s4.heap.get? b=some o->h'.get? b=some o:=fun b o hb e=>hs'.extBut b o hb e
      refine Inv.call' I2 (ch:=fp) I4.os ⟨fun b o e n hb hx=>kp b o (ltC e) (U4.keep b o e n hb hx),fun b o e n hb hx=>?_,U4.free,fun b o e hx=>?_,U4.tups,U4.frzs,U4.tbls⟩ (fun b u e=>?_) I4.bare (fun b hb=>⟨(f2 b hb).2.2.2.1,(f2 b hb).2.1,(f2 b hb).2.2.2.2.1,(f2 b hb).2.2.2.2.2⟩)
      ·obtain ⟨sl,q⟩:=U4.slot b o e n hb hx
       exact ⟨sl,kp b _ (ltC e) q⟩
      ·obtain ⟨o',q⟩:=U4.there b o e hx
       exact ⟨o',kp b _ (ltC e) q⟩
      ·refine (I4.hok b u e).stay (fun c v hc q=>kp c v ?_ q) (fun _ q=>q) fun _ _ q=>q
       rcases hc with z | z
       ·rw [z];exact nC b u e
       ·exact nC c _ z
     ·refine ou2 Hi3 H3 e3 _ ⟨HD,hiD3,ys,hD3,?_⟩
      rw [hes3,List.append_nil]
      exact rd3
  rw [Ye] at eP
  exact codeAny_compStart_list (eP _ rfl) (T.self _ 0 _ _ _ tn1 (eP _ rfl))
theorem zGT (hc:X.calm=true/\TB X.K X.mg G.Bi G.B) (hr:Room k X.A) (Bk:BlkOk2 X [xa,xb] scope) (hN:(X.N++[xa,xb]).Nodup) (hi:PId X G (.Tuple [.Name xa pa,.Name xb pb] x1 tp) iter it)
  (hb:∀ (C:Addr) (s₂:Shared) (H₂:Hp) (fp:List Addr) (G':Gx),Good (zBo X [xa,xb] scope C s₂ H₂ fp) G' k->PEd (zBo X [xa,xb] scope C s₂ H₂ fp) G' elt f)
  (hs:∀ x,foldedSetIterable iter X.env x=pure x:=by intro _;rfl):PEf X G (.ListComp elt [⟨.Tuple [.Name xa pa,.Name xb pb] x1 tp,iter,[],0⟩] scope pos) (qM it f):=by
 intro pins s σ H Q I w
 obtain ⟨ρ,Hi,R,ou⟩:=w
 rw [eval_ListComp]
 refine zEd hc hr Bk hN hi hb hs (use:=none) (Qa:=fun a H'=>Q (.ref a) H') I R ou fun C A m s4 H3 hn hI _ q=>?_
 exact ⟨m,hn,fun h' hs'=>⟨.ref A,H3,hI h' hs',rfl,q⟩⟩
def zKB (sc:Scope) (N:List Str) (xs:List Str) (scope:Scope):Bool:=
 scope.names.all (fun y=>y.2 != .cell) && xs.all (fun x=>scope.names.lookup x==some .local) && scope.names.all (fun y=>y.2 != .local || scope.names.lookup y.1==some .local)
  && scope.names.all (fun p=>p.2 != .free || (sc.names.lookup p.1==some .cell || sc.names.lookup p.1==some .free)) && N.all (fun y=>scope.names.lookup y != some .local)
theorem zKz {sc:Scope} {N xs:List Str} (hk:scope.kind=.function) (hsc:X.env.scope=sc) (hN:X.N=N) (h:zKB sc N xs scope=true):BlkOk2 X xs scope:=by
 unfold zKB at h
 simp only [Bool.and_eq_true] at h
 obtain ⟨⟨⟨⟨h1,h2⟩,h3⟩,h4⟩,h5⟩:=h
 subst hN hsc
 refine ⟨hk,fun y hy e=>?_,fun x hx=>?_,fun y hy e=>?_,fun p hp e=>?_,fun y hy e=>?_⟩
 ·have:=List.all_eq_true.mp h1 y hy
  rw [e] at this;cases this
 ·exact beq_iff_eq.mp (List.all_eq_true.mp h2 x hx)
 ·have:=List.all_eq_true.mp h3 y hy
  rw [e] at this
  simpa using this
 ·have:=List.all_eq_true.mp h4 p hp
  rw [e] at this
  have q:X.env.scope.names.lookup p.1=some .cell∨X.env.scope.names.lookup p.1=some .free:=by simpa using this
  exact q
 ·have:=List.all_eq_true.mp h5 y hy
  rw [e] at this
  cases this
theorem oK {sc:Scope} {N:List Str} (W:Good X G k) (hnd:(N++[xa,xb]).Nodup) (hk:scope.kind=.function) (hsc:X.env.scope=sc) (hN:X.N=N) (h:zKB sc N [xa,xb] scope=true) (hi:PId X G (.Tuple [.Name xa pa,.Name xb pb] x1 tp) iter it)
  (hb:∀ (C:Addr) (s₂:Shared) (H₂:Hp) (fp:List Addr) (G':Gx),Good (zBo X [xa,xb] scope C s₂ H₂ fp) G' k->PEd (zBo X [xa,xb] scope C s₂ H₂ fp) G' elt f)
  (hs:∀ x,foldedSetIterable iter X.env x=pure x:=by intro _;rfl):PEf X G (.ListComp elt [⟨.Tuple [.Name xa pa,.Name xb pb] x1 tp,iter,[],0⟩] scope pos) (qM it f):=
 zGT ⟨W.calm,W.tb⟩ W.room (zKz hk hsc hN h) (hN ▸ hnd) hi hb hs
end
end L3
namespace L3
open PySem PySem.Spec PyProof.Rows L2
section
variable {prog:Program} {w:World} {A:Around} {E:Value->Shared->Prop} {s:Shared}
end
section
variable {X:Cx} {G:Gx} {fs:Fv} {f:Ev}
unseal PEd PEf PTd PWd PAd PSd fG POd PGd jA PId PSx nJ PTs PCd PCf
end
end L3
namespace L3
open PySem PySem.Spec PyProof.Rows L2
unseal PEd PEf PTd PWd PAd PSd fG POd PGd jA PId PSx nJ PTs PCd PCf
section
variable {X:Cx} {G:Gx} {f:Ev} {pos:Pos}
section
variable {o:Expr} {k:Nat} {b:Bool} {p1 p2 p3:Pos}
end
section
variable {i fo:Nat} {x y:Str} {ea eb ec ct o0 o1:Expr} {body rest:List Stmt} {a b:Fv} {cmp:Tv} {sr:Sv} {p1 p2 p3 p4 p5 p6 p7 p8 p9 p10 p11 p12 p13 p14 p15 p16:Pos} {k5 k0 k1:Nat}
end
section
variable {i j1 j2 j3:Nat} {x:Str} {tg ec c1 c2 c3 esl ev o:Expr} {b2 b3:List Stmt} {t1 t2 t3:Tv} {sl:Fv} {g:Ev} {p1 p2 p3 p4 p5 p6 p7 p8 p9:Pos}
end
end
end L3
namespace L3
open PySem PySem.Spec PyProof.Rows L2
unseal PEd PEf PTd PWd PAd PSd fG POd PGd jA PId PSx nJ PTs PCd PCf
section
variable {prog:Program} {w:World} {A:Around} {E:Value->Shared->Prop} {s:Shared}
theorem yI {r:Addr} {a b c:Int} {t u v:Tok} {n:Nat} {R:List Value->Shared->Prop} (hh:A.handled=none) (hr:IsRange s.heap r a b c t u v) (hsmall:Builtin.Range.small a b c=true) (hn:Builtin.Range.rangeSize a b c=n) (hlen:n<=2^24)
  (h:∀ h' tk acc,(∀ b o,s.heap.get? b=some o->h'.get? b=some o)->s.heap.objs.size<=h'.objs.size->ItemsOf (fun i v=>∃ t,v=.int (a+i * c) t) acc n->R acc.toList { s with heap:=h',toks:=tk }):
  wpAny (model prog w) A (collect (.ref r)) R E s:=by
 unfold collect
 refine wpAny_bind (wpAny_runValue (codeAny_builtin entry_proto_collect' ?_))
 rw [Around.under_plainId PySem.F.plain_proto_collect _]
 show wpAny _ A.in1 (newList [] >>= fun l=>again (.builtin "list.__iadd__" ⟨[l,.ref r],[]⟩)) _ _ s
 refine wpAny_bind (wpAny_newObj_type ?_)
 refine wpAny_pure ⟨plainId_quiet PySem.F.plain_list_iadd _,codeAny_builtin entry_list_iadd' ?_⟩
 rw [Around.under_plainId PySem.F.plain_list_iadd _]
 have hS₁:(s.heap.push { cls:=.type "list", data:=.seq ([]:List Value).toArray }).get? s.heap.objs.size=some { cls:=.type "list", data:=.seq #[] }:=Heap.get?_push_size _ rfl
 show wpAny _ A.in1 (Builtin.List.listExtendWith (.ref s.heap.objs.size) (.ref r) (.ref s.heap.objs.size)) _ _ _
 have key:=wpAny_extend_range (prog:=prog) (w:=w) (A:=A) (s:={ s with heap:=s.heap.push { cls:=.type "list", data:=.seq ([]:List Value).toArray } })
  (R:=fun (q:Result) (s':Shared)=>∃ (h':Heap) (tk:Nat) (acc':Array Value) (c':Nat),q=.ok (.ret (.ref s.heap.objs.size))/\s'={ s with heap:=h',toks:=tk }/\
   (∀ b o,s.heap.get? b=some o->h'.get? b=some o)/\h'.get? s.heap.objs.size=some { cls:=.type "list", dict:=none,data:=.seq acc' c',slots:=#[] }/\ItemsOf (fun i v=>∃ t,v=.int (a+i * c) t) acc' n)
  hh (Heap.get?_push_of_some _ hr) hsmall hn hlen s.heap.objs.size (.ref s.heap.objs.size) 0 hS₁
  (fun h' tk acc' c' hk hS' hacc=>⟨h',tk,acc',c',rfl,rfl,fun b o e=>hk b o (Nat.ne_of_lt (Heap.lt_size e)) (Heap.get?_push_of_some _ e),hS',hacc⟩)
 refine wpAny_mono key (fun fin s' x=>?_) fun e s' x=>?_
 ·cases fin with
  | done f=>
   obtain ⟨h',tk,acc',c',e,rfl,hk,hS',hacc⟩:=x
   cases e
   show wpAny _ A (load s.heap.objs.size >>= _) _ _ _
   refine wpAny_bind (wpAny_load hS' ?_)
   exact wpAny_pure (h h' tk acc' hk (Nat.le_of_lt (Heap.lt_size hS')) hacc)
  | again c₁=>
   refine ⟨x.1,codeAny_mono x.2 fun q s₂ y=>?_⟩
   obtain ⟨h',tk,acc',c',rfl,rfl,hk,hS',hacc⟩:=y
   show wpAny _ A (load s.heap.objs.size >>= _) _ _ _
   refine wpAny_bind (wpAny_load hS' ?_)
   exact wpAny_pure (h h' tk acc' hk (Nat.le_of_lt (Heap.lt_size hS')) hacc)
 ·obtain ⟨_,_,_,_,e',_⟩:=x
  cases e'
end
section
variable {X:Cx} {pins:List (Addr×Obj)} {σ:St} {H:Hp} {s:Shared} {A:Around} {E:Value->Shared->Prop} {a kS:Addr} {vs:List Value} {kz:List Int} {keys:Array Value} {e e1:Nat} {P:PySem.Fin->Shared->Prop}
theorem oR {h':Heap} {tk:Nat} (f:qR X pins H a) (I:Inv X pins σ H s) (sb:Heap.SameBut a s.heap h'):Inv X pins σ H { s with heap:=h',toks:=tk }:=by
 obtain ⟨f0,f1,f2,f3,f4,f5⟩:=f
 exact I.turned (fun b o hb e=>(sb.2 b hb).trans e) f0 f1 f3 f4 f5
theorem zEm {st:SortSt} (I:Inv X pins σ H s) (fa:qR X pins H a) (fk:qR X pins H kS) (hka:kS≠a) (nk:s.heap.get? kS=some (seqObj "list" keys e)) (na:s.heap.get? a=some (seqObj "list" #[] e1))
  (hk:IntsAre keys.toList kz) (hlen:kz.length=vs.length) (h64:vs.length < 64) (hp:(arrOf st).Perm (keys.zip vs.toArray)) (hs:SortedTo (arrOf st) (arrOf st).size) (hfl:failedOf st=none)
  (h:∀ s' out c,Inv X pins σ H s'->s'.heap.get? a=some (seqObj "list" out c)->KskOut false kz vs out.toList->P (.done (.ret .none)) s'):
  wpAny (model X.prog X.w) A (ksk_tail a false e1 (.ref kS) st) P E s:=by
 have hsz:keys.size=vs.length:=by
  have h1:=hk.length
  rw [Array.length_toList] at h1
  omega
 have hsz2:(arrOf st).size=vs.length:=by rw [hp.size_eq,Array.size_zip,hsz,List.size_toArray,Nat.min_self]
 have hout:((arrOf st).map (·.2)).size=vs.length:=by rw [Array.size_map];exact hsz2
 have s1:=Heap.SameBut.update s.heap kS (Obj.mapSeq fun _=>(#[]:Array Value))
 have na1:(s.heap.update kS (Obj.mapSeq fun _=>(#[]:Array Value))).get? a=some (seqObj "list" #[] e1):=(s1.2 a hka.symm).trans na
 have s2:=Heap.SameBut.update (s.heap.update kS (Obj.mapSeq fun _=>(#[]:Array Value))) a (Obj.mapSeq fun _=>(arrOf st).map (·.2))
 obtain ⟨c2,hc2⟩:∃ c2,((s.heap.update kS (Obj.mapSeq fun _=>(#[]:Array Value))).update a (Obj.mapSeq fun _=>(arrOf st).map (·.2))).get? a=some (seqObj "list" ((arrOf st).map (·.2)) c2):=
  ⟨_,get?_update_seq na1 fun _=>(arrOf st).map (·.2)⟩
 unfold ksk_tail
 try dsimp only
 refine wpAny_bind (listUpdate_at nk rfl ?_ (by rw [hsz,sizeLine_eq];omega) (Nat.zero_le _))
 refine wpAny_bind (wpAny_letGo ?_)
 refine wpAny_bind (seqEpoch_at na1 rfl ?_)
 refine wpAny_bind (listUpdate_at na1 rfl ?_ (Nat.zero_le _) (by simp only [Bool.false_eq_true,if_false];exact Nat.le_trans (Nat.le_of_eq hout) (by rw [sizeLine_eq];omega)))
 rw [hfl]
 simp only [bne_self_eq_false,Bool.false_eq_true,if_false]
 have I1:Inv X pins σ H { s with heap:=s.heap.update kS (Obj.mapSeq fun _=>(#[]:Array Value)) }:=oR fk (tk:=s.toks) I s1
 have I2:Inv X pins σ H { s with heap:=(s.heap.update kS (Obj.mapSeq fun _=>(#[]:Array Value))).update a (Obj.mapSeq fun _=>(arrOf st).map (·.2)) }:=(by have z:=oR (tk:=s.toks) fa I1 s2;exact z)
 exact wpAny_pure (h _ _ c2 I2 hc2 (ksk_out (b:=false) hk hp hs))
theorem zLW (I:Inv X pins σ H s) (fa:qR X pins H a) (fk:qR X pins H kS) (hka:kS≠a) (nk:s.heap.get? kS=some (seqObj "list" keys e)) (na:s.heap.get? a=some (seqObj "list" #[] e1))
  (hk:IntsAre keys.toList kz) (hlen:kz.length=vs.length) (h64:vs.length < 64)
  (h:∀ s' out c,Inv X pins σ H s'->s'.heap.get? a=some (seqObj "list" out c)->KskOut false kz vs out.toList->P (.done (.ret .none)) s'):
  wpAny (model X.prog X.w) A (ksk_end a false vs.toArray e1 (.ref kS) keys) P E s:=by
 have hsz:keys.size=vs.length:=by
  have h1:=hk.length
  rw [Array.length_toList] at h1
  omega
 have hzs:(keys.zip vs.toArray).size=vs.length:=by rw [Array.size_zip,hsz,List.size_toArray,Nat.min_self]
 unfold ksk_end
 try dsimp only
 simp only [Bool.false_eq_true,if_false]
 by_cases h2:vs.toArray.size < 2
 ·rw [if_pos h2,if_pos h2]
  refine wpAny_bind (wpAny_pure ?_)
  rw [StateT.run_pure]
  refine wpAny_bind (wpAny_pure ?_)
  try dsimp only
  refine zEm (st:=SortSt.mk' general' (keys.zip vs.toArray) #[] 7 none) I fa fk hka nk na hk hlen h64 (Array.Perm.refl _) ?_ rfl h
  intro i j hij hj
  have hj2:j < (keys.zip vs.toArray).size:=hj
  rw [hzs] at hj2
  rw [List.size_toArray] at h2
  have:i=j:=by omega
  subst this
  exact Int.le_refl _
 ·rw [if_neg h2,if_neg h2]
  rw [List.size_toArray] at h2
  rw [ksk_kind hk (by rw [hsz];omega)]
  refine wpAny_bind (wpAny_pure ?_)
  refine wpAny_bind (wpAny_mono (wpS_sortRuns (a₀:=keys.zip vs.toArray) (st:=SortSt.mk' oneType' (keys.zip vs.toArray) #[] 7 none)
   (Q:=fun _ st'=>(arrOf st').Perm (keys.zip vs.toArray)/\failedOf st'=none/\SortedTo (arrOf st') (keys.zip vs.toArray).size)
   (ksk_intKeys hk) ⟨Array.Perm.refl _,rfl,rfl,rfl⟩ (by rw [hzs];omega) (by rw [hzs];exact h64) fun st' a1 a2 a3=>⟨a1,a2,a3⟩) ?_ fun _ _ e=>e)
  rintro ⟨⟨⟩,st'⟩ s' ⟨rfl,hp,hf,hs⟩
  try dsimp only
  exact zEm I fa fk hka nk na hk hlen h64 hp (by rw [hp.size_eq];exact hs) hf h
theorem zKm {f:Value} {e0:Nat} (I:Inv X pins σ H s) (fa:qR X pins H a) (fk:qR X pins H kS) (hka:kS≠a) (nk:s.heap.get? kS=some (seqObj "list" #[] e0)) (na:s.heap.get? a=some (seqObj "list" #[] e1))
  (hlen:kz.length=vs.length) (h64:vs.length < 64)
  (turn:∀ (i:Nat) (v:Value) (k:Int),vs[i]?=some v->kz[i]?=some k->∀ (s':Shared) (pl:List (Addr×Obj)),Inv X (pins++pl) σ H s'->
   wpAny (model X.prog X.w) A (call f [v]) (fun u s''=>(∃ t,u=.int k t)/\Inv X (pins++pl) σ H s'') (fun _ _=>False) s')
  (h:∀ s' out c,Inv X pins σ H s'->s'.heap.get? a=some (seqObj "list" out c)->KskOut false kz vs out.toList->P (.done (.ret .none)) s'):
  wpAny (model X.prog X.w) A (ksk_rest a f false vs.toArray e1 (.ref kS)) P E s:=by
 unfold ksk_rest
 refine wpAny_bind (wpAny_rule ?_)
 first
  | rw [List.forIn_toArray]
  | (rw [<-Array.forIn_toList];simp only [List.toList_toArray])
  | rw [<-Array.forIn_toList]
 refine wpAny_bind (ksk_fold (fun i s'=>∃ kA e,Inv X pins σ H s'/\s'.heap.get? kS=some (seqObj "list" kA e)/\s'.heap.get? a=some (seqObj "list" #[] e1)/\IntsAre kA.toList (kz.take i)) vs 0 s
  ⟨#[],e0,I,nk,na,by simpa using IntsAre.nil⟩ ?step ?done)
 case step=>
  rintro j x s' hx ⟨kA,e,I',nk',na',hk⟩
  simp only [Nat.zero_add] at hk ⊢
  have hj:j < vs.length:=(List.getElem?_eq_some_iff.mp hx).1
  obtain ⟨k,hkj⟩:∃ k,kz[j]?=some k:=⟨_,List.getElem?_eq_getElem (by omega)⟩
  have hz:kA.size<=vs.length:=by
   have h1:=hk.length
   rw [Array.length_toList,List.length_take] at h1
   omega
  have pin:∀ b∈[kS,a],∃ o,s'.heap.get? b=some o/\∀ v,o.data≠.cell v:=fun b hb=>by
   rcases List.mem_cons.mp hb with rfl | hb
   ·exact ⟨_,nk',fun v z=>by have z':Data.seq _ _=Data.cell v:=z;cases z'⟩
   ·rw [List.mem_singleton.mp hb];exact ⟨_,na',fun v z=>by have z':Data.seq _ _=Data.cell v:=z;cases z'⟩
  have Ip:Inv X (pins++sH [kS,a] s'.heap) σ H s':=I'.pinned (fun b hb=>by
   rcases List.mem_cons.mp hb with rfl | hb
   ·exact fk
   ·rw [List.mem_singleton.mp hb];exact fa) pin
  refine wpAny_bind (wpAny_attempt (wpAny_mono (turn j x k hx hkj s' _ Ip) (fun v s'' he=>?_) fun _ _ hF=>hF.elim))
  obtain ⟨⟨t2,rfl⟩,I2p⟩:=he
  try dsimp only
  have nk2:s''.heap.get? kS=some (seqObj "list" kA e):=(I2p.pin _ (List.mem_append_right _ (List.mem_append_right _ (eO (b:=kS) (by simp) nk')))).1
  have na2:s''.heap.get? a=some (seqObj "list" #[] e1):=(I2p.pin _ (List.mem_append_right _ (List.mem_append_right _ (eO (b:=a) (by simp) na')))).1
  have I2:Inv X pins σ H s'':=I2p.unpinned
  have s1:=Heap.SameBut.update s''.heap kS (Obj.mapSeq (·.push (.int k t2)))
  obtain ⟨c2,hc2⟩:∃ c2,(s''.heap.update kS (Obj.mapSeq (·.push (.int k t2)))).get? kS=some (seqObj "list" (kA.push (.int k t2)) c2):=⟨_,get?_update_seq nk2 (·.push (.int k t2))⟩
  have ek:kz.take (j+1)=kz.take j++[k]:=by rw [List.take_add_one,hkj];simp
  have ea:(kA.push (Value.int k t2)).toList=kA.toList++[Value.int k t2]:=by simp
  refine wpAny_bind (listUpdate_at nk2 rfl ?_ (by rw [sizeLine_eq];omega) (Nat.le_trans (Nat.le_of_eq (Array.size_push ..)) (by rw [sizeLine_eq];omega)))
  exact wpAny_pure ⟨rfl,kA.push (.int k t2),c2,oR fk (tk:=s''.toks) I2 s1,hc2,(s1.2 a hka.symm).trans na2,by rw [ea,ek];exact ksk_snoc hk⟩
 case done=>
  rintro s' ⟨kA,e,I',nk',na',hk⟩
  have hk':IntsAre kA.toList kz:=by
   have e3:kz.take (0+vs.length)=kz:=List.take_of_length_le (by omega)
   rw [e3] at hk
   exact hk
  try dsimp only
  refine wpAny_bind (listItems_at nk' rfl ?_)
  exact zLW I' fa fk hka nk' na' hk' hlen h64 h
def rT (v:Value):Nat:=(numOf v).toNat
theorem zJk {out:List Value} (hlen:kz.length=vs.length) (hv:∀ (j:Nat) (v:Value),vs[j]?=some v->∃ t,v=.int j t) (h:KskOut false kz vs out):gA kz (out.map rT)/\dE ((out.map rT).map fun i:Nat=>V.int (i:Int)) out:=by
 obtain ⟨ps,hp,ho,hs⟩:=h
 have at':∀ p,p∈kz.zip vs->∃ (j:Nat) (t:Tok),p.2=.int j t/\kz[j]?=some p.1:=fun p hm=>by
  obtain ⟨j,hj,e⟩:=List.mem_iff_getElem.mp hm
  rw [List.length_zip] at hj
  rw [List.getElem_zip] at e
  obtain ⟨t,ht⟩:=hv j (vs[j]'(by omega)) (List.getElem?_eq_getElem _)
  refine ⟨j,t,by rw [<-e];exact ht,by rw [<-e];exact List.getElem?_eq_getElem _⟩
 have n1:∀ (j:Nat) (t:Tok),rT (.int j t)=j:=fun j t=>by unfold rT;show (Int.toNat (j:Int))=j;rfl
 have hvs:vs.map rT=List.range kz.length:=by
  refine List.ext_getElem? fun j=>?_
  rw [List.getElem?_map]
  by_cases hj:j < vs.length
  ·obtain ⟨t,ht⟩:=hv j _ (List.getElem?_eq_getElem hj)
   rw [List.getElem?_eq_getElem hj,ht,List.getElem?_range (by omega)]
   show some (rT _)=_
   rw [n1]
  ·rw [List.getElem?_eq_none (by omega),List.getElem?_eq_none (by rw [List.length_range];omega)];rfl
 subst ho
 refine ⟨⟨?_,?_⟩,?_⟩
 ·have h1:((ps.map Prod.snd).map rT).Perm (((kz.zip vs).map Prod.snd).map rT):=(hp.map _).map _
  rw [List.map_snd_zip (by omega),hvs] at h1
  exact h1
 ·rw [List.map_map,List.pairwise_map]
  refine List.Pairwise.imp_of_mem (fun {p q} hm hq hr=>?_) hs
  have hr':p.1<=q.1:=by simpa using hr
  obtain ⟨i,t,e1,e2⟩:=at' p (hp.mem_iff.mp hm)
  obtain ⟨j,u,e3,e4⟩:=at' q (hp.mem_iff.mp hq)
  show kz.getD (rT p.2) 0<=kz.getD (rT q.2) 0
  rw [e1,e3,n1,n1,List.getD_eq_getElem?_getD,List.getD_eq_getElem?_getD,e2,e4]
  exact hr'
 ·have go:∀ l:List Value,(∀ v∈l,∃ (j:Nat) (t:Tok),v=.int j t)->dE ((l.map rT).map fun i:Nat=>V.int (i:Int)) l:=by
   intro l
   induction l with
   | nil=>intro _;exact .nil
   | cons v r ih=>
    intro hl
    obtain ⟨j,t,rfl⟩:=hl v (.head _)
    exact .cons ⟨t,by rw [n1]⟩ (ih fun u hu=>hl u (.tail _ hu))
  refine go _ fun v hv'=>?_
  obtain ⟨p,hm,rfl⟩:=List.mem_map.mp hv'
  obtain ⟨j,t,e1,_⟩:=at' p (hp.mem_iff.mp hm)
  exact ⟨j,t,e1⟩
theorem zGb {r q:Addr} {n:Nat} {t u v:Tok} {Q:Value->Shared->Prop} (hc:X.calm=true) (I:Inv X pins σ H s) (hr:IsRange s.heap r 0 n 1 t u v) (h64:n < 64) (hkz:kz.length=n)
  (turn:∀ (j:Nat) (tk:Tok) (k:Int),kz[j]?=some k->∀ (s':Shared) (pl:List (Addr×Obj)),Inv X (pins++pl) σ H s'->
   wpAny (model X.prog X.w) X.A.in1.in1 (call (.ref q) [.int j tk]) (fun u s''=>(∃ t,u=.int k t)/\Inv X (pins++pl) σ H s'') (fun _ _=>False) s')
  (h:∀ D s' out c π,Inv X pins σ H s'->qR X pins H D->s.heap.objs.size<=D->s'.heap.get? D=some (seqObj "list" out c)->gA kz π->dE (π.map fun i:Nat=>V.int (i:Int)) out.toList->Q (.ref D) s'):
  wpAny (model X.prog X.w) X.A (call (.builtin "sorted") [.ref r] [(Str.ofString "key", .ref q)]) Q E s:=by
 refine call_function_entry_kw kind_sorted plain_sorted entry_sorted (ksk_s1 _ _) ?_
 unfold Builtin.«sorted»
 refine wpAny_bind (m:=checkCount "sorted" 1 1 _) (wpAny_pure ?_)
 refine wpAny_bind (yI (n:=n) (A:=X.A.in1) (I.ok.hd hc) hr (small_one (by omega) (by omega) (by omega) (by omega)) (by rw [rangeSize_one];split<;>omega) (by omega) fun h1 tk acc hk hsz hacc=>?_)
 have hl:acc.toList.length=n:=by rw [Array.length_toList];exact hacc.1
 refine wpAny_bind (wpAny_newList ?_ (by rw [hl,sizeLine_eq];omega))
 have I1:Inv X pins σ H { s with heap:=h1,toks:=tk }:=I.kept hk
 have fa:qR X pins H h1.objs.size:=I1.fpOk (Nat.le_refl _) (I1.hok.fresh (Nat.le_refl _))
 have I2:Inv X pins σ H { s with heap:=h1.push (seqObj "list" acc.toList.toArray 0),toks:=tk }:=I1.kept (t':=tk) fun b o e=>Heap.get?_push_of_some _ e
 have hoL:(h1.push (seqObj "list" acc.toList.toArray 0)).get? h1.objs.size=some (seqObj "list" acc.toList.toArray 0):=Heap.get?_push_size _ rfl
 show wpAny _ _ _ _ _ { s with heap:=h1.push (seqObj "list" acc.toList.toArray 0),toks:=tk }
 refine wpAny_bind (wpAny_holding (wpAny_call_entry_kw slot_list_sort ⟨_,hoL,rfl⟩ entry_list_sort ?body (ksk_l1 _ _)))
 case body=>
  show wpAny (model X.prog X.w) X.A.in1.in1 (Builtin.«list.sort» ⟨[.ref h1.objs.size],[(Str.ofString "key", .ref q)]⟩) _ _ _
  rw [ksk_t1]
  have s3:=Heap.SameBut.update (h1.push (seqObj "list" acc.toList.toArray 0)) h1.objs.size (Obj.mapSeq fun _=>(#[]:Array Value))
  obtain ⟨e1,ho1⟩:∃ e1,((h1.push (seqObj "list" acc.toList.toArray 0)).update h1.objs.size (Obj.mapSeq fun _=>(#[]:Array Value))).get? h1.objs.size=some (seqObj "list" #[] e1):=⟨_,get?_update_seq hoL fun _=>#[]⟩
  have I3:Inv X pins σ H { s with heap:=(h1.push (seqObj "list" acc.toList.toArray 0)).update h1.objs.size (Obj.mapSeq fun _=>(#[]:Array Value)),toks:=tk }:=(by have z:=oR (tk:=tk) fa I2 s3;exact z)
  generalize hg3:(h1.push (seqObj "list" acc.toList.toArray 0)).update h1.objs.size (Obj.mapSeq fun _=>(#[]:Array Value))=h3 at s3 ho1 I3
  unfold ksk_tree
  refine wpAny_bind (listItems_at hoL rfl ?_)
  refine wpAny_bind (listUpdate_at hoL rfl ?_ (by rw [List.size_toArray,sizeLine_eq];omega) (Nat.zero_le _))
  show wpAny _ _ _ _ _ { s with heap:=(h1.push (seqObj "list" acc.toList.toArray 0)).update h1.objs.size (Obj.mapSeq fun _=>(#[]:Array Value)),toks:=tk }
  rw [hg3]
  refine wpAny_bind (seqEpoch_at ho1 rfl ?_)
  refine wpAny_bind (wpAny_newTuple ?_ (by show acc.toList.toArray.toList.length<=_;rw [sizeLine_eq,List.toList_toArray];omega))
  refine wpAny_bind (wpAny_newList ?_ (Nat.zero_le _))
  refine wpAny_holding ?_
  have I4:Inv X pins σ H { s with heap:=h3.push (seqObj "tuple" acc.toList.toArray 0),toks:=tk }:=I3.kept (t':=tk) fun b o e=>Heap.get?_push_of_some _ e
  have fk:qR X pins H (h3.push (seqObj "tuple" acc.toList.toArray 0)).objs.size:=I4.fpOk (Nat.le_refl _) (I4.hok.fresh (Nat.le_refl _))
  have I5:Inv X pins σ H { s with heap:=(h3.push (seqObj "tuple" acc.toList.toArray 0)).push (seqObj "list" #[] 0),toks:=tk }:=I4.kept (t':=tk) fun b o e=>Heap.get?_push_of_some _ e
  have ho4:(h3.push (seqObj "tuple" acc.toList.toArray 0)).get? h1.objs.size=some (seqObj "list" #[] e1):=Heap.get?_push_of_some _ ho1
  refine zKm (vs:=acc.toList) (kz:=kz) (e0:=0) I5 fa fk (Nat.ne_of_gt (Heap.lt_size ho4)) (Heap.get?_push_size _ rfl) (Heap.get?_push_of_some _ ho4) (by rw [hkz,hl]) (by rw [hl];exact h64) (fun i v' k hi hk' s' pl Ip=>?_) fun s' out c I' ho' ko=>?_
  ·obtain ⟨tk',rfl⟩:=hacc.2 i v' (by rw [<-Array.getElem?_toList];exact hi)
   have e3:(0:Int)+(i:Int) * 1=(i:Int):=by omega
   rw [e3]
   exact turn i tk' k hk' s' pl Ip
  ·obtain ⟨hπ,hV⟩:=zJk (by rw [hkz,hl]) (fun j v' hj=>by
    obtain ⟨tk',rfl⟩:=hacc.2 j v' (by rw [<-Array.getElem?_toList];exact hj)
    exact ⟨tk',by congr 1;omega⟩) ko
   exact ⟨_,rfl,wpAny_pure ⟨_,rfl,h _ s' out c _ I' fa hsz ho' hπ hV⟩⟩
end
end L3
namespace L3
open PySem PySem.Spec PyProof.Rows L2 PySem.W
unseal PEd PEf PTd PWd PAd PSd fG POd PGd jA PId PSx nJ PTs PCd PCf
def zOF:CXT:=fun _ _ _ _ _ _=>False
def cxL (P:Program) (w:World) (K:PySem.W.Frag) (mg:Str->Option Value) (base:Heap) (N:List Str) (qual:Str) (scope:Scope) (f:Addr) (cd:Value) (cl:List (Str×Addr)) (A:Around) (outer:List Env) (s:Shared) (H:Hp):Cx where
 prog:=P
 w:=w
 K:=K
 mg:=mg
 base:=base
 A:=A.deeper (envX qual scope s.heap.objs.size f cd cl)
 N:=N
 s₀:=s
 H₀:=H
 env:=envX qual scope s.heap.objs.size f cd cl
 outer:=outer
 stack:=envX qual scope s.heap.objs.size f cd cl::outer
 ex:=[]
 fn:=fun _=>false
 calm:=true
 pn:=[]
 xe:=fun _ _=>False
theorem zKc {P:Program} {w:World} {K:PySem.W.Frag} {mg:Str->Option Value} {base:Heap} {N:List Str} {qual name:Str} {scope:Scope} {f c':Addr} {cl:List (Str×Addr)} {A:Around} {outer:List Env} {s:Shared} {H:Hp} {params:Arguments} {body:Expr} {pm ctv u:Value} {p:Str} {σ:St} {Q:VK} {E:XK} {t:TE}
  (hd:A.handled=none) (hdp:A.depth < recursionLimit) (e0:Env0 P w K mg base A outer s H) (ho:s.heap.get? f=some (kla_obj name qual params body scope cl pm c' ctv)) (hcd:s.heap.CodeRec (.ref c') qual)
  (hbind:bindArgs (kla_fn name qual params body scope cl pm (.ref c') ctv) ⟨[u],[]⟩=pure [(p,u)]) (hloc:scope.names.lookup p=some .local)
  (hco:scope.isCoroutine=false) (hgen:scope.isGenerator=false) (hk:scope.kind=.function) (hcell:∀ x∈scope.names,x.2≠.cell)
  (hfree:∀ x,scope.names.lookup x=some .free->∃ c,cl.lookup x=some c) (hinj:∀ x y c,cl.lookup x=some c->cl.lookup y=some c->x=y)
  (hcl:∀ x c,cl.lookup x=some c->(∃ v,s.heap.IsCell c v)/\H c=none) (hlen:σ.length=N.length)
  (hσ:∀ (i:Nat) (x:Str) (v:V),N[i]?=some x->σ[i]?=some (some v)->(x=p/\cS v u)∨(scope.names.lookup x=some .free/\∃ c u',cl.lookup x=some c/\s.heap.IsCell c (some u')/\cS v u'))
  (hb:PE (cxL P w K mg base N qual scope f (.ref c') cl A outer s H) body t) (hq:t σ H Q):
  codeAny (model P w) A (.call (.ref f) ⟨[u],[]⟩) (CR zOF outer P w H s Q E) s:=by
 have lim:s.heap.NoLimit:=e0.mod.nolimit.keeps fun b o e=>(e0.bs b o e).1
 refine kla_callFunE hdp ho rfl hco hgen rfl hcd ?_
 rw [hbind]
 refine wpAny_pure (wpAny_newFunctionEnv hcell (fun y hy=>by rw [List.mem_singleton.mp hy];exact hloc) (fun h₁ hns hsb=>⟨lim.fresh _ hsb,?_⟩) hk)
 have hk₁:∀ b o,s.heap.get? b=some o->h₁.get? b=some o:=fun b o e=>hsb.extBut b o (Nat.ne_of_lt (Heap.lt_size e)) (Heap.get?_push_of_some _ e)
 have noA:∀ b:Addr,b∉(cxL P w K mg base N qual scope f (.ref c') cl A outer s H).ex:=fun b z=>absurd (show b∈([]:List Addr) from z) (by simp)
 have I:Inv (cxL P w K mg base N qual scope f (.ref c') cl A outer s H) [] σ H { s with heap:=h₁,toks:=s.toks+1 }:=by
  refine ⟨⟨e0.mod,hk,rfl,rfl,Nat.le_refl _,hinj,fun y hy=>?_,fun y c z _=>?_,fun _=>hd,Around.frames_deeper e0.frames,.inr ⟨rfl,rfl⟩,fun b z=>absurd z (noA b),e0.bs,e0.bsz,fun b _ _=>noA b,fun b z=>absurd z (noA b),e0.funs,e0.frf⟩,
   rfl,e0.bare,Un.kept hk₁,⟨_,hns,fun i y v h1 h2 h3=>?_⟩,fun y c h=>?_,e0.hok.fresh (Nat.le_refl _),fun y c h=>(hcl y c h).2,fun p hp=>absurd (show p∈([]:List (Addr×Obj)) from hp) (by simp),e0.hok.kept hk₁,hlen⟩
  ·have hy:scope.names.lookup y=some .cell∨scope.names.lookup y=some .free:=hy
   rcases hy with hy | hy
   ·exact absurd rfl (hcell _ (PySem.mem_of_lookup hy))
   ·exact hfree y hy
  ·cases z
  ·rcases hσ i y v h1 h2 with ⟨rfl,r⟩ | ⟨hf,c,u',h4,⟨o,h5,h6⟩,r⟩
   ·exact ⟨u,r,.inl ⟨hloc,by simp [List.lookup]⟩⟩
   ·exact ⟨u',r,.inr ⟨.inr hf,c,h4,o,hk₁ _ _ h5,h6⟩⟩
  ·obtain ⟨⟨v,o,h5,h6⟩,_⟩:=hcl y c h
   exact ⟨v,o,hk₁ _ _ h5,h6⟩
 refine kla_codeExpr (wpAny_mono (hb [] _ σ H Q I hq) (fun v s' z=>?_) fun e s' z=>False.elim z)
 obtain ⟨x,H',J,r,q⟩:=z
 exact ⟨x,H',J.os,J.bare,J.base,J.hok,r,q⟩
theorem zHx {l:List Value} {a b:Int} {c:Value} (h:TriplesOk l):TriplesOk (l++[rawInt a,rawInt b,c]):=TriplesOk_snoc a b c l h
theorem zDz {pos q:Pos} {c x:Value} (l:List Value) (h:TriplesOk l) (e:codeAmong q (l++[rawInt pos.line,rawInt pos.col,c])=some x):codeAmong q l=some x∨x=c:=by
 fun_induction TriplesOk l with
 | case1=>
  simp only [List.nil_append,codeAmong,rawInt] at e
  split at e
  ·exact .inr (Option.some.inj e).symm
  ·cases e
 | case2 a t b u y rest ih=>
  simp only [List.cons_append,codeAmong] at e ⊢
  split at e
  ·rename_i hc;rw [if_pos hc];exact .inl e
  ·rename_i hc;rw [if_neg hc];exact ih h e
 | case3 l h1 h2=>exact h.elim
def BMn (base:Heap) (mg:Str->Option Value):Prop:=∃ bm ob,mg "__builtins__" = some (.ref bm)/\bm≠builtinsNs/\base.get? bm=some ob/\ob.cls=.type "module" /\ ob.dict=some builtinsNs/\ob.data=.plain
section
variable {X:Cx} {pins:List (Addr×Obj)} {σ:St} {H:Hp} {s:Shared} {P c c':Addr}
theorem zGZ {ps more:Array Value} {h':Heap} {tk:Nat} {oc:Obj} (I:Inv X pins σ H s) (hP:H P=some (.tbl ps)) (hx:Heap.ExtBut P s.heap h') (hge:s.heap.objs.size<=c') (hc:h'.get? c'=some oc) (hP':h'.get? P=some { cls:=.none,data:=.fields (ps++more) }):
  Inv X pins σ (upd (upd H P (.tbl (ps++more))) c' (.frz oc (.own 0))) { s with heap:=h',toks:=tk }:=by
 have nP:∀ {b:Addr},H b=none->b≠P:=fun e z=>by rw [z,hP] at e;cases e
 have cF:H c'=none:=I.hok.fresh hge
 have nc:∀ {b:Addr} {o:Obj},s.heap.get? b=some o->b≠c':=fun e=>Nat.ne_of_lt (Nat.lt_of_lt_of_le (Heap.lt_size e) hge)
 have hPc:P≠c':=bB hP cF
 have up:∀ {b:Addr},b≠P->b≠c'->upd (upd H P (.tbl (ps++more))) c' (.frz oc (.own 0)) b=H b:=fun h1 h2=>by rw [bC h2,bC h1]
 have upP:upd (upd H P (.tbl (ps++more))) c' (.frz oc (.own 0)) P=some (.tbl (ps++more)):=by rw [bC hPc,aZ]
 have kd:∀ {b:Addr} {o:HO},H b=some o->(∀ qs,o≠.tbl qs)->upd (upd H P (.tbl (ps++more))) c' (.frz oc (.own 0)) b=some o:=fun {b o} e hn=>by
  rw [up (fun z=>by rw [z,hP] at e;exact hn ps (Option.some.inj e).symm) (bB e cF)];exact e
 refine I.un ⟨fun b o e n _ _=>hx b o (nP n) e,fun b o e n _ _=>⟨o.slots,hx b o (nP n) e⟩,fun b o e n _=>by rw [up (nP n) (nc e)];exact n,fun b o e _=>?_,fun b xs e=>kd e fun qs z=>(by cases z),fun b o u e=>kd e fun qs z=>(by cases z),fun b qs e=>?_⟩ fun b u e=>?_
 ·by_cases hb:b=P
  ·subst hb;exact ⟨_,hP'⟩
  ·exact ⟨o,hx b o hb e⟩
 ·by_cases hb:b=P
  ·subst hb
   rw [hP] at e;cases e
   exact ⟨more,upP⟩
  ·exact ⟨#[],by rw [up hb (bB e cF),e];simp⟩
 ·by_cases h2:b=c'
  ·subst h2
   rw [aZ] at e;cases e
   exact ⟨hc,oc,hc⟩
  ·by_cases h1:b=P
   ·subst h1
    rw [upP] at e;cases e
    exact hP'
   ·rw [up h1 h2] at e
    refine (I.hok b u e).stay (fun d v hd q=>hx d v (fun z=>?_) q) (fun d q=>kd q fun qs z=>(by cases z)) fun d xs q=>kd q fun qs z=>(by cases z)
    rcases hd with rfl | hd
    ·exact h1 z
    ·rw [z,hP] at hd;cases hd
theorem zGI {ps:Array Value} {oc:Obj} {pos:Pos} {vs:Array Value} {t:Tok} (hP:H P=some (.tbl ps)) (cF:H c'=none) (hd:oc.data=.fields vs) (hv:vs[1]?=some (.str qT t)):
  Keep H (upd (upd H P (.tbl (ps++#[rawInt pos.line,rawInt pos.col,.ref c']))) c' (.frz oc (.own 0))):=by
 have hPc:P≠c':=bB hP cF
 have upP:upd (upd H P (.tbl (ps++#[rawInt pos.line,rawInt pos.col,.ref c']))) c' (.frz oc (.own 0)) P=some (.tbl (ps++#[rawInt pos.line,rawInt pos.col,.ref c'])):=by rw [bC hPc,aZ]
 have kd:∀ {b:Addr} {o:HO},H b=some o->b≠P->upd (upd H P (.tbl (ps++#[rawInt pos.line,rawInt pos.col,.ref c']))) c' (.frz oc (.own 0)) b=some o:=fun {b o} e hn=>by
  rw [bC (bB e cF),bC hn];exact e
 refine ⟨fun b o e=>?_,fun Q T=>?_⟩
 ·by_cases hb:b=P
  ·subst hb
   rw [hP] at e;cases e
   exact .inr ⟨_,_,rfl,upP⟩
  ·exact .inl (kd e hb)
 ·obtain ⟨qs,e,ht,k⟩:=T
  have old:∀ (q:Pos) (cv:Value),codeAmong q qs.toList=some cv->∃ c oc' vs t u,cv=.ref c/\upd (upd H P (.tbl (ps++#[rawInt pos.line,rawInt pos.col,.ref c']))) c' (.frz oc (.own 0)) c=some (.frz oc' u)/\oc'.data=.fields vs/\vs[1]?=some (.str qT t):=fun q cv z=>by
   obtain ⟨c,oc',vs',t',u,r1,r2,r3⟩:=k q cv z
   exact ⟨c,oc',vs',t',u,r1,kd r2 (fun w=>by rw [w,hP] at r2;cases r2),r3⟩
  by_cases hb:Q=P
  ·subst hb
   rw [hP] at e;cases e
   have el:(ps++#[rawInt pos.line,rawInt pos.col,.ref c']).toList=ps.toList++[rawInt pos.line,rawInt pos.col,.ref c']:=by simp
   refine ⟨_,upP,by rw [el];exact zHx ht,fun q cv z=>?_⟩
   rw [el] at z
   rcases zDz _ ht z with z | z
   ·exact old q cv z
   ·exact ⟨c',oc,vs,t,_,z,aZ,hd,hv⟩
  ·exact ⟨qs,kd e hb,ht,old⟩
theorem zHl {params:Arguments} {body:Expr} {scope:Scope} {pos:Pos} {clos:List (Str×Addr)} {M:Model} {A:Around} {E:Value->Shared->Prop} {Q:Value->Shared->Prop} (I:Inv X pins σ H s) (tb:zAv P H) (hC:∀ h,X.K.In h->CodeHd h c P) (hcode:X.env.code=.ref c) (hq:X.env.qual ++ "<lambda>" = qT) (hB:BMn X.base X.mg)
  (hcl:closureFor scope X.env=pure clos) (hdef:defaultsOf params X.env=([],[]))
  (h:∀ f c' ctv oc vs t u H' s',Inv X pins σ H' s'->Keep H H'->(∀ b o,H b=some o->b≠P->H' b=some o)->qR X pins H' f->s.heap.objs.size<=f->s'.heap.get? f=some (kla_obj "<lambda>" qT params body scope clos ((X.mg "__name__").getD .none) c' ctv)->
   H' c'=some (.frz oc u)->oc.data=.fields vs->vs[1]?=some (.str qT t)->Q (.ref f) s'):
  wpAny M A (eval (.Lambda params body scope pos) X.env) Q E s:=by
 obtain ⟨ps,hP,ht,hk⟩:=id tb
 have hPo:s.heap.get? P=some (tabObj ps):=I.hok P _ hP
 have hg:s.heap.Ns mainGlobals X.mg:=I.mod.glob.keeps I.bk
 have hgP:mainGlobals≠P:=fun z=>by
  obtain ⟨o,es,ep,e,_⟩:=I.mod.glob
  have:=(I.bs _ _ e).2
  rw [z,hP] at this;cases this
 have hb:s.heap.BuiltinsAt X.mg P:=by
  obtain ⟨bm,ob,b1,b2,b3,b4,b5,b6⟩:=hB
  refine ⟨bm,ob,b1,b2,fun z=>?_,fun z=>?_,(I.bs _ _ b3).1,b4,b5,b6⟩
  ·obtain ⟨o,es,ep,e,d,_⟩:=I.mod.glob
   rw [z,e] at b3;cases b3;rw [d] at b6;cases b6
  ·have:=(I.bs _ _ b3).2
   rw [z,hP] at this;cases this
 refine kla_eval hdef ?_
 rw [hq]
 cases hf:codeAmong pos ps.toList with
 | some cv=>
  obtain ⟨c',oc,vs,t,u,rfl,r1,r2,r3⟩:=hk pos cv hf
  refine kla_makeFunctionHit hcl I.ok.glob hg hcode (hC _ I.kIn) hPo ht hf hb fun ctv h' tk hkk hsz=>?_
  have I1:Inv X pins σ H { s with heap:=h',toks:=tk }:=I.kept hkk
  have I2:Inv X pins σ H { s with heap:=h'.push (kla_obj "<lambda>" qT params body scope clos ((X.mg "__name__").getD .none) c' ctv),toks:=tk }:=I1.kept (t':=tk) fun b o e=>Heap.get?_push_of_some _ e
  exact h _ c' ctv oc vs t u H _ I2 (Keep.refl _) (fun b o e _=>e) (I1.fpOk (Nat.le_refl _) (I1.hok.fresh (Nat.le_refl _))) hsz (Heap.get?_push_size _ rfl) r1 r2 r3
 | none=>
  refine kla_makeFunction hcl I.ok.glob hg hcode (hC _ I.kIn) hPo ht hf hgP hb fun c' ctv h' tk hx hge hlt hrec htb=>?_
  obtain ⟨c₂,oc,vs,t,e2,hoc,hd,hv⟩:=hrec
  cases e2
  have I1:=zGZ (tk:=tk) I hP hx hge hoc htb
  have I2:=I1.kept (t':=tk) (h':=h'.push (kla_obj "<lambda>" qT params body scope clos ((X.mg "__name__").getD .none) c' ctv)) fun b o e=>Heap.get?_push_of_some _ e
  have cF:H c'=none:=I.hok.fresh hge
  exact h _ c' ctv oc vs t _ _ _ I2 (zGI hP cF hd hv) (fun b o e hb=>by rw [bC (bB e cF),bC hb];exact e) (I1.fpOk (Nat.le_refl _) (I1.hok.fresh (Nat.le_refl _))) (Nat.le_of_lt (Nat.lt_of_le_of_lt hge hlt)) (Heap.get?_push_size _ rfl) aZ hd hv
end
end L3
namespace L3
open PySem PySem.Spec PyProof.Rows L2 PySem.W
unseal PEd PEf PTd PWd PAd PSd fG POd PGd jA PId PSx nJ PTs PCd PCf
theorem zAF {K:PySem.W.Frag} {H:Hp}:∀ π:List Nat,IsDs K H (π.map fun i:Nat=>V.int (i:Int)) (jB π)
 | []=>.nil
 | n::ns=>.cons (.int n) (zAF ns)
def zBs (p:Pos):Arguments:={ posonlyargs:=[],args:=[{ arg := "spot", annotation:=none,pos:=p }],vararg:=none,kwonlyargs:=[],kw_defaults:=[],kwarg:=none,defaults:=[] }
def jT:Scope:={ kind:=.function,names:=[(PySem.Str.ofString "spot", .local),(PySem.Str.ofString "bottom", .free),(PySem.Str.ofString "some", .free)],isGenerator:=false,isCoroutine:=false,more:=[] }
section
variable {X:Cx} {p1 p2 p3 p4 p5 p6 p7 p8 p9 pa pb pc pd pe pf pg ph pi pj:Pos}
theorem zHK {b k:Int} {a:Addr} {xs:List V} {rows:List D} {d:D} {j:Nat} {Hi H:Hp} {Q:VK} {σ:St} (hN:X.N=(["spot", "some", "bottom"]:List Str)) (hsc:X.env.scope=jT) {pz:Pos}
  (hσ:σ=[some (.int j),some (.ref a),some (.int b)]) (hq:SqL X.K Hi a xs∨SqT X.K Hi a xs) (hs:IsDs X.K Hi xs rows) (sm:Same Hi H) (hd:rows[j]?=some d) (hk:zGN b d=.ok k) (q:Q (.int k) H):
  ∃ t,PE X (.BinOp (.Subscript (.Subscript (.Name "some" p1) (.Name "spot" p2) p3) (.Constant (.int 0) 0 p4) p5) .Mult
   (.BinOp (.Name "bottom" p6) .FloorDiv (.Subscript (.Subscript (.Name "some" p7) (.Name "spot" p8) p9) (.Constant (.int 1) 0 pa) pb) pc) pz) t/\t σ H Q:=by
 have v0:PE X (.Name "spot" p2) (zDV 0):=sN (by rw [hN];rfl) (by rw [hsc];exact .inl (by decide +kernel))
 have v0':PE X (.Name "spot" p8) (zDV 0):=sN (by rw [hN];rfl) (by rw [hsc];exact .inl (by decide +kernel))
 have v1:PE X (.Name "some" p1) (zDV 1):=sN (by rw [hN];rfl) (by rw [hsc];exact .inr (.inr (by decide +kernel)))
 have v1':PE X (.Name "some" p7) (zDV 1):=sN (by rw [hN];rfl) (by rw [hsc];exact .inr (.inr (by decide +kernel)))
 have v2:PE X (.Name "bottom" p6) (zDV 2):=sN (by rw [hN];rfl) (by rw [hsc];exact .inr (.inr (by decide +kernel)))
 refine ⟨_,zGz bU (zDB aG (zDB aG v1 v0 (fun _ _=>rfl)) aH (fun _ _=>rfl)) (zGz iG v2 (zDB aG (zDB aG v1' v0' (fun _ _=>rfl)) aH (fun _ _=>rfl))),?_⟩
 obtain ⟨t,c,rfl,h1,h2,rfl⟩:=zJh hk
 obtain ⟨v,hv,r⟩:=hs.at hd
 obtain ⟨ra,ys,rfl,h3,h4⟩:=r.tupI
 obtain ⟨u1,u2,rfl,r1,r2⟩:=h4.two
 have e1:=r1.intI
 have e2:=r2.intI
 subst e1 e2
 have S3:=bX sm h3
 subst hσ
 have row:∀ Q':VK,Q' (.ref ra) H->(zMG X.K (.ref a) (.int j) H Q'∨zMH X.K (.ref a) (.int j) H Q'):=fun Q' q'=>by
  rcases hq with hq | hq
  ·exact .inl ⟨a,xs,j,.ref ra,rfl,rfl,cO sm hq,zCd hv,q'⟩
  ·exact .inr ⟨a,xs,j,.ref ra,rfl,rfl,bX sm hq,zCd hv,q'⟩
 refine ⟨.ref a,rfl,.int j,rfl,row _ (.inr ⟨ra,_,0,.int t,rfl,rfl,S3,rfl,?_⟩)⟩
 refine ⟨.int b,rfl,.ref a,rfl,.int j,rfl,row _ (.inr ⟨ra,_,1,.int c,rfl,rfl,S3,rfl,?_⟩)⟩
 exact ⟨b,c,rfl,rfl,h1,t,b.fdiv c,rfl,rfl,h2,q⟩
theorem zMs {a:Expr} {ta:TA} {p pos:Pos} (hg:Gl X "range") (hm:X.mg "range" = none) (ha:PA X [a] ta) (hs:starEach [a] X.env=[(false,eval a X.env)]:=by rfl):
  PE X (.Call (.Name "range" p) [a] [] pos) (fun σ H Q=>ta σ H fun vs H1=>∃ n:Nat,vs=[.int n]/\∀ r,H1 r=none->Q (.ref r) (upd H1 r (.rng 0 n))):=by
 intro pins s σ H Q I h
 refine wpAny_Call_Name_kw (mG I hg hm boot_range (PyProof.Rows.callWith_type1 (thn (ha pos pins s σ H _ I h) fun us s1 ⟨vs,H1,I1,r1,q1⟩=>?_) hs rfl))
 obtain ⟨n,e,q⟩:=q1
 subst e
 obtain ⟨u,rfl,t,rfl⟩:=zDx r1
 refine call_range_1 ⟨.ref s1.heap.objs.size,_,I1.laid (fun b o e=>Heap.get?_push_of_some _ e) (Nat.le_refl _) ?_,rfl,q _ I1.fresh⟩
 exact ⟨_,_,_,Heap.get?_push_size _ rfl⟩
structure RankCx (X:Cx) (P c:Addr):Prop where
 calm:X.calm=true
 dp:X.A.depth < recursionLimit
 n0:X.N[0]?=some ("some" : Str)
 n1:X.N[1]?=some ("bottom" : Str)
 k0:X.env.kindOf "some" = some .cell
 k1:X.env.kindOf "bottom" = some .cell
 code:X.env.code=.ref c
 hd:∀ h,X.K.In h->CodeHd h c P
 qual:X.env.qual ++ "<lambda>" = qT
 bm:BMn X.base X.mg
 clo:∃ cs cb,closureFor jT X.env=pure [(("some" : Str),cs),(("bottom" : Str),cb)]/\X.env.cells.lookup ("some" : Str)=some cs/\X.env.cells.lookup ("bottom" : Str)=some cb
 gS:Gl X "sorted"
 mS:X.mg "sorted" = none
 gR:Gl X "range"
 mR:X.mg "range" = none
 gL:Gl X "len"
 mL:X.mg "len" = none
def zKQ (X:Cx) (P:Addr):TE:=fun σ H Q=>∃ Hi a xs rows b kz,σ[0]?=some (some (.ref a))/\σ[1]?=some (some (.int b))/\(SqL X.K Hi a xs∨SqT X.K Hi a xs)/\IsDs X.K Hi xs rows/\Same Hi H/\nF b rows=.ok kz/\kz.length < 64/\zAv P H/\Hi P=none/\
 ∀ π r Hi' H',gA kz π->Ext Hi H Hi' H'->zHk X.K H Hi' H' r (jB π)->Q (.ref r) H'
theorem zCP {pins:List (Addr×Obj)} {σ:St} {H:Hp} {s:Shared} {i:Nat} {x:Str} {v:V} {c:Addr} (I:Inv X pins σ H s) (hi:X.N[i]?=some x) (hv:σ[i]?=some (some v)) (hk:X.env.kindOf x=some .cell) (hc:X.env.cells.lookup x=some c):∃ u,cS v u/\s.heap.IsCell c (some u):=by
 obtain ⟨m,hn,hl⟩:=I.loc
 obtain ⟨u,r,l⟩:=hl i x v hi hv (.inr (.inl hk))
 refine ⟨u,r,?_⟩
 rcases l with ⟨z,_⟩ | ⟨_,c',z,q⟩
 ·rw [hk] at z;cases z
 ·rw [hc] at z;cases z;exact q
theorem zJI {P c:Addr} (R:RankCx X P c) {pk pl pm pn:Pos} (hs1:starEach [.Name "some" p3] X.env=(false,eval (.Name "some" p3) X.env)::starEach [] X.env:=by rfl)
  (hs2:starEach [.Call (.Name "len" p2) [.Name "some" p3] [] p4] X.env=[(false,eval (.Call (.Name "len" p2) [.Name "some" p3] [] p4) X.env)]:=by rfl)
  (hs3:starEach [.Call (.Name "range" p1) [.Call (.Name "len" p2) [.Name "some" p3] [] p4] [] p5] X.env=(false,eval (.Call (.Name "range" p1) [.Call (.Name "len" p2) [.Name "some" p3] [] p4] [] p5) X.env)::starEach [] X.env:=by rfl):
  PE X (.Call (.Name "sorted" pk) [.Call (.Name "range" p1) [.Call (.Name "len" p2) [.Name "some" p3] [] p4] [] p5] [⟨some "key", .Lambda (zBs p6) (.BinOp (.Subscript (.Subscript (.Name "some" p7) (.Name "spot" p8) p9) (.Constant (.int 0) 0 pa) pb) .Mult
   (.BinOp (.Name "bottom" pc) .FloorDiv (.Subscript (.Subscript (.Name "some" pd) (.Name "spot" pe) pf) (.Constant (.int 1) 0 pg) ph) pi) pj) jT pl,pm⟩] pn) (zKQ X P):=by
 intro pins s σ H Q I h
 obtain ⟨Hi,a,xs,rows,b,kz,e0,e1,hq,hds,sm,hkz,h64,tb,hiP,q⟩:=h
 obtain ⟨hl1,hl2⟩:=yT hkz
 have hlen:xs.length=kz.length:=by rw [hds.length,hl1]
 refine wpAny_Call_Name_kw (mG I R.gS R.mS boot_sorted ?_ (by decide) (by decide))
 have vS:PE X (.Name "some" p3) (zDV 0):=sN R.n0 (.inr (.inl R.k0))
 have pR:=zMs (p:=p1) (pos:=p5) R.gR R.mR (jS (xA (p:=p2) (pos:=p4) aR R.gL R.mL boot_len (jS vS qK hs1) (by decide) (by decide) hs1) qK (by rw [hs2];rfl)) hs2
 refine callWith_kw (thn ((jS pR qK hs3) pn pins s σ H (fun vs H1=>∃ r,vs=[.ref r]/\H r=none/\H1=upd H r (.rng 0 kz.length)) I ?reads) fun us s1 ⟨vs,H1,I1,r1,q1⟩=>?_) (by rw [hs3];rfl) (by rw [hs3];rfl)
 case reads=>
  refine ⟨.ref a,e0,a,xs,rfl,hq.imp (cO sm) (bX sm),xs.length,rfl,fun r hr=>⟨r,rfl,hr,by rw [hlen]⟩⟩
 obtain ⟨r,rfl,hr,rfl⟩:=q1
 obtain ⟨u,rfl,ru⟩:=zDx r1
 cases ru
 obtain ⟨cs,cb,hcl,hcs,hcb⟩:=R.clo
 have x1:Ext Hi H Hi (upd H r (.rng 0 kz.length)):=Ext.newF sm hr
 refine kws_cons (zHl I1 (x1.h.t P tb) R.hd R.code R.qual R.bm hcl rfl fun f c' ctv oc vs t u H3 s3 I3 hkeep hsame hf hfs hfo hc1 hc2 hc3=>kws_nil ?_)
 have x2:Ext Hi H Hi H3:=x1.trans ⟨Same.refl _,hkeep,fun b o e=>hsame b o (x1.s _ _ e) (fun z=>by rw [z,hiP] at e;cases e),fun b e z=>absurd e z⟩
 have hr3:H3 r=some (.rng 0 kz.length):=hkeep.at aZ
 obtain ⟨t1,t2,t3,hrg⟩:=I3.hok r _ hr3
 have I3p:Inv X (pins++[(f,kla_obj "<lambda>" qT (zBs p6) _ jT [("some", cs),("bottom", cb)] ((X.mg "__name__").getD .none) c' ctv)]) σ H3 s3:=I3.pins_of fun p hp=>by
  rcases List.mem_append.mp hp with hp | hp
  ·exact I3.pin p (List.mem_append_right _ hp)
  ·rw [List.mem_singleton.mp hp]
   exact ⟨hfo,hf.1,hf.2.1,hf.2.2.1,fun v z=>by have z':Data.func _=Data.cell v:=z;cases z'⟩
 refine zGb (kz:=kz) R.calm I3p hrg h64 rfl (fun j tk k hj s' pl Ip=>?_) fun D s' out c2 π I' fD hDs hD hπ hV=>?_
 ·obtain ⟨d,hd,hk⟩:=hl2 j k hj
  have hfo':=(Ip.pin _ (List.mem_append_right _ (List.mem_append_left _ (List.mem_append_right _ (List.mem_singleton.mpr rfl))))).1
  obtain ⟨u0,r0,ce0⟩:=zCP Ip R.n0 e0 R.k0 hcs
  obtain ⟨u1,r1,ce1⟩:=zCP Ip R.n1 e1 R.k1 hcb
  have look:∀ {x:Str} {c:Addr},List.lookup x [(("some" : Str),cs),(("bottom" : Str),cb)]=some c->(x = "some" /\ c=cs)∨(x = "bottom" /\ c=cb):=fun {x c} z=>by
   have z':=PySem.mem_of_lookup z
   rcases List.mem_cons.mp z' with z' | z'
   ·cases z';exact .inl ⟨rfl,rfl⟩
   ·cases List.mem_singleton.mp z';exact .inr ⟨rfl,rfl⟩
  have hne:cs≠cb:=fun z=>by
   have:=Ip.ok.inj _ _ _ hcs (z ▸ hcb)
   exact absurd this (by decide)
  have lam:∃ t,PE (cxL X.prog X.w X.K X.mg X.base ["spot", "some", "bottom"] qT jT f (.ref c') [("some", cs),("bottom", cb)] X.A.in1.in1 X.stack s' H3) _ t/\t [some (.int j),some (.ref a),some (.int b)] H3 (fun v H'=>v=.int k/\H'=H3):=
   zHK (p1:=p7) (p2:=p8) (p3:=p9) (p4:=pa) (p5:=pb) (p6:=pc) (p7:=pd) (p8:=pe) (p9:=pf) (pa:=pg) (pb:=ph) (pc:=pi) (pz:=pj) rfl rfl rfl hq hds x2.s hd hk ⟨rfl,rfl⟩
  obtain ⟨tt,hb,hqq⟩:=lam
  refine wpAny_call (codeAny_mono (zKc (E:=fun _ _ _=>False) (p := "spot") (Ip.ok.hd R.calm) R.dp Ip.env0.in1.in1 hfo' ⟨c',oc,vs,t,rfl,(Ip.hok c' _ hc1).1,hc2,hc3⟩ rfl (by decide +kernel) rfl rfl rfl (by decide +kernel) (fun x hx=>?_) (fun x y c z1 z2=>?_) (fun x c z=>?_) rfl (fun i x v z1 z2=>?_) hb hqq) fun res s'' hres=>?_)
  ·have hx':=PySem.mem_of_lookup hx
   rcases List.mem_cons.mp hx' with z | hx'
   ·cases z
   ·rcases List.mem_cons.mp hx' with z | hx'
    ·cases z;exact ⟨cb,rfl⟩
    ·cases List.mem_singleton.mp hx';exact ⟨cs,rfl⟩
  ·rcases look z1 with ⟨rfl,rfl⟩ | ⟨rfl,rfl⟩<;>rcases look z2 with ⟨rfl,w⟩ | ⟨rfl,w⟩
   ·rfl
   ·exact absurd w hne
   ·exact absurd w.symm hne
   ·rfl
  ·rcases look z with ⟨rfl,rfl⟩ | ⟨rfl,rfl⟩
   ·exact ⟨⟨_,ce0⟩,Ip.freeC _ _ hcs⟩
   ·exact ⟨⟨_,ce1⟩,Ip.freeC _ _ hcb⟩
  ·match i,z1,z2 with
   | 0,z1,z2=>cases z1;cases z2;exact .inl ⟨rfl,tk,rfl⟩
   | 1,z1,z2=>cases z1;cases z2;exact .inr ⟨by decide +kernel,cs,u0,rfl,ce0,r0⟩
   | 2,z1,z2=>cases z1;cases z2;exact .inr ⟨by decide +kernel,cb,u1,rfl,ce1,r1⟩
   | i+3,z1,z2=>simp at z2
  ·cases res with
   | error ev=>exact False.elim hres
   | ok fl=>
    cases fl with
    | ret u=>
     obtain ⟨v,H',J,rv,rfl,rfl⟩:=Ip.after hres
     obtain ⟨t',rfl⟩:=rv
     exact ⟨⟨t',rfl⟩,J⟩
    | next=>exact False.elim hres
    | brk=>exact False.elim hres
    | cont=>exact False.elim hres
 ·have I'':Inv X pins σ H3 s':=I'.unpinned
  obtain ⟨f0,f1,f2,f3,f4,f5⟩:=fD
  have h0:X.s₀.heap.get? D=none:=Heap.get?_none_of_le (Nat.le_trans I3.sz hDs)
  have hl:=hV.length
  have okL:kK X.prog X.w (upd H3 D (.lst (π.map fun i:Nat=>V.int (i:Int)))) s'.heap D (.lst (π.map fun i:Nat=>V.int (i:Int))):=by
   refine ⟨?_,out.toList,c2,hV,by rw [Array.toArray_toList];exact hD⟩
   rw [List.length_map,hπ.1.length_eq,List.length_range,sizeLine_eq];omega
  have I4:=I''.track f0 h0 f1 f4 (fun p hp=>f5 p (by
   rcases List.mem_append.mp hp with hp | hp
   ·exact List.mem_append_left _ hp
   ·exact List.mem_append_right _ (List.mem_append_left _ hp))) okL
  refine ⟨.ref D,_,I4,rfl,q π D Hi _ hπ (x2.trans (Ext.newF x2.s f0)) ⟨x2.h.none f0,x2.s.none f0,_,aZ,zAF π⟩⟩
end
end L3
namespace L3
open PySem PySem.Spec PyProof.Rows L2 PySem.W
unseal PEd PEf PTd PWd PAd PSd fG POd PGd jA PId PSx nJ PTs PCd PCf
def spR (K:PySem.W.Frag) (mg:Str->Option Value) (kf:List D->Res (List Int)):Sp:=fun vs H Q _=>vs.length=1/\∃ Bi ds,TB K mg Bi H/\Same Bi H/\IsDs K Bi vs ds/\match kf ds with
 | .ok kz=>∀ π a Hi' H',gA kz π->Ext Bi H Hi' H'->zHk K H Hi' H' a (jB π)->Q (.ref a) H'
 | _=>False
structure CanR (P:Program) (w:World) (K:PySem.W.Frag) (mg:Str->Option Value) (base:Heap) (k:Nat) (kf:List D->Res (List Int)):Prop where
 ex:∃ f fd,FnOk P w K mg base (CX1 P w) k f fd ["some"] (spR K mg kf)/\zBe K fd ["some"] []/\PySem.W.keepIn K (.ref f)=true/\mg "ranked" = some (.ref f)
theorem CanR.mono {P:Program} {w:World} {K:PySem.W.Frag} {mg:Str->Option Value} {base:Heap} {j k:Nat} {kf:List D->Res (List Int)} (c:CanR P w K mg base j kf) (h:j<=k):CanR P w K mg base k kf:=by
 obtain ⟨f,fd,F,r⟩:=c.ex
 exact ⟨⟨f,fd,F.mono h,r⟩⟩
structure RankDef (st:Stmt):Prop where
 k0:(aK st).names.lookup ("some" : Str)=some .cell
 k1:(aK st).names.lookup ("bottom" : Str)=some .cell
 gS:(aK st).names.lookup ("sorted" : Str)=some .globalImplicit
 gR:(aK st).names.lookup ("range" : Str)=some .globalImplicit
 gL:(aK st).names.lookup ("len" : Str)=some .globalImplicit
 clo:∀ L f cdv,∃ cs cb,closureFor jT (envOfC "ranked" (aK st) L f cdv)=pure [(("some" : Str),cs),(("bottom" : Str),cb)]/\(envOfC "ranked" (aK st) L f cdv).cells.lookup ("some" : Str)=some cs/\(envOfC "ranked" (aK st) L f cdv).cells.lookup ("bottom" : Str)=some cb
section
variable {P:Program} {w:World} {K:PySem.W.Frag} {mg:Str->Option Value} {base:Heap} {st s1 s2:Stmt} {f:Addr} {fd:FuncData} {k:Nat} {sa sb:Sv} {p1 p2 p3 p4 p5 p6 p7 p8 p9 pa pb pc pd pe pf pg ph pi pj pk pl pm pn po:Pos}
theorem zKj {T:Addr} (F:Fn K mg "ranked" st ["some"] f fd) (S:FnScope ["some", "bottom", "each"] ["some"] (aK st)) (D:RankDef st) (hT:nX K mg T) (hB:BMn base mg) (mS:mg "sorted" = none) (mR:mg "range" = none) (mL:mg "len" = none)
  (hbody:eX st=[s1,s2,.Return (some (.Call (.Name "sorted" pk) [.Call (.Name "range" p1) [.Call (.Name "len" p2) [.Name "some" p3] [] p4] [] p5] [⟨some "key", .Lambda (zBs p6) (.BinOp (.Subscript (.Subscript (.Name "some" p7) (.Name "spot" p8) p9) (.Constant (.int 0) 0 pa) pb) .Mult
   (.BinOp (.Name "bottom" pc) .FloorDiv (.Subscript (.Subscript (.Name "some" pd) (.Name "spot" pe) pf) (.Constant (.int 1) 0 pg) ph) pi) pj) jT pl,pm⟩] pn)) po])
  (h:∀ (cdv:Value) (A:Around) (outer:List Env) (s:Shared) (H:Hp) (E:XK) (G:Gx),Good (BX P w K mg base ["some", "bottom", "each"] "ranked" st f cdv A outer s H E) G k->zGr (BX P w K mg base ["some", "bottom", "each"] "ranked" st f cdv A outer s H E) G->
   PSd (BX P w K mg base ["some", "bottom", "each"] "ranked" st f cdv A outer s H E) G s1 sa/\PSd (BX P w K mg base ["some", "bottom", "each"] "ranked" st f cdv A outer s H E) G s2 sb):
  CanR P w K mg base (k+1) (xU sa sb):=by
 refine ⟨f,fd,?_,F.bd,F.kp,F.mg⟩
 obtain ⟨f',oc',od',fd',osl',c,t1,t2,t3,t4⟩:=id hT
 have ef:f'=f:=by have:=t1.symm.trans F.mg;exact Value.ref.inj (Option.some.inj this)
 subst ef
 obtain ⟨oc,od,kV,doc,pm',an,cdv,ct,osl,rfl,lk,hcd⟩:=F.fn.ex
 have efd:cdv=.ref c:=by
  rw [lk] at t2
  cases t2
  exact t3
 subst efd
 refine zME lk hcd S (fun vs H Q E h=>h.1) fun A outer s H vs Q E hr hsp=>?_
 obtain ⟨hl,Bi,ds,tb,sm,hd,hq⟩:=hsp
 have hg:=zFp (P:=P) (w:=w) (K:=K) (mg:=mg) (base:=base) (N:=["some", "bottom", "each"]) (outer:=outer) (H:=H) (Bi:=Bi) (E:=E) hr tb
 obtain ⟨h1,h2⟩:=h (.ref c) A outer s H E _ hg zDn
 have RC:RankCx (BX P w K mg base ["some", "bottom", "each"] "ranked" st f' (.ref c) A outer s H E) T c:=
  ⟨rfl,hr.depth,rfl,rfl,D.k0,D.k1,rfl,t4,by show (("ranked" : Str) ++ ".<locals>.") ++ "<lambda>" = qT;decide +kernel,hB,D.clo _ _ _,D.gS,mS,D.gR,mR,D.gL,mL⟩
 have body:∀ G,PSs (BX P w K mg base ["some", "bottom", "each"] "ranked" st f' (.ref c) A outer s H E) [s1] (tS (BX P w K mg base ["some", "bottom", "each"] "ranked" st f' (.ref c) A outer s H E) G sa)->PS (BX P w K mg base ["some", "bottom", "each"] "ranked" st f' (.ref c) A outer s H E) s1 (tS (BX P w K mg base ["some", "bottom", "each"] "ranked" st f' (.ref c) A outer s H E) G sa)->PS (BX P w K mg base ["some", "bottom", "each"] "ranked" st f' (.ref c) A outer s H E) s2 (tS (BX P w K mg base ["some", "bottom", "each"] "ranked" st f' (.ref c) A outer s H E) G sb)->
   PSs (BX P w K mg base ["some", "bottom", "each"] "ranked" st f' (.ref c) A outer s H E) (eX st) (zNa (tS (BX P w K mg base ["some", "bottom", "each"] "ranked" st f' (.ref c) A outer s H E) G sa) (zNa (tS (BX P w K mg base ["some", "bottom", "each"] "ranked" st f' (.ref c) A outer s H E) G sb) (zOb (zKQ (BX P w K mg base ["some", "bottom", "each"] "ranked" st f' (.ref c) A outer s H E) T)))):=fun G _ h1 h2=>by
  rw [hbody]
  exact rH h1 (rH h2 (zCg (zCX (zJI RC))))
 refine ⟨_,body _ (zCg h1) h1 h2,?_⟩
 cases ek:xU sa sb ds with
 | no=>rw [ek] at hq;exact hq.elim
 | err c=>rw [ek] at hq;exact hq.elim
 | ok kz=>
  rw [ek] at hq
  unfold xU at ek
  split at ek
  case isFalse=>cases ek
  split at ek
  case h_2=>cases ek
  rename_i ρ1 e1
  split at ek
  case h_2=>cases ek
  rename_i ρ2 e2
  refine ⟨L3.start 3 ds,Bi,zU (N:=["some", "bottom", "each"]) sm hd,?_⟩
  rw [e1]
  intro σ1 Hi1 H1 sm1 R1
  refine ⟨ρ1,Hi1,R1,?_⟩
  rw [e2]
  intro σ2 Hi2 H2 sm2 R2
  unfold zCH at ek
  split at ek
  case h_2=>cases ek
  rename_i rows b z0 z1
  split at ek
  case isFalse=>cases ek
  rename_i h64
  obtain ⟨v,q0,r0⟩:=R2.slot 0 _ z0
  obtain ⟨v1,q1,r1⟩:=R2.slot 1 _ z1
  obtain ⟨a,xs,rfl,g1,g2⟩:=r0.lstI
  have r1':=r1.intI
  subst r1'
  obtain ⟨tb2,n2⟩:=hg.tb.ext R2.ext T hT
  exact ⟨Hi2,a,xs,rows,b,kz,q0,q1,.inl g1,g2,R2.s,ek,by rw [(yT ek).1];exact h64,tb2,n2,fun π r Hi' H' hπ x nl=>hq π r Hi' H' hπ (R2.ext.trans x) ⟨R2.ext.h.none nl.1,nl.2⟩⟩
end
section
variable {X:Cx} {G:Gx} {e:Expr} {es:List Expr} {pos p:Pos} {fs:Fv} {k:Nat} {kf:List D->Res (List Int)} {tg:Expr} {body rest:List Stmt} {g:Gv} {sa sb:Sv}
def tIr (X:Cx) (G:Gx) (fs:Fv) (kf:List D->Res (List Int)):TI:=fun σ H R=>∃ ρ Hi,kL X G Hi H σ ρ/\Out G Hi H ((fs ρ).bind kf) fun kz Hi' H'=>∀ π J,gA kz π->sI X.K Hi' J (jB π)->R J H'
theorem zIW (W:Good X G k) (c:CanR X.prog X.w X.K X.mg X.base k kf) (hkf:∀ ds c,kf ds≠.err c) (hk1:∀ ds,kf ds≠.no->ds.length=1) (hg:Gl X "ranked") (ha:PAd X G [e] fs) (he:starEach [e] X.env=(false,eval e X.env)::starEach [] X.env:=by rfl):
  PI X tg (.Call (.Name "ranked" p) [e] [] pos) (tIr X G fs kf):=by
 obtain ⟨f,fd,F,b,kp,hm⟩:=c.ex
 refine PI.wk (zKi (zBr F W.room hg hm kp b .nil W.pass ha (by decide) he rfl)) fun σ H R q=>?_
 obtain ⟨ρ,Hi,Rl,ou⟩:=q
 refine zGM Rl ou fun vs ds Hi1 H1 e1 R1 r1 o1=>?_
 rw [List.append_nil]
 have hno:kf ds≠.no:=fun z=>by rw [z] at o1;exact o1
 refine ⟨by rw [r1.length];exact hk1 ds hno,Hi1,ds,W.tb.ext R1.ext,R1.s,r1,?_⟩
 cases z:kf ds with
 | no=>exact absurd z hno
 | err c=>exact absurd z (hkf ds c)
 | ok kz=>
  rw [z] at o1
  intro π a Hi2 H2 hπ e2 n
  obtain ⟨n1,n2,xs,n3,n4⟩:=n
  have x3:=e2.hold n1 n3 n2
  refine ⟨a,rfl,⟨xs,SqL.of n3⟩,o1 _ _ x3 π _ hπ (zAB (SqL.of aZ) (n4.mono (dA n2 _)))⟩
theorem zGl (W:Good X G k) (c:CanR X.prog X.w X.K X.mg X.base k kf) (hkf:∀ ds c,kf ds≠.err c) (hk1:∀ ds,kf ds≠.no->ds.length=1) (hg:Gl X "ranked") (ha:PAd X G [e] fs) (hgt:PGd X G tg g) (hge:∀ d ρ c,g d ρ≠.err c) (hb:fG X G body sa) (hr:fG X G rest sb)
  (he:starEach [e] X.env=(false,eval e X.env)::starEach [] X.env:=by rfl) {pf:Pos} (hs:∀ x,foldedSetIterable (.Call (.Name "ranked" p) [e] [] pos) X.env x=pure x:=by intro _;rfl):
  fG X G (.For tg (.Call (.Name "ranked" p) [e] [] pos) body [] pf::rest) (zES fs kf g sa sb):=by
 refine PSs.wk (rH (zIC W.own W.calm (zIW W c hkf hk1 hg ha he) hgt hb hs) hr) fun E σ H q=>?_
 obtain ⟨ρ,Hi,R,h⟩:=q
 refine ⟨ρ,Hi,R,nR R h fun kz Hi1 H1 _ e1 h1 π J hπ gv=>?_⟩
 have hn:nH kz (fun π=>bF (fun ρ=>eP g sa (jB π) ρ) sb ρ)≠.no:=fun z=>by rw [z] at h1;exact h1
 rw [<-zDJ hn hπ] at h1
 exact zIc hge (R.grow e1) (zKL (sa:=fun ρ=>eP g sa (jB π) ρ) h1) gv
end
end L3
namespace L3
open PySem PySem.Spec PyProof.Rows L2 PySem.W
unseal PEd PEf PTd PWd PAd PSd fG POd PGd jA PId PSx nJ PTs PCd PCf
def zMP (K:PySem.W.Frag) (mg:Str->Option Value):Sp:=fun vs H Q _=>∃ (a:Addr) (ns:List Int) (Bi:Hp),vs=[.ref a]/\TB K mg Bi H/\Same Bi H/\SqL K Bi a (ns.map V.int)/\ns.length<=63/\∀ H',Q (.bl true) H'
theorem zKq {P:Program} {w:World} {K:PySem.W.Frag} {mg:Str->Option Value} {base:Heap} {k:Nat} {m:Mir} {f:Addr} {fd:FuncData} (F:FnOk P w K mg base (CX1 P w) k f fd ["script"] (spM K mg 1 m))
  (h:∀ ns:List Int,ns.length<=63->m [.lst (ns.map D.int)]=.ok (.v (.bl true))):FnOk P w K mg base (CX1 P w) k f fd ["script"] (zMP K mg):=by
 refine F.imp fun vs H Q E q=>?_
 obtain ⟨a,ns,Bi,rfl,tb,sm,hS,hl,q⟩:=q
 refine ⟨rfl,Bi,[.lst (ns.map D.int)],tb,sm,.cons (.lst hS (zAr ns)) .nil,?_⟩
 rw [h ns hl]
 intro v Hi' H' e r
 rw [r.blI]
 exact q H'
theorem zHw {K:PySem.W.Frag} {mg:Str->Option Value} {h:Heap} {T T':Addr} (X:K.In h) (a:nX K mg T) (b:nX K mg T'):T'=T:=by
 obtain ⟨f,oc,od,fd,osl,c,a1,a2,a3,a4⟩:=a
 obtain ⟨f',oc',od',fd',osl',c',b1,b2,b3,b4⟩:=b
 rw [a1] at b1;cases b1
 rw [a2] at b2;cases b2
 rw [a3] at b3;cases b3
 obtain ⟨o,vs,_,_,_,_,_,_,_,e1,_,e3,e4,_⟩:=a4 h X
 obtain ⟨o',vs',_,_,_,_,_,_,_,f1,_,f3,f4,_⟩:=b4 h X
 rw [e1] at f1;cases f1
 rw [e3] at f3;cases f3
 rw [e4] at f4;cases f4
 rfl
theorem zGy {P:Program} {w:World} {K:PySem.W.Frag} {mg mb:Str->Option Value} {CX:CXT} {k:Nat} {fa a T:Addr} {fd:FuncData} {x:Str} {s₁:Shared} {vs:List Value} {ns:List Int}
  (KX:K.In s₁.heap) (hns:s₁.heap.Ns mainGlobals mg) (hb:s₁.heap.Ns builtinsNs mb) (hbb:∀ x:Str,x ≠ "__name__" -> mb x=bootBuiltins x) (hlim:s₁.heap.NoLimit) (hg:s₁.gens=#[]) (hbm:BMn s₁.heap mg) (hT:s₁.heap.get? T=some (tabObj #[])) (hKT:K.lookup T=none) (hP:nX K mg T)
  (ha:s₁.heap.get? a=some { cls:=.type "list", data:=.seq vs.toArray }) (hi:IntsAre vs ns) (hl:ns.length<=63) (hr:Room k callerA)
  (F:∀ base:Heap,K.In base->base.Ns mainGlobals mg->BMn base mg->FnOk P w K mg base CX k fa fd [x] (zMP K mg)) (hbind:∀ (s:Shared) (u:Value),BindsTo s fd ⟨[u],[]⟩ [(x,u)])
  (hCX:∀ H e s',CX [] H s₁ (fun _ _ _=>False) e s'->False):
  codeAny (model P w) callerA (.call (.ref fa) ⟨[.ref a],[]⟩) (fun r s'=>r=.ok (.ret (.bool true))/\OldK s₁.heap s'.heap/\s'.os=s₁.os/\AllBare s'.gens) s₁:=by
 have rv:=zV hi
 have lenV:=hi.length
 have haT:a≠T:=fun z=>by rw [z,hT] at ha;cases ha
 have core:∀ Bi:Hp,zOr Bi->SqL K Bi a (ns.map V.int)->HOk P w Bi s₁.heap->(∀ b,Bi b≠none->b=a)->(Bi a≠none->K.lookup a=none)->
   codeAny (model P w) callerA (.call (.ref fa) ⟨[.ref a],[]⟩) (fun r s'=>r=.ok (.ret (.bool true))/\OldK s₁.heap s'.heap/\s'.os=s₁.os/\AllBare s'.gens) s₁:=by
  intro Bi hO hS hokB hA hK
  have hBT:Bi T=none:=by
   cases q:Bi T with
   | none=>rfl
   | some u=>exact absurd (hA T (by rw [q];simp)).symm haT
  generalize hHdef:upd Bi T (.tbl #[])=H
  have HT:H T=some (.tbl #[]):=by rw [<-hHdef,aZ]
  have Hne:∀ {b},b≠T->H b=Bi b:=fun z=>by rw [<-hHdef,bC z]
  have sm:Same Bi H:=fun b o e=>by rw [Hne (bB e hBT)];exact e
  have hok:HOk P w H s₁.heap:=fun b u e=>by
   by_cases hb:b=T
   ·subst hb;rw [HT] at e;cases e;exact hT
   ·rw [Hne hb] at e
    exact (hokB b u e).stay (fun c v _ q=>q) (fun c q=>sm _ _ q) fun c xs q=>sm _ _ q
  have only:∀ {b:Addr} {o:Obj},s₁.heap.get? b=some o->(∀ xs n,o.data≠.seq xs n)->(∀ vs,o.data≠.fields vs)->H b=none:=fun {b o} e d1 d2=>by
   by_cases hb:b=T
   ·subst hb;rw [hT] at e;cases e;exact absurd rfl (d2 #[])
   ·rw [Hne hb]
    cases q:Bi b with
    | none=>rfl
    | some u=>
     have e':b=a:=hA b (by rw [q];simp)
     subst e'
     rw [ha] at e;cases e
     exact absurd rfl (d1 _ _)
  have base_of:∀ {b:Addr} {o:Obj},s₁.heap.get? b=some o->H b=none->(zGQ s₁.heap H).get? b=some o:=fun e n=>zHm e n
  have nsK:∀ {b:Addr} {m:Str->Option Value},s₁.heap.Ns b m->(zGQ s₁.heap H).Ns b m:=fun {b m} ⟨o,es,ep,e,d,r⟩=>⟨o,es,ep,base_of e (only e (fun xs n z=>by rw [d] at z;cases z) (fun vs z=>by rw [d] at z;cases z)),d,r⟩
  have hKb:K.In (zGQ s₁.heap H):=fun b o e=>base_of (KX b o e) (by
   by_cases hb:b=T
   ·subst hb;rw [hKT] at e;cases e
   ·rw [Hne hb]
    cases q:Bi b with
    | none=>rfl
    | some u=>
     have e':b=a:=hA b (by rw [q];simp)
     subst e'
     rw [hK (by rw [q];simp)] at e;cases e)
  have hBb:BMn (zGQ s₁.heap H) mg:=by
   obtain ⟨bm,ob,b1,b2,b3,b4,b5,b6⟩:=hbm
   exact ⟨bm,ob,b1,b2,base_of b3 (only b3 (fun xs n z=>by rw [b6] at z;cases z) (fun vs z=>by rw [b6] at z;cases z)),b4,b5,b6⟩
  have hM:Mod K mg (zGQ s₁.heap H):=⟨hKb,nsK hns,⟨mb,nsK hb,hbb⟩,let ⟨mc,h1,h2⟩:=hlim;⟨mc,nsK h1,h2⟩⟩
  have e0:Env0 P w K mg (zGQ s₁.heap H) callerA [] s₁ H:=⟨rfl,hM,fun b o e=>zJW e,Nat.le_of_eq (zFQ _ _),trivial,fun b hb=>absurd (show b∈([]:List Addr) from hb) (by simp),hok,.of_eq hg⟩
  have htb:TB K mg Bi H:=fun T' h'=>by
   have e':=zHw KX hP h'
   subst e'
   exact ⟨⟨#[],HT,trivial,fun pos cv z=>by cases z⟩,hBT⟩
  refine codeAny_mono ((F _ hKb (nsK hns) hBb).run callerA [] s₁ H ⟨[.ref a],[]⟩ [.ref a] [.ref a] (fun v _=>v=.bl true) (fun _ _ _=>False) hr e0 (hbind s₁ (.ref a)) (.cons rfl .nil) ⟨a,ns,Bi,rfl,htb,sm,hS,hl,fun _=>rfl⟩) fun r s' h=>?_
  cases r with
  | error e=>exact (hCX H e s' h).elim
  | ok fl=>
   cases fl with
   | next=>exact False.elim h
   | brk=>exact False.elim h
   | cont=>exact False.elim h
   | ret u=>
    obtain ⟨v,H',os,bare,un,hok',r',q⟩:=h
    have q':v=.bl true:=q
    subst q'
    obtain rfl:u=Value.bool true:=r'
    refine ⟨rfl,⟨fun b o e=>?_,fun b o e=>un.there b o e (by simp)⟩,os,bare⟩
    by_cases hbT:b=T
    ·subst hbT
     obtain ⟨more,z⟩:=un.tbls b _ HT
     have z2:s'.heap.get? b=some { cls:=.none,data:=.fields (#[]++more) }:=hok' b _ z
     rw [hT] at e;cases e
     obtain ⟨f,oc,od,fd',osl,c,a1,a2,a3,a4⟩:=hP
     obtain ⟨o,vs,_,_,_,_,_,_,_,e1,e2,e3,e4,_⟩:=a4 _ KX
     exact .inr (.inl ⟨⟨c,o,vs,e1,e2,e3,e4⟩,rfl,#[],more,rfl,z2⟩)
    ·refine .inl ?_
     cases q:H b with
     | none=>exact un.keep b o e q (by intro z;exact absurd (show b∈([]:List Addr) from z) (by simp)) (by simp)
     | some u=>
      rw [Hne hbT] at q
      rcases hO b with z | ⟨ob,xs,z⟩
      ·rw [q] at z;cases z
      ·have z2:=un.frzs b ob _ (by rw [Hne hbT];exact z)
       obtain ⟨e1,_⟩:=hokB b _ z
       obtain ⟨e2,_⟩:=hok' b _ z2
       rw [e] at e1;cases e1
       exact e2
 cases hk:K.lookup a with
 | some o=>
  have e:=KX a o hk
  rw [ha] at e
  cases e
  refine core (fun _=>none) (fun _=>.inl rfl) (.inr ⟨_,vs.toArray,_,hk,rfl,rfl,rfl,by rw [List.size_toArray,lenV,sizeLine_eq];omega,by simpa using rv⟩) (fun b u z=>by have z':(none:Option HO)=some u:=z;cases z') (fun b z=>absurd rfl z) fun z=>absurd rfl z
 | none=>
  refine core (fun b=>if b=a then some (.frz { cls:=.type "list", data:=.seq vs.toArray } (.lst (ns.map V.int))) else none) (fun b=>?_) (.inl (.inr ⟨{ cls:=.type "list", data:=.seq vs.toArray },if_pos rfl⟩)) (fun b u z=>?_) (fun b z=>?_) fun _=>hk
  ·by_cases hb:b=a
   ·exact .inr ⟨_,_,if_pos hb⟩
   ·exact .inl (if_neg hb)
  ·by_cases hb:b=a
   ·have z':=(if_pos hb).symm.trans z
    cases z'
    subst hb
    exact ⟨ha,by rw [List.length_map,sizeLine_eq];omega,vs,_,rv,ha⟩
   ·have z':=(if_neg hb).symm.trans z
    cases z'
  ·by_cases hb:b=a
   ·exact hb
   ·exact absurd (if_neg hb) z
theorem zMT {l:PySem.W.OpenLaw} {k:Nat} {q:Program} {loose:List Str} {XP:(Str->Option Value)->Heap->Prop} {YP:World->Heap->Prop} {d:DefRec} {K:Params->PySem.W.Frag} {T:Addr} (hn:l.most=some 63) (hdf:d.params.defaults=[]) (hr:Room k callerA)
  (hY:∀ (w:World) (h:Heap),YP w h->(K w.params).In h) (hT:∀ (w:World) (h:Heap),YP w h->h.get? T=some (tabObj #[]))
  (F:∀ (w:World) (mg:Str->Option Value) (fa:Addr) (h:Heap),(K w.params).In h->h.Ns mainGlobals mg->mg d.name=some (.ref fa)->
   (K w.params).lookup T=none/\nX (K w.params) mg T/\∃ fd:FuncData,(∀ (s:Shared) (u:Value),BindsTo s fd ⟨[u],[]⟩ [("script", u)])/\∀ base:Heap,(K w.params).In base->base.Ns mainGlobals mg->BMn base mg->FnOk l.prog w (K w.params) mg base (CX1 l.prog w) k fa fd ["script"] (zMP (K w.params) mg)):
  PySem.W.WalkO q loose XP YP l.row.toRowW d [] (fun f vs=>PySem.call f vs):=by
 refine Att.attach_call hn hdf fun w s₀ s₁ mg mb fa o pm cd doc a vs ns G Y ho hd hcd hmg hobj hints hlen hg=>?_
 have KX:=hY w _ Y
 obtain ⟨h1,h2,fd,hb,hF⟩:=F w mg fa _ KX G.T.g hmg
 exact zGy KX G.T.g G.T.b G.T.builtins G.T.nolimit hg G.T.bmain (hT w _ Y) h1 h2 hobj hints hlen hr hF hb fun _ _ _ z=>by
  obtain ⟨_,_,_,_,_,z⟩:=z
  exact z
end L3
namespace L3
open PySem PySem.Spec PyProof.Rows L2 PySem.W
unseal PEd PEf PTd PWd PAd PSd fG POd PGd jA PId PSx nJ PTs PCd PCf
section
variable {X:Cx} {G:Gx} {pins:List (Addr×Obj)} {σ:St} {H Hi:Hp} {s:Shared} {ρ:Rho} {i k:Nat} {st:Stmt} {sa:Sv}
end
end L3
namespace L3
open PySem PySem.Spec PyProof.Rows L2 PySem.W
unseal PEd PEf PTd PWd PAd PSd fG POd PGd jA PId PSx nJ PTs PCd PCf
section
variable {X:Cx} {G:Gx} {e a:Expr} {f g:Ev} {pos:Pos}
end
end L3
namespace L3
open PySem PySem.Spec PyProof.Rows L2 PySem.W
unseal PEd PEf PTd PWd PAd PSd fG POd PGd jA PId PSx nJ PTs PCd PCf
section
variable {X:Cx} {G:Gx} {st:Stmt} {rest:List Stmt} {sa sb:Sv} {u:TS}
end
section
variable {P:Program} {w:World} {K:PySem.W.Frag} {mg:Str->Option Value} {base:Heap} {N ps:List Str} {x:Str} {st:Stmt} {f:Addr} {fd:FuncData} {k i0 i1 i2:Nat} {sv:Sv}
end
section
variable {X:Cx} {G:Gx} {e:Expr} {es:List Expr} {pos p:Pos} {fs:Fv} {k j0 j1 j2:Nat} {kf:List D->Res Tri} {x:Str} {ps:List Str} {tg:Expr}
end
end L3
namespace L3
open PySem PySem.Spec PyProof.Rows L2
unseal PEd PEf PTd PWd PAd PSd fG POd PGd jA PId PSx nJ PTs PCd PCf
def Itq (K:PySem.W.Frag) (a:Addr) (n:Nat):It:=
 ⟨fun i H=>∃ xs x,SqL K H a xs/\xs.length=n/\xs.reverse[i]?=some x,fun i H x H'=>H'=H/\∀ xs,SqL K H a xs->xs.reverse[i]?=some x,fun i H=>∃ xs,SqL K H a xs/\n<=i⟩
def rix (n i:Nat):Int:=(n:Int) - 1 - ((min i n:Nat):Int)
theorem zEL {P:Program} {w:World} {K:PySem.W.Frag} {tg:Expr} (a it:Addr) (n:Nat):Turn P w K tg (Itq K a n) [it] it (fun i h=>h.IsRevIter it a (rix n i)) where
 mem:=by simp
 obj:=fun i h st b hb=>by
  have e:b=it:=by simpa using hb
  subst e
  obtain ⟨o,e,c,d⟩:=st
  exact ⟨o,e,fun v z=>by rw [d] at z;cases z⟩
 keep:=fun i h h' st k=>st.at fun o e=>k it (by simp) o e
 item:=by
  intro X hP hw hK hc i pins s σ H E I hf st hg
  subst hP hw hK
  obtain ⟨xs,x,hq,hn',hx⟩:=hg
  obtain ⟨its,rv,p,hz⟩:=I.list hq
  have hi:i < xs.length:=by
   have:=(List.getElem?_eq_some_iff.mp hx).1
   rwa [List.length_reverse] at this
  have hx':xs[n - 1 - i]?=some x:=by
   rw [List.getElem?_reverse hi,hn'] at hx
   exact hx
  obtain ⟨u,hu,ru⟩:=rv.get hx'
  obtain ⟨f0,f1,f2,f3,f4,f5⟩:=hf it (by simp)
  have st0:s.heap.IsRevIter it a ((n - 1 - i:Nat):Int):=by
   have e:rix n i=((n - 1 - i:Nat):Int):=by unfold rix;rw [Nat.min_eq_left (by omega)];omega
   rw [<-e];exact st
  refine wpAny_pyNext_rev_item (items:=its.toArray) st0 p.isList (x:=u) (by simpa using hu) fun h' st' sb=>?_
  have I1:Inv X pins σ H { s with heap:=h' }:=I.turned (t':=s.toks) (fun b o hb e=>(sb.2 b hb).trans e) f0 f1 f3 f4 f5
  obtain ⟨o,e,c,d⟩:=id st'
  have st2:h'.IsRevIter it a (rix n (i+1)):=by
   have e:rix n (i+1)=((n - 1 - i:Nat):Int) - 1:=by unfold rix;rw [Nat.min_eq_left (by omega)];omega
   rw [e];exact st'
  exact ⟨u,rfl,zFL (s:={ s with heap:=h' }) e c d (by decide) ⟨x,H,I1,ru,⟨rfl,fun ys hy=>by rw [I.list_inj hy hq];exact hx⟩,st2,fun b hb=>(hf b hb).1⟩⟩
 done:=by
  intro X hP hw hK hc i pins s σ H E I hf st hg
  subst hP hw hK
  obtain ⟨xs,hq,hx⟩:=hg
  obtain ⟨f0,f1,f2,f3,f4,f5⟩:=hf it (by simp)
  have st0:s.heap.IsRevIter it a (-1):=by
   have e:rix n i=-1:=by unfold rix;rw [Nat.min_eq_right hx];omega
   rw [<-e];exact st
  exact wpAny_pyNext_rev_end (I.ok.hd hc) st0 fun h' eb=>⟨rfl,I.turned (t':=s.toks) (fun b o hb e=>eb b o hb e) f0 f1 f3 f4 f5⟩
 self:=fun _ _ _ _ _ st h=>wpAny_pyIter_revIter st h
section
variable {X:Cx} {G:Gx} {fs:Fv} {f:Ev}
def iRw (K:PySem.W.Frag) (ta:TA):TI:=fun σ H R=>ta σ H fun vs H1=>∃ a xs,vs=[.ref a]/\SqL K H1 a xs/\R (Itq K a xs.length) H1
theorem zIZ {tg a:Expr} {ta:TA} {p pos:Pos} (hg:Gl X "reversed") (hm:X.mg "reversed" = none) (ha:PA X [a] ta) (hs:starEach [a] X.env=[(false,eval a X.env)]:=by rfl):PI X tg (.Call (.Name "reversed" p) [a] [] pos) (iRw X.K ta):=by
 intro pins s σ H R I h
 refine Call_ (mG I hg hm zCT (PyProof.Rows.callWith_type1 (thn (ha pos pins s σ H _ I h) fun us s1 ⟨vs,H1,I1,r1,q1⟩=>?_) hs rfl))
 obtain ⟨t,xs,rfl,hq,q⟩:=q1
 cases r1 with
 | cons r rr=>
  cases rr
  cases r
  obtain ⟨its,rv,pt,hz⟩:=I1.list hq
  have hl:=rv.length
  refine call_reversed_list (items:=its.toArray) pt.isList ?_
  have hR:(s1.heap.push (revObj t ((its.toArray.size:Int) - 1))).IsRevIter s1.heap.objs.size t (rix xs.length 0):=
   ⟨_,Heap.get?_push_size _ rfl,rfl,by unfold rix;rw [hl,List.size_toArray];simp [revObj]⟩
  refine wpAny_pyIter_revIter (s:={ s1 with heap:=_ }) hR ?_
  refine ⟨s1.heap.objs.size,[s1.heap.objs.size],_,_,H1,rfl,I1.kept (t':=s1.toks) fun b o e=>Heap.get?_push_of_some _ e,zEL t _ xs.length,hR,fun b hb=>?_,q⟩
  have e:b=s1.heap.objs.size:=by simpa using hb
  subst e
  exact I1.fpOk (Nat.le_refl _) (I1.hok.fresh (Nat.le_refl _))
theorem zDC {K:PySem.W.Frag} {Hi:Hp} {a:Addr} {xs:List V} {ds:List D} (h1:SqL K Hi a xs) (h2:IsDs K Hi xs ds):sI K Hi (Itq K a xs.length) ds.reverse:=fun Hi1 H1 s1 s2 i=>by
 have h3:=cO (s1.trans s2) h1
 have hl:=h2.length
 refine ⟨fun hl'=>⟨xs,h3,by rw [List.length_reverse] at hl';omega⟩,fun d hd=>?_⟩
 have hi:i < ds.length:=by
  have:=(List.getElem?_eq_some_iff.mp hd).1
  rwa [List.length_reverse] at this
 rw [List.getElem?_reverse hi] at hd
 obtain ⟨v,hv,r⟩:=h2.at hd
 have hv':xs.reverse[i]?=some v:=by rw [List.getElem?_reverse (by omega),hl];exact hv
 refine ⟨⟨xs,v,h3,rfl,hv'⟩,fun x H2 y=>?_⟩
 obtain ⟨e,y⟩:=y
 subst e
 have:=y xs h3
 rw [hv'] at this
 cases this
 exact ⟨Hi1,Ext.refl s2,r.mono s1⟩
theorem zLU {tg a:Expr} {p pos:Pos} (hg:Gl X "reversed") (hm:X.mg "reversed" = none) (ha:PEd X G a f) (hst:starEach [a] X.env=[(false,eval a X.env)]:=by rfl):PId X G tg (.Call (.Name "reversed" p) [a] [] pos) (zHs f):=PI.wk (zIZ hg hm (jS ha qK (by rw [hst];rfl)) hst) fun σ H Q q=>by
 obtain ⟨ρ,Hi,R,ou⟩:=q
 refine zBA R ou fun v d Hi1 H1 e1 R1 r1 o1=>?_
 cases d with
 | lst ds=>
  obtain ⟨a,xs,rfl,h1,h2⟩:=r1.lstI
  exact ⟨a,xs,rfl,cO R1.s h1,o1.here R1.s _ (zDC h1 h2)⟩
 | _=>exact o1.elim
end
end L3
theorem PySem.W.Fast.tw11882359622343922645:True:=trivial
theorem PySem.W.Fast.tw16099610359330374748:True:=trivial
theorem PySem.W.Fast.tw6478988984945669112:True:=trivial
theorem PySem.W.Fast.tw15864014245874396580:True:=trivial
theorem PySem.W.Fast.tw18255694491224395401:True:=trivial
theorem PySem.W.Fast.tw9834719564227426392:True:=trivial
theorem PySem.W.Fast.tw4435782008841230216:True:=trivial
theorem PySem.W.Fast.tw15806774592621340127:True:=trivial
theorem PySem.W.Fast.tw11592591188545233169:True:=trivial
theorem PySem.W.Fast.tw4826182140530799497:True:=trivial
theorem PySem.W.Fast.tw4397140031896287111:True:=trivial
theorem PySem.W.Fast.tw836344214089094683:True:=trivial
theorem PySem.W.Fast.tw7594003184701553663:True:=trivial
theorem PySem.W.Fast.tw13261249329589747470:True:=trivial
theorem PySem.W.Fast.tw1698530166388231077:True:=trivial
theorem PySem.W.Fast.tw879962213820382560:True:=trivial
theorem PySem.W.Fast.tw18431286503525109100:True:=trivial
theorem PySem.W.Fast.tw9725794891415676472:True:=trivial
theorem PySem.W.Fast.tw107413910119825556:True:=trivial
theorem PySem.W.Fast.tw6225088559566870183:True:=trivial
theorem PySem.W.Fast.tw17950291543513922110:True:=trivial
theorem PySem.W.Fast.tw8211218155839108707:True:=trivial
theorem PySem.W.Fast.tw6667620556684661949:True:=trivial
theorem PySem.W.Fast.tw9246142318487199011:True:=trivial
theorem PySem.W.Fast.tw14021381538806630923:True:=trivial
theorem PySem.W.Fast.tw2323652759885361898:True:=trivial
theorem PySem.W.Fast.tw8079588405054764816:True:=trivial
theorem PySem.W.Fast.tw5901470660270924671:True:=trivial
theorem PySem.W.Fast.tw970250962516890261:True:=trivial
theorem PySem.W.Fast.tw3012527329078462496:True:=trivial
theorem PySem.W.Fast.tw17708941375334459684:True:=trivial
theorem PySem.W.Fast.tw3023272819737627903:True:=trivial
theorem PySem.W.Fast.tw12711354668263248736:True:=trivial
theorem PySem.W.Fast.tw4302527743738905707:True:=trivial
theorem PySem.W.Fast.tw5534502056998926502:True:=trivial
theorem PySem.W.Fast.tw14473780103878092444:True:=trivial
theorem PySem.W.Fast.tw13890507096721149834:True:=trivial
theorem PySem.W.Fast.tw16665602658336062780:True:=trivial
theorem PySem.W.Fast.tw3895088311000599656:True:=trivial
theorem PySem.W.Fast.tw15569350400904810824:True:=trivial
theorem PySem.W.Fast.tw11222300021768766151:True:=trivial
theorem PySem.W.Fast.tw4912802786744078883:True:=trivial
theorem PySem.W.Fast.tw10619693849426979337:True:=trivial
theorem PySem.W.Fast.tw5034434513822165277:True:=trivial
theorem PySem.W.Fast.tw5653033754045454995:True:=trivial
theorem PySem.W.Fast.tw10254942083148516641:True:=trivial
theorem PySem.W.Fast.tw12619585934483263824:True:=trivial
theorem PySem.W.Fast.tw18045728887311818725:True:=trivial
theorem PySem.W.Fast.tw1563315127474452742:True:=trivial
theorem PySem.W.Fast.tw17954235570253051253:True:=trivial
theorem PySem.W.Fast.tw16019800931744959232:True:=trivial
theorem PySem.W.Fast.tw9379315655886953249:True:=trivial
theorem PySem.W.Fast.tw17514045243593974584:True:=trivial
theorem PySem.W.Fast.tw3714916509762431805:True:=trivial
theorem PySem.W.Fast.tw5355942932593381465:True:=trivial
theorem PySem.W.Fast.tw7278471285830796423:True:=trivial
theorem PySem.W.Fast.tw12386200849621788100:True:=trivial
theorem PySem.W.Fast.tw7146503518823763239:True:=trivial
theorem PySem.W.Fast.tw4781187958514857953:True:=trivial
theorem PySem.W.Fast.tw3461723043002048945:True:=trivial
theorem PySem.W.Fast.tw2963545979053158145:True:=trivial
theorem PySem.W.Fast.tw1783584653511553234:True:=trivial
theorem PySem.W.Fast.tw11162880965033215616:True:=trivial
theorem PySem.W.Fast.tw15233029315601594765:True:=trivial
theorem PySem.W.Fast.tw14945967777837686383:True:=trivial
theorem PySem.W.Fast.tw2971737898737989104:True:=trivial
theorem PySem.W.Fast.tw16351674846324015399:True:=trivial
theorem PySem.W.Fast.tw5388614935229304641:True:=trivial
theorem PySem.W.Fast.tw10643105740493326034:True:=trivial
theorem PySem.W.Fast.tw18337697174188318971:True:=trivial
theorem PySem.W.Fast.tw13678870039718825162:True:=trivial
theorem PySem.W.Fast.tw4914353226977509775:True:=trivial
theorem PySem.W.Fast.tw13966537610123897309:True:=trivial
theorem PySem.W.Fast.tw12957143237406530724:True:=trivial
theorem PySem.W.Fast.tw6498544368252591760:True:=trivial
theorem PySem.W.Fast.tw5225950374977082941:True:=trivial
theorem PySem.W.Fast.tw10006484796593055761:True:=trivial
theorem PySem.W.Fast.tw17938549709155836147:True:=trivial
theorem PySem.W.Fast.tw11422673884295523256:True:=trivial
theorem PySem.W.Fast.tw9234212503967498529:True:=trivial
theorem PySem.W.Fast.tw18223386048501646674:True:=trivial
theorem PySem.W.Fast.tw8493409038739396305:True:=trivial
theorem PySem.W.Fast.tw13415394758368069211:True:=trivial
theorem PySem.W.Fast.tw3283012160222298526:True:=trivial
theorem PySem.W.Fast.tw5305768733955017085:True:=trivial
theorem PySem.W.Fast.tw10402719929134551571:True:=trivial
theorem PySem.W.Fast.tw1208908328869409907:True:=trivial
theorem PySem.W.Fast.tw15712767833537242307:True:=trivial
theorem PySem.W.Fast.tw14691420588271830254:True:=trivial
theorem PySem.W.Fast.tw7936341182757368142:True:=trivial
theorem PySem.W.Fast.tw7911860526381822718:True:=trivial
theorem PySem.W.Fast.tw1133475851328637447:True:=trivial
theorem PySem.W.Fast.tw9177434518705245542:True:=trivial
theorem PySem.W.Fast.tw5734444199518497718:True:=trivial
theorem PySem.W.Fast.tw3603700621500690171:True:=trivial
theorem PySem.W.Fast.tw4102680872094389624:True:=trivial
theorem PySem.W.Fast.tw12550730350686171870:True:=trivial
theorem PySem.W.Fast.tw2712664401699259134:True:=trivial
theorem PySem.W.Fast.tw4512797954484217330:True:=trivial
theorem PySem.W.Fast.tw900072550820345841:True:=trivial
theorem PySem.W.Fast.tw904622563303167060:True:=trivial
theorem PySem.W.Fast.tw12405518802091088078:True:=trivial
theorem PySem.W.Fast.tw14234852550776077976:True:=trivial
theorem PySem.W.Fast.tw10068110045459003296:True:=trivial
theorem PySem.W.Fast.tw7011824748346252893:True:=trivial
theorem PySem.W.Fast.tw16878116987248890967:True:=trivial
theorem PySem.W.Fast.tw9095771021527074150:True:=trivial
theorem PySem.W.Fast.tw5006827005288275598:True:=trivial
theorem PySem.W.Fast.tw2803817596390920891:True:=trivial
theorem PySem.W.Fast.tw3264088679540194480:True:=trivial
theorem PySem.W.Fast.tw6342470199500738846:True:=trivial
theorem PySem.W.Fast.tw13597930205617712634:True:=trivial
theorem PySem.W.Fast.tw9395497537740575915:True:=trivial
theorem PySem.W.Fast.tw10376195127264379712:True:=trivial
theorem PySem.W.Fast.tw12439105839864684840:True:=trivial
theorem PySem.W.Fast.tw14388201031274537987:True:=trivial
theorem PySem.W.Fast.tw16664051313883034310:True:=trivial
theorem PySem.W.Fast.tw5211734972989512572:True:=trivial
theorem PySem.W.Fast.tw11728069833389428886:True:=trivial
theorem PySem.W.Fast.tw14530586595931270092:True:=trivial
theorem PySem.W.Fast.tw12060900615338317243:True:=trivial
theorem PySem.W.Fast.tw7497104200279778055:True:=trivial
theorem PySem.W.Fast.tw10241517762245282381:True:=trivial
theorem PySem.W.Fast.tw9886382144458952914:True:=trivial
theorem PySem.W.Fast.tw11567007342569696772:True:=trivial
theorem PySem.W.Fast.tw5028582343175647933:True:=trivial
theorem PySem.W.Fast.tw11437132483479432663:True:=trivial
theorem PySem.W.Fast.tw5747384650713561391:True:=trivial
theorem PySem.W.Fast.tw5527593689161696635:True:=trivial
theorem PySem.W.Fast.tw6417116867991683254:True:=trivial
theorem PySem.W.Fast.tw15951939635660568622:True:=trivial
theorem PySem.W.Fast.tw12062521311961545717:True:=trivial
theorem PySem.W.Fast.tw5736511527873863605:True:=trivial
theorem PySem.W.Fast.tw6616956748032785939:True:=trivial
theorem PySem.W.Fast.tw5740707516093955341:True:=trivial
theorem PySem.W.Fast.tw12135924907450876655:True:=trivial
theorem PySem.W.Fast.tw11448126736286779512:True:=trivial
theorem PySem.W.Fast.tw16556512579935771297:True:=trivial
theorem PySem.W.Fast.tw14697421358711432336:True:=trivial
theorem PySem.W.Fast.tw9077752179202142361:True:=trivial
theorem PySem.W.Fast.tw17604712464091507066:True:=trivial
theorem PySem.W.Fast.tw10300538269023288292:True:=trivial
theorem PySem.W.Fast.tw105788527361741913:True:=trivial
theorem PySem.W.Fast.tw12546439798466771174:True:=trivial
theorem PySem.W.Fast.tw12421194583027485124:True:=trivial
theorem PySem.W.Fast.tw6090612259938594440:True:=trivial
theorem PySem.W.Fast.tw15865652651531075206:True:=trivial
theorem PySem.W.Fast.tw9187190375274076615:True:=trivial
theorem PySem.W.Fast.tw8468238349365996661:True:=trivial
theorem PySem.W.Fast.tw6937729514271356315:True:=trivial
theorem PySem.W.Fast.tw13243491329029983982:True:=trivial
theorem PySem.W.Fast.tw7927724174092322805:True:=trivial
theorem PySem.W.Fast.tw1639829152161472321:True:=trivial
theorem PySem.W.Fast.tw1469470963807666898:True:=trivial
theorem PySem.W.Fast.tw10599150615582196855:True:=trivial
theorem PySem.W.Fast.tw5097765768864764002:True:=trivial
theorem PySem.W.Fast.tw14142888312952157125:True:=trivial
theorem PySem.W.Fast.tw17253210781490566013:True:=trivial
theorem PySem.W.Fast.tw12594198344321813083:True:=trivial
theorem PySem.W.Fast.tw4039025502526476040:True:=trivial
theorem PySem.W.Fast.tw18296320871031615135:True:=trivial
theorem PySem.W.Fast.tw4740453032091430866:True:=trivial
theorem PySem.W.Fast.tw14176057751136727005:True:=trivial
theorem PySem.W.Fast.tw1836220155661264372:True:=trivial
theorem PySem.W.Fast.tw1123543380135047084:True:=trivial
theorem PySem.W.Fast.tw7809382077525623027:True:=trivial
theorem PySem.W.Fast.tw8012867410280051718:True:=trivial
theorem PySem.W.Fast.tw11952410111967770269:True:=trivial
theorem PySem.W.Fast.tw15161318498646293627:True:=trivial
theorem PySem.W.Fast.tw5275122411843645508:True:=trivial
theorem PySem.W.Fast.tw9945122636306068331:True:=trivial
theorem PySem.W.Fast.tw14673726100507362155:True:=trivial
theorem PySem.W.Fast.tw3076602228588361753:True:=trivial
theorem PySem.W.Fast.tw9355958827165643436:True:=trivial
theorem PySem.W.Fast.tw11024477947995865644:True:=trivial
theorem PySem.W.Fast.tw1181300518680767131:True:=trivial
theorem PySem.W.Fast.tw15299494759255909013:True:=trivial
theorem PySem.W.Fast.tw3050083060288580666:True:=trivial
theorem PySem.W.Fast.tw17336221403342629820:True:=trivial
theorem PySem.W.Fast.tw15570729713839945175:True:=trivial
theorem PySem.W.Fast.tw11431213718069113964:True:=trivial
theorem PySem.W.Fast.tw8091767813885744631:True:=trivial
theorem PySem.W.Fast.tw17842035497361888575:True:=trivial
theorem PySem.W.Fast.tw6714601642035793494:True:=trivial
theorem PySem.W.Fast.tw10795552995285326617:True:=trivial
theorem PySem.W.Fast.tw10955049099347549101:True:=trivial
theorem PySem.W.Fast.tw8013681037648976179:True:=trivial
theorem PySem.W.Fast.tw11394296032386295288:True:=trivial
theorem PySem.W.Fast.tw8018481220528692504:True:=trivial
theorem PySem.W.Fast.tw9275017007658519888:True:=trivial
theorem PySem.W.Fast.tw15846376026282828536:True:=trivial
theorem PySem.W.Fast.tw16619290955158026603:True:=trivial
theorem PySem.W.Fast.tw1403256550920044553:True:=trivial
theorem PySem.W.Fast.tw13531739889171836543:True:=trivial
theorem PySem.W.Fast.tw13532455663434363410:True:=trivial
theorem PySem.W.Fast.tw72299499097433577:True:=trivial
theorem PySem.W.Fast.tw8477150439020917421:True:=trivial
theorem PySem.W.Fast.tw4578885925635619417:True:=trivial
theorem PySem.W.Fast.tw14405438865671629958:True:=trivial
theorem PySem.W.Fast.tw4544633770583281527:True:=trivial
theorem PySem.W.Fast.tw10266435597525733985:True:=trivial
theorem PySem.W.Fast.tw4431457487934279391:True:=trivial
theorem PySem.W.Fast.tw14448170712281074748:True:=trivial
theorem PySem.W.Fast.tw10020716028528725023:True:=trivial
theorem PySem.W.Fast.tw2154888811602083301:True:=trivial
theorem PySem.W.Fast.tw5482201582101334051:True:=trivial
theorem PySem.W.Fast.tw17389740898190356982:True:=trivial
theorem PySem.W.Fast.tw15248146121921327942:True:=trivial
theorem PySem.W.Fast.tw13846029899958560203:True:=trivial
theorem PySem.W.Fast.tw15225822973788954431:True:=trivial
theorem PySem.W.Fast.tw15650266028369710597:True:=trivial
theorem PySem.W.Fast.tw6445715246504292233:True:=trivial
theorem PySem.W.Fast.tw843033206960499162:True:=trivial
theorem PySem.W.Fast.tw4839951189750464936:True:=trivial
theorem PySem.W.Fast.tw886260615635676015:True:=trivial
theorem PySem.W.Fast.tw8740003775259544978:True:=trivial
theorem PySem.W.Fast.tw13658723439717932907:True:=trivial
theorem PySem.W.Fast.tw9977304688347724598:True:=trivial
theorem PySem.W.Fast.tw6498687503869857940:True:=trivial
theorem PySem.W.Fast.tw17434754487223370715:True:=trivial
theorem PySem.W.Fast.tw1120611835446309407:True:=trivial
theorem PySem.W.Fast.tw5971551706832416667:True:=trivial
theorem PySem.W.Fast.tw644386560231765950:True:=trivial
theorem PySem.W.Fast.tw12642972483248395448:True:=trivial
theorem PySem.W.Fast.tw3847488347807526526:True:=trivial
theorem PySem.W.Fast.tw6176696287826286174:True:=trivial
theorem PySem.W.Fast.tw13398587865221607972:True:=trivial
theorem PySem.W.Fast.tw8572863022681731914:True:=trivial
theorem PySem.W.Fast.tw17792002291661643299:True:=trivial
theorem PySem.W.Fast.tw16495324455588417234:True:=trivial
theorem PySem.W.Fast.tw16417361659422905350:True:=trivial
theorem PySem.W.Fast.tw1425713466977144464:True:=trivial
theorem PySem.W.Fast.tw12221462166918764885:True:=trivial
theorem PySem.W.Fast.tw5891375488187451618:True:=trivial
theorem PySem.W.Fast.tw10941054131017838316:True:=trivial
theorem PySem.W.Fast.tw3584593659572074905:True:=trivial
theorem PySem.W.Fast.tw17113367320739582155:True:=trivial
theorem PySem.W.Fast.tw17671026239147692630:True:=trivial
theorem PySem.W.Fast.tw11518396624352323086:True:=trivial
theorem PySem.W.Fast.tw3199920205206188479:True:=trivial
theorem PySem.W.Fast.tw6696935448698497823:True:=trivial
theorem PySem.W.Fast.tw10080210749373204175:True:=trivial
theorem PySem.W.Fast.tw11889694006533019022:True:=trivial
theorem PySem.W.Fast.tw879463362805881320:True:=trivial
theorem PySem.W.Fast.tw13232584741846628110:True:=trivial
theorem PySem.W.Fast.tw12696669882382922937:True:=trivial
theorem PySem.W.Fast.tw4707705091451110558:True:=trivial
theorem PySem.W.Fast.tw10390441666901453286:True:=trivial
theorem PySem.W.Fast.tw9722439663095801720:True:=trivial
theorem PySem.W.Fast.tw14181487830584017318:True:=trivial
theorem PySem.W.Fast.tw257696929190273303:True:=trivial
theorem PySem.W.Fast.tw16184301232347431922:True:=trivial
theorem PySem.W.Fast.tw9350239378687868295:True:=trivial
theorem PySem.W.Fast.tw3172322382583546198:True:=trivial
theorem PySem.W.Fast.tw6923358589663488765:True:=trivial
theorem PySem.W.Fast.tw4809324470725202771:True:=trivial
theorem PySem.W.Fast.tw15810511424537786244:True:=trivial
theorem PySem.W.Fast.tw17393489982177224034:True:=trivial
theorem PySem.W.Fast.tw16380408957474863118:True:=trivial
theorem PySem.W.Fast.tw18094669072053396719:True:=trivial
theorem PySem.W.Fast.tw2495506948655639097:True:=trivial
theorem PySem.W.Fast.tw14337804989858355171:True:=trivial
theorem PySem.W.Fast.tw3698671878389364402:True:=trivial
theorem PySem.W.Fast.tw1779428908104702743:True:=trivial
theorem PySem.W.Fast.tw12450978898532022138:True:=trivial
theorem PySem.W.Fast.tw5417972593992914295:True:=trivial
theorem PySem.W.Fast.tw5893760888400395929:True:=trivial
theorem PySem.W.Fast.tw13715416271734503227:True:=trivial
theorem PySem.W.Fast.tw11098301629628818254:True:=trivial
theorem PySem.W.Fast.tw18235866501448024991:True:=trivial
theorem PySem.W.Fast.tw3553450154643080248:True:=trivial
theorem PySem.W.Fast.tw8082442836378523201:True:=trivial
theorem PySem.W.Fast.tw5233439352005246392:True:=trivial
theorem PySem.W.Fast.tw3922748086300793886:True:=trivial
theorem PySem.W.Fast.tw17422150903874204301:True:=trivial
theorem PySem.W.Fast.tw14337235011500450967:True:=trivial
theorem PySem.W.Fast.tw8967746742266572535:True:=trivial
theorem PySem.W.Fast.tw13320799819096926479:True:=trivial
theorem PySem.W.Fast.tw5436298908494300929:True:=trivial
theorem PySem.W.Fast.tw1662298879992140466:True:=trivial
theorem PySem.W.Fast.tw15850856012341081808:True:=trivial
theorem PySem.W.Fast.tw2890225356030942830:True:=trivial
theorem PySem.W.Fast.tw5549637944397027704:True:=trivial
theorem PySem.W.Fast.tw14216120056169628412:True:=trivial
theorem PySem.W.Fast.tw15533850399933172537:True:=trivial
theorem PySem.W.Fast.tw3118267339592316867:True:=trivial
theorem PySem.W.Fast.tw4210386779940498651:True:=trivial
theorem PySem.W.Fast.tw8429379179525947764:True:=trivial
theorem PySem.W.Fast.tw7615572793979830714:True:=trivial
theorem PySem.W.Fast.tw5901483642377867670:True:=trivial
theorem PySem.W.Fast.tw14520103301437836108:True:=trivial
theorem PySem.W.Fast.tw1939854707768183871:True:=trivial
theorem PySem.W.Fast.tw17285058898470655485:True:=trivial
theorem PySem.W.Fast.tw6962364160226489481:True:=trivial
theorem PySem.W.Fast.tw5334198170179924966:True:=trivial
theorem PySem.W.Fast.tw9210875755319234185:True:=trivial
theorem PySem.W.Fast.tw3919691886336597513:True:=trivial
theorem PySem.W.Fast.tw4764564986459325331:True:=trivial
theorem PySem.W.Fast.tw17348555850525277923:True:=trivial
theorem PySem.W.Fast.tw1208766200115451126:True:=trivial
theorem PySem.W.Fast.tw16599521439710752430:True:=trivial
theorem PySem.W.Fast.tw12738614142969696032:True:=trivial
theorem PySem.W.Fast.tw11501667576791343883:True:=trivial
theorem PySem.W.Fast.tw6652430771615746428:True:=trivial
theorem PySem.W.Fast.tw8526512461461964335:True:=trivial
theorem PySem.W.Fast.tw5691647300177129434:True:=trivial
theorem PySem.W.Fast.tw2453161298736584052:True:=trivial
theorem PySem.W.Fast.tw12310098200192783706:True:=trivial
theorem PySem.W.Fast.tw16851431738672151613:True:=trivial
theorem PySem.W.Fast.tw4355223239939832221:True:=trivial
theorem PySem.W.Fast.tw16693043623511456761:True:=trivial
theorem PySem.W.Fast.tw14560065826244640328:True:=trivial
theorem PySem.W.Fast.tw7413366068788541778:True:=trivial
theorem PySem.W.Fast.tw5612416126348066933:True:=trivial
theorem PySem.W.Fast.tw13349961471735153152:True:=trivial
theorem PySem.W.Fast.tw9557734554724944982:True:=trivial
theorem PySem.W.Fast.tw8359308388363612554:True:=trivial
theorem PySem.W.Fast.tw13013512260554961741:True:=trivial
theorem PySem.W.Fast.tw11094693007466204102:True:=trivial
theorem PySem.W.Fast.tw111002659610108518:True:=trivial
theorem PySem.W.Fast.tw5200763110686419699:True:=trivial
theorem PySem.W.Fast.tw7980087130752237899:True:=trivial
theorem PySem.W.Fast.tw4496000437611521296:True:=trivial
theorem PySem.W.Fast.tw17873912114419965167:True:=trivial
theorem PySem.W.Fast.tw7087227659010969330:True:=trivial
theorem PySem.W.Fast.tw2388859878053350:True:=trivial
theorem PySem.W.Fast.tw1228641987938462898:True:=trivial
theorem PySem.W.Fast.tw400372147820817258:True:=trivial
theorem PySem.W.Fast.tw8323388913998223219:True:=trivial
theorem PySem.W.Fast.tw2831720814655163861:True:=trivial
theorem PySem.W.Fast.tw10170180382491196590:True:=trivial
theorem PySem.W.Fast.tw17147687909272593245:True:=trivial
theorem PySem.W.Fast.tw16979766785597346283:True:=trivial
theorem PySem.W.Fast.tw15713260439342196248:True:=trivial
theorem PySem.W.Fast.tw17422871132434626679:True:=trivial
theorem PySem.W.Fast.tw14352127140733419521:True:=trivial
theorem PySem.W.Fast.tw6980882725864005943:True:=trivial
theorem PySem.W.Fast.tw4514635181772372636:True:=trivial
theorem PySem.W.Fast.tw1982071712436499653:True:=trivial
theorem PySem.W.Fast.tw3423840084310420606:True:=trivial
theorem PySem.W.Fast.tw5955797405853653618:True:=trivial
theorem PySem.W.Fast.tw14650810235999176339:True:=trivial
theorem PySem.W.Fast.tw4375979974363123441:True:=trivial
theorem PySem.W.Fast.tw11601177221986262596:True:=trivial
theorem PySem.W.Fast.tw8677515569109319942:True:=trivial
theorem PySem.W.Fast.tw2847492786406766506:True:=trivial
theorem PySem.W.Fast.tw1785839837934903019:True:=trivial
theorem PySem.W.Fast.tw8179635661869235683:True:=trivial
theorem PySem.W.Fast.tw17500689621092158251:True:=trivial
theorem PySem.W.Fast.tw5023658642165412997:True:=trivial
theorem PySem.W.Fast.tw4216185536100409581:True:=trivial
theorem PySem.W.Fast.tw9794707321575241665:True:=trivial
theorem PySem.W.Fast.tw6468434357285906311:True:=trivial
theorem PySem.W.Fast.tw9737849646458641313:True:=trivial
theorem PySem.W.Fast.tw5977471561229000234:True:=trivial
theorem PySem.W.Fast.tw15413700517414056452:True:=trivial
theorem PySem.W.Fast.tw5334323462879198156:True:=trivial
theorem PySem.W.Fast.tw9401398498638167151:True:=trivial
theorem PySem.W.Fast.tw2694851500196522845:True:=trivial
theorem PySem.W.Fast.tw2955670041167677126:True:=trivial
theorem PySem.W.Fast.tw16053924258921458194:True:=trivial
theorem PySem.W.Fast.tw7839197142615787986:True:=trivial
theorem PySem.W.Fast.tw15016495198710190136:True:=trivial
theorem PySem.W.Fast.tw13475464632836827369:True:=trivial
theorem PySem.W.Fast.tw15884874697237739214:True:=trivial
theorem PySem.W.Fast.tw16660776875639698352:True:=trivial
theorem PySem.W.Fast.tw12023796686710459384:True:=trivial
theorem PySem.W.Fast.tw13282058288466839627:True:=trivial
theorem PySem.W.Fast.tw3920652908188231847:True:=trivial
theorem PySem.W.Fast.tw4214649212824969318:True:=trivial
theorem PySem.W.Fast.tw9297161033687679329:True:=trivial
theorem PySem.W.Fast.tw12243091065355769954:True:=trivial
theorem PySem.W.Fast.tw12190224059323855668:True:=trivial
theorem PySem.W.Fast.tw7258256534542798208:True:=trivial
theorem PySem.W.Fast.tw11565275200574073602:True:=trivial
theorem PySem.W.Fast.tw13705055436026167144:True:=trivial
theorem PySem.W.Fast.tw13724129656917469721:True:=trivial
theorem PySem.W.Fast.tw11160622164439789188:True:=trivial
theorem PySem.W.Fast.tw3498208851129438768:True:=trivial
theorem PySem.W.Fast.tw7578266795934331322:True:=trivial
theorem PySem.W.Fast.tw10750269182301979886:True:=trivial
theorem PySem.W.Fast.tw2324579517857449901:True:=trivial
theorem PySem.W.Fast.tw2343422879205233287:True:=trivial
theorem PySem.W.Fast.tw2352926959007618793:True:=trivial
theorem PySem.W.Fast.tw7046642308481928963:True:=trivial
theorem PySem.W.Fast.tw14931738021637640182:True:=trivial
theorem PySem.W.Fast.tw4912704431165620518:True:=trivial
theorem PySem.W.Fast.tw17429388269692653118:True:=trivial
theorem PySem.W.Fast.tw10726280986014222795:True:=trivial
theorem PySem.W.Fast.tw12753381405288042592:True:=trivial
theorem PySem.W.Fast.tw16160666984835962919:True:=trivial
theorem PySem.W.Fast.tw8860032657385511973:True:=trivial
theorem PySem.W.Fast.tw8622983513136753350:True:=trivial
theorem PySem.W.Fast.tw15432738830864400276:True:=trivial
theorem PySem.W.Fast.tw9132395074105216233:True:=trivial
theorem PySem.W.Fast.tw9276032424829149546:True:=trivial
theorem PySem.W.Fast.tw17105984750036443638:True:=trivial
theorem PySem.W.Fast.tw17270103270823322045:True:=trivial
theorem PySem.W.Fast.tw12388472939312764692:True:=trivial
theorem PySem.W.Fast.tw4810576648212286557:True:=trivial
theorem PySem.W.Fast.tw6554643207147909326:True:=trivial
theorem PySem.W.Fast.tw5384568181174502312:True:=trivial
namespace Lw
open L3 PySem
def tbT:List Str:=[]
def zOS:List (Str×List Str):=[]
def gU:D:=(.tup [(.int 0),(.int 1)])
def d_ACROSS:D:=(.int 0)
def d_UP:D:=(.int 1)
def aW:List (Str×Str):=[("row", "back"),("back", "row"),("even", "lack"),("lack", "even"),("part", "part"),("half", "half")]
def d_WEIGHTED:D:=(.tup [(.str "even"),(.str "lack")])
def d_HALF:D:=(.tup [(.int 1),(.int 2)])
abbrev oX:Sv:=(dI 1 (aJ 2))
abbrev oM:Sv:=(bF (dI 0 (aJ 1)) oX)
abbrev pD:Sv:=(bF (dI 2 (eOp zBp (aJ 0) (aJ 1))) oM)
abbrev oO:Sv:=(gX (aJ 0))
abbrev pE:Sv:=(bF (eT (dW (eOp oNe (aJ 1) (eC (.int 0)))) pD) oO)
abbrev nS:Sv:=(bF (dI 1 (eB zIT (aE (aJ 1) aNil))) pE)
def cY:Mir:=fn 2 3 (bF (dI 0 (eB zIT (aE (aJ 0) aNil))) nS)
def bV:Mir:=fn 1 1 (gX (wG (aE (aJ 0) (aE (eC (.int 1)) aNil))))
def jN:Mir:=fn 2 2 (gX (eOp oLt (eOp oJ (eOp oIx (aJ 0) (eC (.int 0))) (eOp oIx (aJ 1) (eC (.int 1)))) (eOp oJ (eOp oIx (aJ 1) (eC (.int 0))) (eOp oIx (aJ 0) (eC (.int 1))))))
abbrev vX:Sv:=(dI 1 (eOp oJ (aJ 1) (eOp oIx (aJ 2) (eC (.int 1)))))
abbrev zAj:Sv:=(dI 1 (eC (.int 1)))
abbrev tV:Sv:=(rD (rL (aJ 0)) (gName 2) vX)
def iM:List D->Res (List Int):=xU zAj tV
def dO:Mir:=fn 1 1 (sIf (dW (eUn (pH aW) (aJ 0))) (kD "BadWay" (aE (eC (.str "no such way")) aNil)) sNext)
abbrev pG:Sv:=(sIf (dW (eOp oLt (aJ 1) (eC (.int 0)))) (kD "BadClaim" (aE (eC (.str "a claim is below nought")) aNil)) sNext)
abbrev pI:Sv:=(rD (rL (aJ 0)) (gName 1) pG)
def dM:Mir:=fn 1 2 (bF (sIf (dW (eOp oEq (eB kM (aE (aJ 0) aNil)) (eC (.int 0)))) (kD "BadClaim" (aE (eC (.str "there is no claim")) aNil)) sNext) pI)
abbrev oA:Sv:=(sIf (zCt (dW (eOp oLt (aJ 4) (eC (.int 1)))) (dW (eOp oGt (aJ 4) (eOp zJP (eC (.int 10)) (eC (.int 6)))))) (kD "BadWeights" (aE (eC (.str "a weight is not from 1 to 10 ** 6")) aNil)) sNext)
abbrev oC:Sv:=(rD (rL (aJ 1)) (gName 4) oA)
abbrev nY:Sv:=(bF (sIf (dW (eOp oNe (eB kM (aE (aJ 1) aNil)) (aJ 3))) (kD "BadWeights" (aE (eC (.str "more or fewer weights than are due")) aNil)) sNext) oC)
def bN:Mir:=fn 3 5 (bF (dI 3 (eIf (dW (eOp oIn (aJ 0) (eC d_WEIGHTED))) (aJ 2) (eC (.int 0)))) nY)
abbrev sJ:Sv:=(gX (eC (.int 0)))
def dR:Mir:=fn 2 2 (bF (sIf (dW (eOp oLt (aJ 1) (eB kM (aE (aJ 0) aNil)))) (gX (eOp oIx (aJ 0) (aJ 1))) sNext) sJ)
abbrev zAy:Sv:=(dI 3 (aJ 4))
abbrev zAc:Sv:=(bF (dI 2 (aJ 3)) zAy)
abbrev zAe:Sv:=(bF (dI 4 (eOp zBp (aJ 2) (aJ 3))) zAc)
abbrev zAs:Sv:=(gX (wG (aE (eOp zCG (aJ 0) (aJ 2)) (aE (eOp zCG (aJ 1) (aJ 2)) aNil))))
abbrev qH:Sv:=(bF (sIf (dW (eOp oLt (aJ 1) (eC (.int 0)))) (dI 2 (eOp sQ (eC (.int 0)) (aJ 2))) sNext) zAs)
abbrev zAz:Sv:=(bF (eT (dW (eOp oGt (aJ 3) (eC (.int 0)))) zAe) qH)
abbrev zAH:Sv:=(bF (dI 3 (eB zIT (aE (aJ 1) aNil))) zAz)
def cH:Mir:=fn 2 5 (bF (dI 2 (eB zIT (aE (aJ 0) aNil))) zAH)
def dD:Mir:=fn 2 2 (gX (eOp oLt (eOp oJ (eOp oIx (aJ 0) (eC (.int 0))) (eOp oIx (aJ 1) (eC (.int 1)))) (eOp oJ (eOp oIx (aJ 1) (eC (.int 0))) (eOp oIx (aJ 0) (eC (.int 1))))))
abbrev uP:Sv:=(zDF 2 (eOp oIx (eF (tY (aE (eOp zBp (eOp zCG (aJ 4) (eC (.int 7))) (eC (.int 13))) (aE (eOp zBp (eOp zCG (aJ 4) (eC (.int 97))) (eC (.int 4))) (aE (eOp zBp (aJ 3) (eOp zJP (eC (.int 10)) (eC (.int 30)))) aNil))))) (eOp oIx (eF (tY (aE (eC (.int 0)) (aE (eC (.int 0)) (aE (eC (.int 1)) (aE (eC (.int 2)) aNil)))))) (eOp zBp (aJ 1) (eC (.int 4))))))
abbrev uH:Sv:=(bF (dI 4 (eOp zBp (eOp zDN (eOp oJ (aJ 3) (eC (.int 48271))) (eC (.int 17))) (eC (.int 2147483647)))) uP)
abbrev mC:Sv:=(gH 2)
abbrev vB:Sv:=(bF (rD (rL (aJ 0)) (gName 3) uH) mC)
def fX:Mir:=fn 2 5 (bF (zEh 2 (tY aNil)) vB)
abbrev sS:Sv:=(zDF 2 (eOp zDN (eC (.int 1)) (eOp oIx (eF (tY (aE (eOp zBp (eOp zCG (aJ 4) (eC (.int 7))) (eC (.int 5))) (aE (eOp zBp (eOp zCG (aJ 4) (eC (.int 13))) (eOp zJP (eC (.int 10)) (eC (.int 6)))) aNil)))) (eOp zCG (eOp zBp (eOp zCG (aJ 1) (eC (.int 4))) (eC (.int 3))) (eC (.int 2))))))
abbrev sF:Sv:=(bF (dI 4 (eOp zBp (eOp zDN (eOp oJ (aJ 3) (eC (.int 69697))) (eC (.int 19))) (eC (.int 2147483647)))) sS)
abbrev lN:Sv:=(gH 2)
abbrev rR:Sv:=(bF (rD (rL (aJ 0)) (gName 3) sF) lN)
def eZ:Mir:=fn 2 5 (bF (zEh 2 (tY aNil)) rR)
abbrev zHe:Sv:=(gX (wG (aE (eOp zCG (aJ 0) (aJ 2)) (aE (eOp zCG (aJ 1) (aJ 2)) aNil))))
abbrev zGY:Sv:=(bF (sIf (dW (eOp oLt (aJ 1) (eC (.int 0)))) (dI 2 (eUn zHA (aJ 2))) sNext) zHe)
abbrev zGS:Sv:=(bF (dI 2 (aV cY (aE (aJ 0) (aE (aJ 1) aNil)))) zGY)
def iH:Mir:=fn 2 3 (bF (sIf (dW (eOp oEq (aJ 1) (eC (.int 0)))) (kD "NoFraction" (aE (eC (.str "the bottom is nought")) aNil)) sNext) zGS)
def jY:Mir:=fn 2 2 (gX (eIf (dW (aV jN (aE (aJ 0) (aE (aJ 1) aNil)))) (aJ 0) (aJ 1)))
abbrev sR:Sv:=(sIf (dW (aV jN (aE (eOp oIx (aJ 3) (eC d_UP)) (aE (eOp oIx (aJ 2) (eC d_UP)) aNil)))) (kD "BadLine" (aE (eC (.str "a y is less than the one ahead")) aNil)) sNext)
abbrev uU:Sv:=(bF (sIf (kN (dW (aV jN (aE (eOp oIx (aJ 2) (eC d_ACROSS)) (aE (eOp oIx (aJ 3) (eC d_ACROSS)) aNil))))) (kD "BadLine" (aE (eC (.str "an x is not greater than the one ahead")) aNil)) sNext) sR)
abbrev uR:Sv:=(bF (dI 3 (eOp oIx (aJ 0) (aJ 1))) uU)
abbrev uI:Sv:=(bF (dI 2 (eOp oIx (aJ 0) (eOp sQ (aJ 1) (eC (.int 1))))) uR)
abbrev uY:Sv:=(rD (zBg (aE (eC (.int 1)) (aE (eB kM (aE (aJ 0) aNil)) aNil))) (gName 1) uI)
abbrev uO:Sv:=(bF (sIf (dW (eOp oNe (eOp oIx (aJ 0) (eC (.int 0))) (wG (aE (eC gU) (aE (eC gU) aNil))))) (kD "BadLine" (aE (eC (.str "the first point is not nought and nought")) aNil)) sNext) uY)
def gE:Mir:=fn 1 4 (bF (sIf (dW (eOp oEq (eB kM (aE (aJ 0) aNil)) (eC (.int 0)))) (kD "BadLine" (aE (eC (.str "a line has a point")) aNil)) sNext) uO)
abbrev zDZ:Sv:=(zAO (aV bN (aE (aJ 0) (aE (aJ 1) (aE (eB kM (aE (aJ 2) aNil)) aNil)))))
abbrev zDK:Sv:=(bF (zAO (aV dM (aE (aJ 2) aNil))) zDZ)
def nT:Mir:=fn 3 3 (bF (zAO (aV dO (aE (aJ 0) aNil))) zDK)
abbrev qY:Sv:=(gX (eUn (tR aW) (aJ 0)))
def dF:Mir:=fn 1 1 (bF (zAO (aV dO (aE (aJ 0) aNil))) qY)
abbrev vG:Sv:=(zDF 2 (aV bV (aE (aJ 1) aNil)))
abbrev mH:Sv:=(bF (zIm 1 zCi (aJ 3)) vG)
abbrev vL:Sv:=(gH 2)
abbrev uG:Sv:=(bF (rD (rL (aJ 0)) (gName 3) mH) vL)
abbrev uF:Sv:=(bF (zEh 2 (tY (aE (eC gU) aNil))) uG)
def eM:Mir:=fn 1 4 (bF (dI 1 (eC (.int 0))) uF)
abbrev hJ:Sv:=(sIf (tFrzB (dW (aV jN (aE (eOp oIx (aJ 1) (eUn zHA (eC (.int 1)))) (aE (aJ 2) aNil))))) (zDF 1 (aJ 2)) sNext)
abbrev nM:Sv:=(gH 1)
abbrev nO:Sv:=(bF (rD (rL (aJ 0)) (gName 2) hJ) nM)
def cP:Mir:=fn 1 3 (bF (zEh 1 (fSl (aJ 0) oN (oS (eC (.int 1))))) nO)
def dQ:Mir:=fn 2 2 (gX (aV cH (aE (eOp zDN (eOp oJ (eOp oIx (aJ 0) (eC (.int 0))) (eOp oIx (aJ 1) (eC (.int 1)))) (eOp oJ (eOp oIx (aJ 1) (eC (.int 0))) (eOp oIx (aJ 0) (eC (.int 1))))) (aE (eOp oJ (eOp oIx (aJ 0) (eC (.int 1))) (eOp oIx (aJ 1) (eC (.int 1)))) aNil))))
def bY:Mir:=fn 2 2 (gX (aV cH (aE (eOp sQ (eOp oJ (eOp oIx (aJ 0) (eC (.int 0))) (eOp oIx (aJ 1) (eC (.int 1)))) (eOp oJ (eOp oIx (aJ 1) (eC (.int 0))) (eOp oIx (aJ 0) (eC (.int 1))))) (aE (eOp oJ (eOp oIx (aJ 0) (eC (.int 1))) (eOp oIx (aJ 1) (eC (.int 1)))) aNil))))
def bP:Mir:=fn 2 2 (gX (aV cH (aE (eOp oJ (eOp oIx (aJ 0) (eC (.int 0))) (eOp oIx (aJ 1) (eC (.int 0)))) (aE (eOp oJ (eOp oIx (aJ 0) (eC (.int 1))) (eOp oIx (aJ 1) (eC (.int 1)))) aNil))))
abbrev nI:Sv:=(sIf (zCt (kN (dW (zHd "int" (aJ 1)))) (dW (zHd "bool" (aJ 1)))) (gX (eC (.bl false))) sNext)
abbrev nE:Sv:=(gX (zLR (eOp oGt (eOp oIx (aJ 0) (eC (.int 1))) (eC (.int 0))) (eOp oEq (aV cH (aE (eOp oIx (aJ 0) (eC (.int 0))) (aE (eOp oIx (aJ 0) (eC (.int 1))) aNil))) (aJ 0))))
abbrev mW:Sv:=(bF (rD (rL (aJ 0)) (gName 1) nI) nE)
def cE:Mir:=fn 1 2 (bF (sIf (zCt (kN (dW (zHd "tuple" (aJ 0)))) (dW (eOp oNe (eB kM (aE (aJ 0) aNil)) (eC (.int 2))))) (gX (eC (.bl false))) sNext) mW)
abbrev zBw:Sv:=(gX (aJ 0))
def lR:Mir:=fn 2 2 (bF (sIf (dW (aV dD (aE (aJ 1) (aE (aJ 0) aNil)))) (gX (aJ 1)) sNext) zBw)
abbrev vV:Sv:=(sIf (tFrzB (dW (eOp tN (aJ 5) (aJ 2)))) (zDF 2 (aJ 5)) sNext)
abbrev vW:Sv:=(bF (dI 5 (aV cH (aE (aJ 4) (aE (aJ 3) aNil)))) vV)
abbrev mD:Sv:=(gH 2)
abbrev vU:Sv:=(bF (rD (zHf (aE (aJ 0) (aE (aJ 1) aNil))) (zHp (rA (gName 3) (rA (gName 4) zHy))) vW) mD)
def fV:Mir:=fn 2 6 (bF (zEh 2 (tY (aE (wG (aE (eC (.int 0)) (aE (eC (.int 1)) aNil))) aNil))) vU)
def mE:Mir:=fn 2 2 (gX (aV iH (aE (eOp zDN (eOp oJ (eOp oIx (aJ 0) (eC (.int 0))) (eOp oIx (aJ 1) (eC (.int 1)))) (eOp oJ (eOp oIx (aJ 1) (eC (.int 0))) (eOp oIx (aJ 0) (eC (.int 1))))) (aE (eOp oJ (eOp oIx (aJ 0) (eC (.int 1))) (eOp oIx (aJ 1) (eC (.int 1)))) aNil))))
def cN:Mir:=fn 2 2 (gX (aV iH (aE (eOp sQ (eOp oJ (eOp oIx (aJ 0) (eC (.int 0))) (eOp oIx (aJ 1) (eC (.int 1)))) (eOp oJ (eOp oIx (aJ 1) (eC (.int 0))) (eOp oIx (aJ 0) (eC (.int 1))))) (aE (eOp oJ (eOp oIx (aJ 0) (eC (.int 1))) (eOp oIx (aJ 1) (eC (.int 1)))) aNil))))
def dL:Mir:=fn 2 2 (gX (aV iH (aE (eOp oJ (eOp oIx (aJ 0) (eC (.int 0))) (eOp oIx (aJ 1) (eC (.int 0)))) (aE (eOp oJ (eOp oIx (aJ 0) (eC (.int 1))) (eOp oIx (aJ 1) (eC (.int 1)))) aNil))))
def sK:Mir:=fn 2 2 (gX (aV iH (aE (eOp oJ (eOp oIx (aJ 0) (eC (.int 0))) (eOp oIx (aJ 1) (eC (.int 1)))) (aE (eOp oJ (eOp oIx (aJ 0) (eC (.int 1))) (eOp oIx (aJ 1) (eC (.int 0)))) aNil))))
def dJ:Mir:=fn 2 2 (jW (qM (zHf (aE (aJ 1) (aE (aJ 0) aNil))) (aV iH (aE (aJ 2) (aE (aJ 3) aNil)))))
abbrev uB:Sv:=(dI 3 (eOp oEq (aV bP (aE (aJ 5) (aE (aJ 6) aNil))) (aV bP (aE (aJ 7) (aE (aJ 4) aNil)))))
abbrev vH:Sv:=(bF (dI 7 (aV bY (aE (eOp oIx (eOp oIx (aJ 0) (eOp zDN (aJ 2) (eC (.int 1)))) (eC (.int 1))) (aE (eOp oIx (eOp oIx (aJ 0) (aJ 2)) (eC (.int 1))) aNil)))) uB)
abbrev tZ:Sv:=(bF (dI 6 (aV bY (aE (eOp oIx (eOp oIx (aJ 0) (eOp zDN (aJ 2) (eC (.int 1)))) (eC (.int 0))) (aE (eOp oIx (eOp oIx (aJ 0) (aJ 2)) (eC (.int 0))) aNil)))) vH)
abbrev vM:Sv:=(bF (dI 5 (aV bY (aE (eOp oIx (eOp oIx (aJ 0) (aJ 2)) (eC (.int 1))) (aE (eOp oIx (eOp oIx (aJ 0) (eOp sQ (aJ 2) (eC (.int 1)))) (eC (.int 1))) aNil)))) tZ)
abbrev eV:Sv:=(sIf (kN (dW (aJ 3))) (zDF 1 (eOp oIx (aJ 0) (aJ 2))) sNext)
abbrev uE:Sv:=(bF (sIf (dW (eOp oLt (eOp zDN (aJ 2) (eC (.int 1))) (eB kM (aE (aJ 0) aNil)))) (bF (dI 4 (aV bY (aE (eOp oIx (eOp oIx (aJ 0) (aJ 2)) (eC (.int 0))) (aE (eOp oIx (eOp oIx (aJ 0) (eOp sQ (aJ 2) (eC (.int 1)))) (eC (.int 0))) aNil)))) vM) sNext) eV)
abbrev uM:Sv:=(bF (dI 3 (eC (.bl false))) uE)
abbrev tI:Sv:=(gX (eB zIi (aE (aJ 1) aNil)))
abbrev vN:Sv:=(bF (rD (zBg (aE (eC (.int 1)) (aE (eB kM (aE (aJ 0) aNil)) aNil))) (gName 2) uM) tI)
def fY:Mir:=fn 1 8 (bF (zEh 1 (tY (aE (eOp oIx (aJ 0) (eC (.int 0))) aNil))) vN)
abbrev yH:Sv:=(gX (aV dQ (aE (eOp oIx (eOp oIx (aJ 0) (eOp sQ (aJ 2) (eC (.int 1)))) (eC (.int 1))) (aE (aV bP (aE (aJ 5) (aE (aJ 4) aNil))) aNil))))
abbrev xH:Sv:=(bF (dI 5 (aV bP (aE (aV bY (aE (aJ 1) (aE (eOp oIx (eOp oIx (aJ 0) (eOp sQ (aJ 2) (eC (.int 1)))) (eC (.int 0))) aNil))) (aE (wG (aE (eOp oIx (aJ 3) (eC (.int 1))) (aE (eOp oIx (aJ 3) (eC (.int 0))) aNil))) aNil)))) yH)
abbrev yM:Sv:=(bF (dI 4 (aV bY (aE (eOp oIx (eOp oIx (aJ 0) (aJ 2)) (eC (.int 1))) (aE (eOp oIx (eOp oIx (aJ 0) (eOp sQ (aJ 2) (eC (.int 1)))) (eC (.int 1))) aNil)))) xH)
abbrev yK:Sv:=(sIf (zEa (dW (eOp oGt (aJ 2) (eC (.int 0)))) (dW (aV dD (aE (aJ 1) (aE (eOp oIx (eOp oIx (aJ 0) (aJ 2)) (eC (.int 0))) aNil))))) (bF (dI 3 (aV bY (aE (eOp oIx (eOp oIx (aJ 0) (aJ 2)) (eC (.int 0))) (aE (eOp oIx (eOp oIx (aJ 0) (eOp sQ (aJ 2) (eC (.int 1)))) (eC (.int 0))) aNil)))) yM) sNext)
abbrev xN:Sv:=(bF (sIf (dW (eOp oEq (eOp oIx (eOp oIx (aJ 0) (aJ 2)) (eC (.int 0))) (aJ 1))) (gX (eOp oIx (eOp oIx (aJ 0) (aJ 2)) (eC (.int 1)))) sNext) yK)
abbrev yO:Sv:=(gX (eOp oIx (eOp oIx (aJ 0) (eUn zHA (eC (.int 1)))) (eC (.int 1))))
def fP:Mir:=fn 2 6 (bF (rD (zBd (aE (eB kM (aE (aJ 0) aNil)) aNil)) (gName 2) xN) yO)
abbrev yC:Sv:=(dI 1 (aV dQ (aE (aJ 1) (aE (aJ 2) aNil))))
abbrev oI:Sv:=(gX (aJ 1))
abbrev yN:Sv:=(bF (rD (rL (aJ 0)) (gName 2) yC) oI)
def dZ:Mir:=fn 1 3 (bF (dI 1 (wG (aE (eC (.int 0)) (aE (eC (.int 1)) aNil)))) yN)
def dU:Mir:=fn 3 3 (jW (qM (zHf (aE (aJ 0) (aE (aJ 1) aNil))) (aV lR (aE (wG (aE (aJ 4) (aE (eC (.int 1)) aNil))) (aE (aV bP (aE (wG (aE (aJ 3) (aE (eC (.int 1)) aNil))) (aE (aJ 2) aNil))) aNil)))))
abbrev uQ:Sv:=(gX (eOp oEq (aV dL (aE (aJ 3) (aE (aJ 6) aNil))) (aV dL (aE (aJ 4) (aE (aJ 5) aNil)))))
abbrev uD:Sv:=(bF (dI 6 (aV cN (aE (eOp oIx (aJ 2) (eC d_ACROSS)) (aE (eOp oIx (aJ 1) (eC d_ACROSS)) aNil)))) uQ)
abbrev vP:Sv:=(bF (dI 5 (aV cN (aE (eOp oIx (aJ 1) (eC d_ACROSS)) (aE (eOp oIx (aJ 0) (eC d_ACROSS)) aNil)))) uD)
abbrev uJ:Sv:=(bF (dI 4 (aV cN (aE (eOp oIx (aJ 2) (eC d_UP)) (aE (eOp oIx (aJ 1) (eC d_UP)) aNil)))) vP)
def gC:Mir:=fn 3 7 (bF (dI 3 (aV cN (aE (eOp oIx (aJ 1) (eC d_UP)) (aE (eOp oIx (aJ 0) (eC d_UP)) aNil)))) uJ)
abbrev zEe:Sv:=(gX (eB zIi (aE (eF (lC (zMI (aJ 0)) lZ (wG (aE (aV cN (aE (eOp oIx (aJ 1) (eC d_ACROSS)) (aE (eOp oIx (aJ 2) (eC d_ACROSS)) aNil))) (aE (aV cN (aE (eOp oIx (aJ 1) (eC d_UP)) (aE (eOp oIx (aJ 2) (eC d_UP)) aNil))) aNil))))) aNil)))
def lW:Mir:=fn 1 2 (bF (dI 1 (eOp oIx (aJ 0) (eUn zHA (eC (.int 1))))) zEe)
abbrev xZ:Sv:=(dI 2 (aV cN (aE (aJ 2) (aE (aJ 5) aNil))))
abbrev zD:Sv:=(bF (zDF 3 (aJ 5)) xZ)
abbrev oF:Sv:=(bF (dI 5 (aV jY (aE (aJ 2) (aE (aV bV (aE (aJ 4) aNil)) aNil)))) zD)
abbrev yD:Sv:=(gH 3)
abbrev wP:Sv:=(bF (rD (rL (aJ 0)) (gName 4) oF) yD)
abbrev zI:Sv:=(bF (zEh 3 (tY aNil)) wP)
def fN:Mir:=fn 2 6 (bF (dI 2 (aJ 1)) zI)
abbrev vJ:Sv:=(zIm 4 sQ (eOp oIx (aJ 0) (aJ 6)))
abbrev vA:Sv:=(bF (dI 3 (zMK (aV cN (aE (aJ 3) (aE (eOp oIx (aJ 5) (aJ 6)) aNil))))) vJ)
abbrev uZ:Sv:=(bF (zMQ 5 (aJ 6) (aV jY (aE (aJ 7) (aE (aV bV (aE (eOp oIx (aJ 1) (aJ 6)) aNil)) aNil)))) vA)
abbrev bT:Sv:=(bF (dI 7 (aV sK (aE (aV dL (aE (aJ 3) (aE (aV bV (aE (eOp oIx (aJ 0) (aJ 6)) aNil)) aNil))) (aE (aV bV (aE (aJ 4) aNil)) aNil)))) uZ)
abbrev jE:Sv:=(gH 5)
abbrev mB:Sv:=(zES (aE (eF (fB dJ (aE (aJ 0) (aE (aJ 1) aNil)))) aNil) iM (gName 6) bT jE)
abbrev uX:Sv:=(bF (zEh 5 (zIY (tY (aE (eC gU) aNil)) (eB kM (aE (aJ 1) aNil)))) mB)
abbrev vI:Sv:=(bF (dI 4 (eB zBR (aE (aJ 0) aNil))) uX)
def cQ:Mir:=fn 3 8 (bF (dI 3 (aJ 2)) vI)
abbrev vQ:Sv:=(jW (lC (rL (aJ 0)) lZ (aV dL (aE (aJ 3) (aE (aV bV (aE (aJ 4) aNil)) aNil)))))
abbrev uA:Sv:=(bF (dI 3 (aV sK (aE (aJ 1) (aE (aV bV (aE (aJ 2) aNil)) aNil)))) vQ)
abbrev vT:Sv:=(bF (sIf (dW (eOp oEq (aJ 2) (eC (.int 0)))) (jW (zIY (tY (aE (eC gU) aNil)) (eB kM (aE (aJ 0) aNil)))) sNext) uA)
def eK:Mir:=fn 2 4 (bF (dI 2 (eB zBR (aE (aJ 0) aNil))) vT)
abbrev tW:Sv:=(zIm 3 sQ (eOp oIx (aJ 0) (aJ 6)))
abbrev rY:Sv:=(bF (zIm 2 zCi (eOp oIx (aJ 1) (aJ 6))) tW)
abbrev eU:Sv:=(bF (zDF 5 (aV mE (aE (aV bV (aE (aJ 2) aNil)) (aE (aV dL (aE (eOp oIx (aJ 4) (aJ 6)) (aE (aV bV (aE (aJ 3) aNil)) aNil))) aNil)))) rY)
abbrev lE:Sv:=(gH 5)
abbrev kZ:Sv:=(zES (aE (aJ 4) aNil) iM (gName 6) eU lE)
abbrev rX:Sv:=(bF (zEh 5 (tY (aE (eC gU) aNil))) kZ)
abbrev tX:Sv:=(bF (dI 4 (eF (fB dJ (aE (aJ 0) (aE (aJ 1) aNil))))) rX)
abbrev rW:Sv:=(bF (dI 3 (eB zBR (aE (aJ 0) aNil))) tX)
def cV:Mir:=fn 2 7 (bF (dI 2 (eC (.int 0))) rW)
def fK:Mir:=fn 2 2 (jW (lC (zHs (aJ 0)) lZ (aV cN (aE (aJ 1) (aE (aJ 2) aNil)))))
abbrev zAT:Sv:=(sIf (zCt (kN (dW (aV cE (aE (eOp oIx (aJ 1) (eC (.int 0))) aNil)))) (kN (dW (aV cE (aE (eOp oIx (aJ 1) (eC (.int 1))) aNil))))) (gX (eC (.bl false))) sNext)
abbrev zAZ:Sv:=(bF (sIf (zCt (kN (dW (zHd "tuple" (aJ 1)))) (dW (eOp oNe (eB kM (aE (aJ 1) aNil)) (eC (.int 2))))) (gX (eC (.bl false))) sNext) zAT)
abbrev zAD:Sv:=(sIf (zCt (kN (dW (aV dD (aE (eOp oIx (eOp oIx (aJ 0) (eOp sQ (aJ 2) (eC (.int 1)))) (eC (.int 0))) (aE (eOp oIx (eOp oIx (aJ 0) (aJ 2)) (eC (.int 0))) aNil))))) (dW (aV dD (aE (eOp oIx (eOp oIx (aJ 0) (aJ 2)) (eC (.int 1))) (aE (eOp oIx (eOp oIx (aJ 0) (eOp sQ (aJ 2) (eC (.int 1)))) (eC (.int 1))) aNil))))) (gX (eC (.bl false))) sNext)
abbrev xE:Sv:=(gX (eOp oEq (aJ 0) (aV fY (aE (aJ 0) aNil))))
abbrev zAx:Sv:=(bF (rD (zBg (aE (eC (.int 1)) (aE (eB kM (aE (aJ 0) aNil)) aNil))) (gName 2) zAD) xE)
abbrev zAM:Sv:=(bF (rD (rL (aJ 0)) (gName 1) zAZ) zAx)
def jJ:Mir:=fn 1 3 (bF (sIf (zCt (kN (dW (zHd "tuple" (aJ 0)))) (zCt (dW (eOp oLt (eB kM (aE (aJ 0) aNil)) (eC (.int 1)))) (dW (eOp oNe (eOp oIx (aJ 0) (eC (.int 0))) (wG (aE (wG (aE (eC (.int 0)) (aE (eC (.int 1)) aNil))) (aE (wG (aE (eC (.int 0)) (aE (eC (.int 1)) aNil))) aNil))))))) (gX (eC (.bl false))) sNext) zAM)
abbrev iN:Sv:=(sIf (dW (eOp tN (eOp oIx (aJ 6) (eC (.int 0))) (aJ 4))) (gX (eC (.bl false))) sNext)
abbrev oW:Sv:=(rD (rL (aJ 5)) (gName 6) iN)
abbrev iD:Sv:=(sIf (dW (eOp oNe (aV fP (aE (eOp oIx (aJ 0) (aJ 11)) (aE (aJ 10) aNil))) (eOp oIx (aJ 9) (aJ 11)))) (gX (eC (.bl false))) sNext)
abbrev nL:Sv:=(rD (zBd (aE (eB kM (aE (aJ 2) aNil)) aNil)) (gName 11) iD)
abbrev mP:Sv:=(bF (dI 10 (aV dZ (aE (aJ 9) aNil))) nL)
abbrev iQ:Sv:=(bF (dI 9 (eF (fB dU (aE (aJ 1) (aE (aJ 2) (aE (aJ 8) aNil)))))) mP)
abbrev iB:Sv:=(gX (eC (.bl true)))
abbrev oQ:Sv:=(bF (rD (rL (eF (zMJ (aJ 3) (aJ 7)))) (gName 8) iQ) iB)
abbrev eS:Sv:=(bF (dI 7 (eF (lC (zBg (aE (eC (.int 1)) (aE (eB kM (aE (aJ 3) aNil)) aNil))) lZ (aV bP (aE (wG (aE (eC (.int 1)) (aE (eC (.int 2)) aNil))) (aE (aV dQ (aE (eOp oIx (aJ 3) (eOp sQ (aJ 12) (eC (.int 1)))) (aE (eOp oIx (aJ 3) (aJ 12)) aNil))) aNil)))))) oQ)
abbrev iJ:Sv:=(bF (rD (rL (aJ 0)) (gName 5) oW) eS)
abbrev iO:Sv:=(bF (dI 4 (eF (lC (rL (aJ 3)) lZ (aV dZ (aE (eF (fB dU (aE (aJ 1) (aE (aJ 2) (aE (aJ 12) aNil))))) aNil))))) iJ)
def cZ:Mir:=fn 3 12 (bF (dI 3 (eF (fB fV (aE (aJ 1) (aE (aJ 2) aNil))))) iO)
abbrev rO:Sv:=(zDF 1 (aJ 2))
abbrev zCb:Sv:=(bF (sIf (tFrzB (zEa (dW (eOp oGt (eB kM (aE (aJ 1) aNil)) (eC (.int 1)))) (dW (aV gC (aE (eOp oIx (aJ 1) (eUn zHA (eC (.int 2)))) (aE (eOp oIx (aJ 1) (eUn zHA (eC (.int 1)))) (aE (aJ 2) aNil))))))) (zMv 1) sNext) rO)
abbrev zBt:Sv:=(gX (eB zIi (aE (aJ 1) aNil)))
abbrev zBx:Sv:=(bF (rD (rL (aJ 0)) (gName 2) zCb) zBt)
abbrev zBV:Sv:=(bF (zEh 1 (tY aNil)) zBx)
def kT:Mir:=fn 1 3 (bF (zAO (aV gE (aE (aJ 0) aNil))) zBV)
abbrev uN:Sv:=(jW (lC (rL (eF (fB cQ (aE (aJ 2) (aE (aJ 0) (aE (aV mE (aE (aJ 1) (aE (aJ 1) aNil))) aNil)))))) lZ (aV dL (aE (aJ 3) (aE (eC d_HALF) aNil)))))
def eG:Mir:=fn 2 3 (bF (dI 2 (eF (zIY (tY (aE (eC (.int 1)) aNil)) (eB kM (aE (aJ 0) aNil))))) uN)
abbrev qU:Sv:=(sIf (zCt (kN (dW (aV jJ (aE (aJ 2) aNil)))) (dW (eOp oNe (eOp oIx (aJ 2) (eUn zHA (eC (.int 1)))) (wG (aE (wG (aE (eB zBR (aE (aJ 1) aNil)) (aE (eC (.int 1)) aNil))) (aE (wG (aE (aJ 3) (aE (eC (.int 1)) aNil))) aNil)))))) (gX (eC (.bl false))) sNext)
abbrev kG:Sv:=(gX (eC (.bl true)))
abbrev qZ:Sv:=(bF (rD (zHf (aE (aJ 0) (aE (aJ 1) aNil))) (zHp (rA (gName 2) (rA (gName 3) zHy))) qU) kG)
def dG:Mir:=fn 2 4 (bF (sIf (zCt (kN (dW (zHd "list" (aJ 0)))) (dW (eOp oNe (eB kM (aE (aJ 0) aNil)) (eB kM (aE (aJ 1) aNil))))) (gX (eC (.bl false))) sNext) qZ)
def lM:Mir:=fn 3 3 (gX (aV kT (aE (eF (qM (zHf (aE (aJ 0) (aE (aJ 1) aNil))) (wG (aE (aJ 3) (aE (eOp oIx (aJ 4) (aJ 2)) aNil))))) aNil)))
abbrev uK (r:Mir):Sv:=(jW (zMJ (aJ 4) (eF (fB fK (aE (aJ 4) (aE (aJ 3) aNil))))))
abbrev vC (r:Mir):Sv:=(jW (fB fK (aE (eF (fB r (aE (aV dF (aE (aJ 0) aNil)) (aE (aJ 1) (aE (aJ 2) aNil))))) (aE (aJ 3) aNil))))
abbrev yX (r:Mir):Sv:=(bF (sIf (dW (eOp oEq (aJ 0) (eC (.str "half")))) (bF (dI 4 (eF (lC (rL (eF (fB cV (aE (eF (zIY (tY (aE (eC (.int 1)) aNil)) (eB kM (aE (aJ 2) aNil)))) (aE (aJ 2) aNil))))) lZ (aV dL (aE (aJ 5) (aE (eC d_HALF) aNil)))))) (uK r)) sNext) (vC r))
abbrev wO (r:Mir):Sv:=(bF (sIf (dW (eOp oEq (aJ 0) (eC (.str "part")))) (jW (tY (aE (eC gU) (aE (aJ 3) aNil)))) sNext) (yX r))
abbrev yG (r:Mir):Sv:=(bF (sIf (dW (eOp oEq (aJ 0) (eC (.str "even")))) (jW (fB cV (aE (aJ 1) (aE (aJ 2) aNil)))) sNext) (wO r))
abbrev xQ (r:Mir):Sv:=(bF (sIf (dW (eOp oEq (aJ 0) (eC (.str "row")))) (jW (fB eM (aE (aJ 2) aNil))) sNext) (yG r))
def bZ (r:Mir):Mir:=fn 3 5 (bF (dI 3 (aV bV (aE (eB zBR (aE (aJ 2) aNil)) aNil))) (xQ r))
def bG:Nat->Mir
 | 0=>fn 3 5 sNo
 | n+1=>bZ (bG n)
abbrev pC (r:Mir):Sv:=(jW (qM (zHf (aE (aJ 2) (aE (aJ 5) aNil))) (aV cN (aE (aV bV (aE (aJ 6) aNil)) (aE (aJ 7) aNil)))))
abbrev oG (r:Mir):Sv:=(bF (dI 5 (eF (fB r (aE (eUn (tR aW) (aJ 0)) (aE (aJ 1) (aE (aJ 2) (aE (aV cN (aE (aJ 4) (aE (aJ 3) aNil))) aNil))))))) (pC r))
abbrev pN (r:Mir):Sv:=(bF (sIf (zEa (dW (eOp oEq (aJ 0) (eC (.str "half")))) (kN (dW (aV jN (aE (aJ 4) (aE (aV mE (aE (aJ 3) (aE (aJ 3) aNil))) aNil)))))) (jW (fB eG (aE (aJ 2) (aE (aJ 3) aNil)))) sNext) (oG r))
abbrev pQ (r:Mir):Sv:=(bF (sIf (dW (eOp oEq (aJ 0) (eC (.str "part")))) (jW (fB eK (aE (aJ 2) (aE (aJ 3) aNil)))) sNext) (pN r))
abbrev pU (r:Mir):Sv:=(bF (sIf (dW (eOp oEq (aJ 0) (eC (.str "even")))) (jW (fB cQ (aE (aJ 1) (aE (aJ 2) (aE (aJ 3) aNil))))) sNext) (pQ r))
abbrev qC (r:Mir):Sv:=(bF (sIf (dW (eOp oEq (aJ 0) (eC (.str "row")))) (jW (fB fN (aE (aJ 2) (aE (aJ 3) aNil)))) sNext) (pU r))
def aU (r:Mir):Mir:=fn 4 6 (bF (dI 4 (aV bV (aE (eB zBR (aE (aJ 2) aNil)) aNil))) (qC r))
def aP:Nat->Mir
 | 0=>fn 4 6 sNo
 | n+1=>aU (aP n)
abbrev xD:Sv:=(jW (lC (zBd (aE (eB kM (aE (aJ 2) aNil)) aNil)) lZ (aV lM (aE (aJ 3) (aE (aJ 4) (aE (aJ 5) aNil))))))
abbrev wQ:Sv:=(bF (dI 4 (eF (lC (rL (aJ 3)) lZ (eF (fB (aP 2) (aE (aJ 0) (aE (aJ 1) (aE (aJ 2) (aE (aJ 5) aNil))))))))) xD)
abbrev yR:Sv:=(bF (dI 3 (eF (fB cP (aE (eF (fB (bG 2) (aE (aJ 0) (aE (aJ 1) (aE (aJ 2) aNil))))) aNil)))) wQ)
def dP:Mir:=fn 3 5 (bF (zAO (aV nT (aE (aJ 0) (aE (aJ 1) (aE (aJ 2) aNil))))) yR)
abbrev zHn:Sv:=(gX (zLR (eOp oEq (aJ 4) (eF (tY (aE (aJ 3) (aE (aJ 2) aNil))))) (aV dG (aE (aJ 6) (aE (aJ 2) aNil)))))
abbrev zGV:Sv:=(bF (sIf (zCt (kN (dW (zHd "list" (aJ 6)))) (dW (eOp oNe (aJ 6) (eF (lC (rL (aJ 5)) lZ (aV lW (aE (aJ 7) aNil))))))) (gX (eC (.bl false))) sNext) zHn)
abbrev zHS:Sv:=(bF (dI 6 (eF (fB dP (aE (eC (.str "lack")) (aE (eOp oIx (aJ 4) (eC (.int 0))) (aE (eOp oIx (aJ 4) (eC (.int 1))) aNil)))))) zGV)
abbrev zJA:Sv:=(bF (sIf (zCt (kN (dW (aV dG (aE (aJ 5) (aE (aJ 2) aNil))))) (kN (dW (aV cZ (aE (aJ 5) (aE (aJ 3) (aE (aJ 2) aNil))))))) (gX (eC (.bl false))) sNext) zHS)
abbrev zKk:Sv:=(bF (dI 5 (eF (fB dP (aE (eC (.str "even")) (aE (eOp oIx (aJ 4) (eC (.int 0))) (aE (eOp oIx (aJ 4) (eC (.int 1))) aNil)))))) zJA)
abbrev zM:Sv:=(bF (dI 4 (eF (tY (aE (eF (zGU (aE (aJ 3) aNil))) (aE (eF (zGU (aE (aJ 2) aNil))) aNil))))) zKk)
abbrev wM:Sv:=(bF (dI 3 (eF (fB eZ (aE (eF (lC (zBd (aE (eB kM (aE (aJ 2) aNil)) aNil)) lZ (aV dR (aE (aJ 0) (aE (eOp zDN (eC (.int 7)) (aJ 7)) aNil))))) (aE (aJ 1) aNil))))) zM)
abbrev zFV:Sv:=(bF (sIf (dW (eOp oEq (aJ 2) (eF (tY aNil)))) (dI 2 (eF (tY (aE (eOp zBp (aJ 1) (eC (.int 5))) aNil)))) sNext) wM)
abbrev zEq:Sv:=(bF (dI 2 (eF (fB fX (aE (eF (fSl (aJ 0) (oS (eC (.int 1))) (oS (eC (.int 7))))) (aE (aJ 1) aNil))))) zFV)
def zKv:Mir:=fn 1 7 (bF (dI 1 (aV dR (aE (aJ 0) (aE (eC (.int 0)) aNil)))) zEq)
end Lw
namespace Lw
open L3 PySem Fr Fq Ln
theorem c_NOUGHT:gU=dq 0:=rfl
local macro_rules | `(tactic| walk_at "ev")=>do
 let ids:Array (Lean.TSyntax `term):=(("c_NOUGHT d_ACROSS d_UP d_WEIGHTED d_HALF fn_at iZip_at fComp2_at chO_s oEq_s oNe_s oTabNot_s L3.start sSeq_at seqF_nx seqF_ret sSet_at setF sOwn_at ownF sRet_at retF sRetF_at retFF sRetOwn_at retS sRetN sIf_at ifF_t ifF_f sNext sNo sDrop_at dropF dropG eVar_at varS eC eOp_at opF eUn eCall_at callF rtF eB eTup_at tupF aCons_at consF consG aNil tVal_at blF tNotB_at notF tAndB_at tandF_t tandF_f tOrB_at torF_t torF_f eAnd_at andF_t andF_f eOr_at orF_t orF_f eIf_at eifF_t eifF_f eF_at efF fLst_at fLstF fCall_at fcallF rtFF fList_at fListF_l fListF_t fComp_at fRep_at repF fCat_at catF catG eFrz_at frzF oN oS_at oSF fSl_at fSlF fSlG fSlH isNon sApp_at appS appF sAug_at augS augF setG sUnp_at unpF nxF bSum_l bSum_t gTup_at gtF_t gCons_at gNil_at gName sFor_at forF iRev_at revD_t iRevL_at revL_l iSeq_at seqD_l seqD_t iRng1_at iRng2_at sFrz tFrzB okb erb Rt.d fin oAdd_i oAddI_i oSub_i oMul_i oDiv_i oMod_i oPow_i oEq_i oNe_i oLt_i oLe_i oGt_i oGe_i oIx_tc sPop_at popS dp_mk ty_dp len_dp ix_dp0 ix_dp1 dep_dp noL_dp oEq_dp oNe_dp noLs_dps oNeg_i oNot_b bAbs_i bLen_t bLen_l bMin_i bTup_t bTup_l eIsT_at isTF isT ty_i ty_t ty_l ty_b ty_s ty_n ofO_some atD sRaise_at raiseF Sl.frz noErr dep depS noL noLs List.map_cons List.map_nil List.cons_append List.nil_append List.append_nil List.replicate List.length_cons List.length_nil List.getElem?_cons_zero List.getElem?_cons_succ List.set_cons_zero List.set_cons_succ Nat.reduceAdd Nat.reduceSub Nat.reduceLeDiff Nat.reduceEqDiff Nat.zero_add Nat.sub_self Nat.max_self Nat.zero_le if_true ite_true ite_false if_false Bool.false_eq_true Bool.not_true Bool.not_false reduceIte ite_self Int.toNat_zero Int.reduceToNat Int.reduceLE Int.reduceLT Int.le_refl decide_true decide_false Bool.or_true Bool.or_false Bool.true_or Bool.false_or Bool.and_true Bool.true_and Bool.and_false Bool.false_and String.reduceBEq String.reduceEq beq_self_eq_true ix_dq0 ix_dq1 ty_dq dep_dq noL_dq len_dq eq_dq oEq_dq oNe_dq List.length_map okDiv_lit okMul_litr okMul_litl okp30 p10 fdiv_pos fmod_pos Int.reduceEq Int.reduceNeg p10ne p10ne2 p10pos2 Int.reduceMul Int.reduceAdd Int.reduceSub Int.reduceDiv Int.reduceMod eqD Nat.reduceLT Nat.reducePow ne_eq not_true_eq_false not_false_eq_true".splitOn " ").map fun s=>⟨Lean.mkIdent s.toName⟩).toArray
 `(tactic| simp only [$[$ids:term],*])
theorem qP (t b:Int):cY [.int t,.int b]=.ok (.v (.int (Int.gcd t b:Int))):=by
 unfold cY
 walk_at "ev"
 refine zIu (fun ρ=>∃ (x y:Int) (r:Sl),ρ=[.val (.int x),.val (.int y),r]/\0<=x/\0<=y/\Int.gcd x y=Int.gcd t b) (fun ρ=>(slI 1 ρ).toNat)
  (fun r=>(r.bind (zEk (gX (aJ 0)))).bind fin=.ok (.v (.int (Int.gcd t b:Int)))) ⟨_,_,_,rfl,by omega,by omega,by simp [Int.gcd]⟩ ?_
 rintro ρ ⟨x,y,r,rfl,hx,hy,hg⟩
 by_cases h:y=0
 ·subst h
  refine .inl ⟨rfl,?_⟩
  have e:x=(Int.gcd t b:Int):=by
   rw [Int.gcd_zero_right] at hg
   omega
  rw [<-e]
  rfl
 ·refine .inr ⟨?_,[.val (.int y),.val (.int (x.fmod y)),.val (.int (x.fmod y))],?_,⟨y,x.fmod y,_,rfl,hy,?_,?_⟩,?_⟩
  ·walk_at "ev"
   rw [decide_eq_false h];rfl
  ·walk_at "ev"
   rw [oMod_i h]
   walk_at "ev"
  ·rw [zBD _ hy];exact Int.emod_nonneg _ h
  ·rw [zBD _ hy];exact (Fq.zDc hx (by omega)).trans hg
  ·have:=Int.emod_lt_of_pos x (show 0 < y by omega)
   rw [zBD _ hy]
   show (x % y).toNat < y.toNat
   omega
theorem zLf {t b:Int} (hb:b≠0):(dv t b).natAbs<=b.natAbs:=Nat.le_of_dvd (by omega) (Int.natAbs_dvd_natAbs.mpr (zCK t b))
theorem zAX {t b:Int} {n:Nat} (hb:b≠0) (hn:b.natAbs < 2^n) (h:n<=8999):iH [.int t,.int b]=.ok (.v (dq (Rat.divInt t b))):=by
 have hd:kJ (dv t b)=true:=rK (zKW hb) (Nat.lt_of_le_of_lt (zLf hb) hn) h
 have e0:decide (b=0)=false:=decide_eq_false hb
 unfold iH
 walk_at "ev"
 rw [e0]
 walk_at "ev"
 rw [qP]
 walk_at "ev"
 by_cases c:b < 0
 ·have e:-(Int.gcd t b:Int)=dv t b:=by unfold dv;rw [if_pos c]
  rw [decide_eq_true c]
  walk_at "ev"
  rw [e,oDiv_i hd]
  walk_at "ev"
  rw [oDiv_i hd]
  walk_at "ev"
  rw [wI hb,vY hb]
  rfl
 ·have e:(Int.gcd t b:Int)=dv t b:=by unfold dv;rw [if_neg c]
  rw [decide_eq_false c]
  walk_at "ev"
  rw [e,oDiv_i hd]
  walk_at "ev"
  rw [oDiv_i hd]
  walk_at "ev"
  rw [wI hb,vY hb]
  rfl
theorem zMX (t:Int):iH [.int t,.int 0]=.err "NoFraction" := by
 unfold iH
 walk_at "ev"
theorem zCE {p q:Rat} {m n:Nat} (hp:Sz m p) (hq:Sz n q) (h:m+n<=8999):mE [dq p,dq q]=.ok (.v (dq (p+q))):=by
 unfold mE
 walk_at "ev"
 rw [oMul_i (bM hp.1 hq.d (by omega))]
 walk_at "ev"
 rw [oMul_i (bM hq.1 hp.d (by omega))]
 walk_at "ev"
 rw [oMul_i (bM hp.d hq.d (by omega))]
 walk_at "ev"
 rw [zAX (Int.mul_ne_zero (cW p) (cW q)) (dX hp.d hq.d) h,zFM]
 walk_at "ev"
theorem eD {p q:Rat} {m n:Nat} (hp:Sz m p) (hq:Sz n q) (h:m+n<=8999):cN [dq p,dq q]=.ok (.v (dq (p - q))):=by
 unfold cN
 walk_at "ev"
 rw [oMul_i (bM hp.1 hq.d (by omega))]
 walk_at "ev"
 rw [oMul_i (bM hq.1 hp.d (by omega))]
 walk_at "ev"
 rw [oMul_i (bM hp.d hq.d (by omega))]
 walk_at "ev"
 rw [zAX (Int.mul_ne_zero (cW p) (cW q)) (dX hp.d hq.d) h,zGq]
 walk_at "ev"
theorem mT {p q:Rat} {m n:Nat} (hp:Sz m p) (hq:Sz n q) (h:m+n<=8999):dL [dq p,dq q]=.ok (.v (dq (p * q))):=by
 unfold dL
 walk_at "ev"
 rw [oMul_i (bM hp.1 hq.1 (by omega))]
 walk_at "ev"
 rw [oMul_i (bM hp.d hq.d (by omega))]
 walk_at "ev"
 rw [zAX (Int.mul_ne_zero (cW p) (cW q)) (dX hp.d hq.d) h,zGa]
 walk_at "ev"
theorem zIF {p q:Rat} {m n:Nat} (hp:Sz m p) (hq:Sz n q) (h0:q≠0) (h:m+n<=8999):sK [dq p,dq q]=.ok (.v (dq (p / q))):=by
 unfold sK
 walk_at "ev"
 rw [oMul_i (bM hp.1 hq.d (by omega))]
 walk_at "ev"
 rw [oMul_i (bM hp.d hq.1 (by omega))]
 walk_at "ev"
 rw [zAX (Int.mul_ne_zero (cW p) (zGg.mpr h0)) (dX hp.d hq.1) h,zFE]
 walk_at "ev"
theorem sW {p q:Rat} {m n:Nat} (hp:Sz m p) (hq:Sz n q) (h:m+n<=99999):jN [dq p,dq q]=.ok (.v (.bl (decide (p < q)))):=by
 unfold jN
 walk_at "ev"
 rw [oMul_i (bM hp.1 hq.d (by omega))]
 walk_at "ev"
 rw [oMul_i (bM hq.1 hp.d (by omega))]
 walk_at "ev"
 simp only [lt_iff]
def mn (a b:Rat):Rat:=if a < b then a else b
def ps0 (x:Rat):Rat:=if x < 0 then 0 else x
def iC:List Int->Int->Rat->List Rat
 | [],_,_=>[]
 | c::r,a,q=>mn (ps0 (q - (a:Rat))) (c:Rat)::iC r (a+c) q
theorem zAp:∀ (cs:List Int) (a:Int) (q:Rat),(iC cs a q).length=cs.length
 | [],_,_=>rfl
 | c::r,a,q=>by simp only [iC,List.length_cons,zAp r]
theorem zJH {q:Rat} {a c:Int} (h:0<=c):ps0 (q - (a:Rat)) - mn (ps0 (q - (a:Rat))) (c:Rat)=ps0 (q - ((a+c:Int):Rat)):=by
 have h':(0:Rat)<=(c:Rat):=by exact_mod_cast h
 rw [Rat.intCast_add]
 unfold ps0 mn
 grind
theorem cJ {n:Nat} {k:Int} (h:k.natAbs < 2^n) (h0:0 < n):Sz n (k:Rat):=by
 refine ⟨h,?_⟩
 show 1 < 2^n
 exact Nat.one_lt_two_pow (by omega)
theorem zLx {n:Nat} {q:Rat} (h:Sz n q) (h0:0 < n):Sz n (ps0 q):=by
 unfold ps0
 split
 ·exact cJ (k:=0) (Nat.two_pow_pos n) h0
 ·exact h
theorem zKg {n:Nat} {p q:Rat} (h:Sz n p) (h':Sz n q):Sz n (mn p q):=by
 unfold mn
 split
 ·exact h
 ·exact h'
theorem cC (k:Int):bV [.int k]=.ok (.v (dq (k:Rat))):=by
 unfold bV
 walk_at "ev"
 rw [zEC]
theorem zCU {p q:Rat} {m n:Nat} (hp:Sz m p) (hq:Sz n q) (h:m+n<=99999):jY [dq p,dq q]=.ok (.v (dq (mn p q))):=by
 unfold jY
 walk_at "ev"
 rw [sW hp hq h]
 walk_at "ev"
 unfold mn
 by_cases c:p < q
 ·rw [decide_eq_true c,if_pos c]
  walk_at "ev"
 ·rw [decide_eq_false c,if_neg c]
  walk_at "ev"
structure Cl (cs:List Int):Prop where
 nn:∀ c∈cs,0<=c
 up:∀ c∈cs,c < 10^30
 lo:1<=cs.length
 hi:cs.length<=12
theorem zIb:∀ {cs:List Int},(∀ c∈cs,0<=c)->(∀ c∈cs,c < 10^30)->0<=cs.sum/\cs.sum<=cs.length * 10^30
 | [],_,_=>by decide
 | c::r,h,h'=>by
  have ih:=zIb (fun x hx=>h x (List.mem_cons_of_mem _ hx)) fun x hx=>h' x (List.mem_cons_of_mem _ hx)
  have a:=h c List.mem_cons_self
  have b:=h' c List.mem_cons_self
  rw [List.sum_cons,List.length_cons]
  refine ⟨by omega,?_⟩
  have:((r.length+1:Nat):Int) * 10^30=(r.length:Int) * 10^30+10^30:=by rw [Int.natCast_add,Int.add_mul];rfl
  omega
theorem Cl.sum {cs:List Int} (h:Cl cs):0<=cs.sum/\cs.sum < 2^104:=by
 have a:=zIb h.nn h.up
 have b:=h.hi
 refine ⟨a.1,?_⟩
 omega
structure Haul (m:Nat) (q:Rat) (W:Int):Prop where
 nn:0<=q
 up:q<=(W:Rat)
 sz:Sz m q
theorem zDk {d:D} {q:Rat} {m:Nat} (hm:m<=3000) (hq:Sz m q):∀ (cs:List Int) (a:Int) (acc:List D) (s t:Sl),(∀ c∈cs,0<=c)->(∀ c∈cs,c < 10^30)->0<=a->a+cs.length * 10^30 < 2^110->acc.length+cs.length<=100->
  ∃ l' s' t',eP (gName 4) oF (cs.map D.int) [.val d,.val (dq q),.val (dq (ps0 (q - (a:Rat)))),.own acc,s,t]=.ok (.nx [.val d,.val (dq q),l',.own (acc++(iC cs a q).map dq),s',t'])
 | [],a,acc,s,t,_,_,_,_,_=>⟨.val (dq (ps0 (q - (a:Rat)))),s,t,by rw [List.map_nil,eP];simp [iC]⟩
 | c::r,a,acc,s,t,h1,h2,h3,h4,h5=>by
  have c0:=h1 c List.mem_cons_self
  have c1:=h2 c List.mem_cons_self
  rw [List.length_cons] at h4 h5
  have e4:((r.length+1:Nat):Int) * 10^30=(r.length:Int) * 10^30+10^30:=by rw [Int.natCast_add,Int.add_mul];rfl
  have r0:0<=(r.length:Int) * 10^30:=Int.mul_nonneg (by omega) (by decide)
  have zl:Sz (m+111) (ps0 (q - (a:Rat))):=zLx (hq.sub (cJ (n:=110) (by omega) (by decide))) (by omega)
  have zc:Sz (m+111) (c:Rat):=Sz.mono (m:=110) (cJ (by omega) (by decide)) (by omega)
  obtain ⟨l',s',t',e⟩:=zDk hm hq r (a+c) (acc++[dq (mn (ps0 (q - (a:Rat))) (c:Rat))]) (.val (.int c)) (.val (dq (mn (ps0 (q - (a:Rat))) (c:Rat)))) (fun x hx=>h1 x (List.mem_cons_of_mem _ hx)) (fun x hx=>h2 x (List.mem_cons_of_mem _ hx)) (by omega) (by omega) (by rw [List.length_append,List.length_singleton];omega)
  refine ⟨l',s',t',?_⟩
  rw [List.map_cons,gD (ρ1:=[.val d,.val (dq q),.val (dq (ps0 (q - (a:Rat)))),.own acc,.val (.int c),t]) rfl,e]
  ·rw [iC,List.map_cons,List.append_assoc];rfl
  ·walk_at "ev"
   rw [cC]
   walk_at "ev"
   rw [zCU zl zc (by omega)]
   walk_at "ev"
   rw [if_pos (by omega)]
   walk_at "ev"
   rw [eD zl (zKg zl zc) (by omega)]
   walk_at "ev"
   rw [zJH c0]
theorem zCc {d:D} {cs:List Int} {q:Rat} (hd:d=.lst (cs.map D.int)∨d=.tup (cs.map D.int)) {m:Nat} (hm:m<=3000) (hc:Cl cs) (hq:Sz m q) (h0:0<=q):fN [d,dq q]=.ok (.f ((iC cs 0 q).map dq)):=by
 have sq:zIO d=.ok (cs.map D.int):=by rcases hd with rfl | rfl<;>rfl
 have:=hc.hi
 obtain ⟨l',s',t',e⟩:=zDk (d:=d) hm hq cs 0 [] .un .un hc.nn hc.up (by decide) (by omega) (by rw [List.length_nil];omega)
 have z:ps0 (q - ((0:Int):Rat))=q:=by
  unfold ps0
  rw [show ((0:Int):Rat)=0 from rfl]
  grind
 rw [z] at e
 unfold fN
 walk_at "ev"
 rw [sq]
 walk_at "ev"
 rw [e]
 rfl
def zA (cs:List Int) (q:Rat):List Rat:=cs.map fun c=>Rat.divInt (c * q.num) (max 1 cs.sum * q.den)
theorem zFm {q:Rat} {c W:Int} (h:0 < W):q / (W:Rat) * (c:Rat)=Rat.divInt (c * q.num) (W * q.den):=by
 have hW:(W:Rat)≠0:=by
  intro z
  have:W=0:=by exact_mod_cast z
  omega
 rw [<-zFE q (W:Rat)]
 show Rat.divInt (q.num * ((1:Nat):Int)) (q.den * W) * (c:Rat)=_
 rw [show ((1:Nat):Int)=1 from rfl,Int.mul_one,<-Rat.num_divInt_den (c:Rat),Rat.divInt_mul_divInt]
 show Rat.divInt (q.num * c) (q.den * W * ((1:Nat):Int))=_
 rw [show ((1:Nat):Int)=1 from rfl,Int.mul_one,Int.mul_comm q.num,Int.mul_comm (q.den:Int)]
theorem nV:∀ {cs:List Int},(∀ c∈cs,0<=c)->cs.sum=0->∀ c∈cs,c=0
 | [],_,_,c,h=>by cases h
 | d::r,h,e,c,hc=>by
  rw [List.sum_cons] at e
  have h0:=h d List.mem_cons_self
  have hr:0<=r.sum:=by
   have:∀ l:List Int,(∀ c∈l,0<=c)->0<=l.sum:=by
    intro l
    induction l with
    | nil=>intro _;decide
    | cons a l ih=>intro hl;rw [List.sum_cons];have:=hl a List.mem_cons_self;have:=ih fun x hx=>hl x (List.mem_cons_of_mem _ hx);omega
   exact this r fun x hx=>h x (List.mem_cons_of_mem _ hx)
  rcases List.mem_cons.mp hc with rfl | hc
  ·omega
  ·exact nV (fun x hx=>h x (List.mem_cons_of_mem _ hx)) (by omega) c hc
theorem zBc {d:D} {cs:List Int} {q:Rat} (hd:d=.lst (cs.map D.int)∨d=.tup (cs.map D.int)) {m:Nat} (hm:m<=3000) (hc:Cl cs) (hq:Sz m q):eK [d,dq q]=.ok (.f ((zA cs q).map dq)):=by
 have sm:=hc.sum
 have hi:=hc.hi
 have sq:zIO d=.ok (cs.map D.int):=by rcases hd with rfl | rfl<;>rfl
 have su:zBR [d]=.ok (.int cs.sum):=by rcases hd with rfl | rfl;exact bSum_l;exact bSum_t
 have ln:kM [d]=.ok (.int cs.length):=by rcases hd with rfl | rfl<;>(walk_at "ev")
 unfold eK
 walk_at "ev"
 rw [su]
 walk_at "ev"
 by_cases c0:cs.sum=0
 ·rw [decide_eq_true c0]
  walk_at "ev"
  rw [ln]
  walk_at "ev"
  rw [zDw (by omega)]
  walk_at "ev"
  have e:(zA cs q).map dq=List.replicate cs.length (dq 0):=by
   unfold zA
   rw [List.map_map,<-List.map_const']
   refine List.map_congr_left fun c h=>?_
   have c0:=nV hc.nn c0 c h
   subst c0
   show dq (Rat.divInt (0 * q.num) _)=dq 0
   rw [Int.zero_mul,Rat.zero_divInt]
  rw [e]
 ·rw [decide_eq_false c0]
  walk_at "ev"
  have W0:0 < cs.sum:=by omega
  have zW:Sz 110 (cs.sum:Rat):=cJ (by omega) (by decide)
  have nW:(cs.sum:Rat)≠0:=by
   intro z
   have:cs.sum=0:=by exact_mod_cast z
   omega
  rw [cC]
  walk_at "ev"
  rw [zIF hq zW nW (by omega)]
  walk_at "ev"
  rw [sq]
  walk_at "ev"
  rw [eQ (u:=D.int) (g:=fun c=>dq (Rat.divInt (c * q.num) (max 1 cs.sum * q.den))) (by omega) (fun c h=>by
   have c0:=hc.nn c h
   have c1:=hc.up c h
   walk_at "ev"
   rw [cC]
   walk_at "ev"
   rw [mT (hq.div zW nW) (cJ (n:=110) (k:=c) (by omega) (by decide)) (by omega)]
   walk_at "ev"
   rw [zFm W0,Int.max_eq_right (by omega)])]
  walk_at "ev"
  unfold zA
  rw [List.map_map]
  rfl
def gT (f:Nat->Rat) (l:List Nat):Rat:=(l.map f).sum
theorem bA (f:Nat->Rat) (i:Nat) (l:List Nat):gT f (i::l)=f i+gT f l:=by unfold gT;rw [List.map_cons,List.sum_cons]
theorem gQ (f:Nat->Rat):gT f []=0:=rfl
theorem mQ {f g:Nat->Rat}:∀ {l:List Nat},(∀ i∈l,f i<=g i)->gT f l<=gT g l
 | [],_=>Rat.le_refl
 | i::l,h=>by
  rw [bA,bA]
  have a:=h i List.mem_cons_self
  have b:=mQ fun j hj=>h j (List.mem_cons_of_mem _ hj)
  grind
theorem pX {f g:Nat->Rat}:∀ {l:List Nat},(∀ i∈l,f i<=g i)->gT f l=gT g l->∀ i∈l,f i=g i
 | [],_,_,i,hi=>by cases hi
 | j::l,h,e,i,hi=>by
  rw [bA,bA] at e
  have a:=h j List.mem_cons_self
  have hb:∀ i∈l,f i<=g i:=fun k hk=>h k (List.mem_cons_of_mem _ hk)
  have b:=mQ hb
  rcases List.mem_cons.mp hi with rfl | hi
  ·grind
  ·exact pX hb (by grind) i hi
theorem tE {f:Nat->Rat} {l m:List Nat} (h:l.Perm m):gT f l=gT f m:=by
 induction h with
 | nil=>rfl
 | cons x _ ih=>rw [bA,bA,ih]
 | swap x y l=>rw [bA,bA,bA,bA];grind
 | trans _ _ h1 h2=>rw [h1,h2]
theorem dC {w:Nat->Rat} {t:Rat}:∀ {l:List Nat},gT (fun i=>w i * t) l=t * gT w l
 | []=>by rw [gQ,gQ];grind
 | i::l=>by rw [bA,bA,dC];grind
theorem dS {f g:Nat->Rat} {l:List Nat} (h:∀ i∈l,f i=g i):gT f l=gT g l:=by unfold gT;rw [List.map_congr_left h]
theorem zHC {w:Nat->Rat}:∀ {l:List Nat},(∀ i∈l,0 < w i)->0<=gT w l
 | [],_=>Rat.le_refl
 | i::l,h=>by
  rw [bA]
  have a:=h i List.mem_cons_self
  have b:=zHC fun j hj=>h j (List.mem_cons_of_mem _ hj)
  grind
def gets (c w:Nat->Rat) (t:Rat) (i:Nat):Rat:=mn (w i * t) (c i)
theorem zND {a b c d:Rat} (h:a<=c) (h':b<=d):mn a b<=mn c d:=by unfold mn;grind
theorem kY {c w:Nat->Rat} {t u:Rat} {i:Nat} (hw:0 < w i) (h:t<=u):gets c w t i<=gets c w u i:=
 zND (Rat.mul_le_mul_of_nonneg_left h (Rat.le_of_lt hw)) Rat.le_refl
theorem wX {c w:Nat->Rat} {t u:Rat} {l:List Nat} (hw:∀ i∈l,0 < w i) (h:gT (gets c w t) l=gT (gets c w u) l):∀ i∈l,gets c w t i=gets c w u i:=by
 rcases Rat.le_total (a:=t) (b:=u) with g | g
 ·exact pX (fun i hi=>kY (hw i hi) g) h
 ·exact fun i hi=>(pX (fun i hi=>kY (hw i hi) g) h.symm i hi).symm
theorem zFr {L W w c:Rat} (hW:0 < W) (h:L * w / W < c):mn (L * w / W) c=mn (w * (L / W)) c/\mn (w * (L / W)) c=w * (L / W):=by
 have e:L * w / W=w * (L / W):=by grind
 rw [e] at h ⊢
 exact ⟨rfl,if_pos h⟩
theorem zFo {r W w c:Rat} (hW:W≠0) (h:w * r<=c):mn (r * W * w / W) c=w * r:=by
 have e:r * W * w / W=w * r:=by grind
 rw [e]
 unfold mn
 grind
theorem zGh {ci wi cj wj r:Rat} (h1:0 < wi) (h2:0 < wj) (h:ci * wj<=cj * wi) (hr:wi * r<=ci):wj * r<=cj:=by
 have a:wi * r * wj<=ci * wj:=Rat.mul_le_mul_of_nonneg_right hr (Rat.le_of_lt h2)
 have b:wj * r * wi<=cj * wi:=by
  have:wj * r * wi=wi * r * wj:=by grind
  rw [this];exact Rat.le_trans a h
 exact Rat.le_of_mul_le_mul_right b h1
theorem zDE {L W w c b:Rat} (hw:0 < w) (h:¬ L * w / W < c) (hW:0 < W) (hb:b * W<=L):∃ b',b<=b'/\c<=w * b'/\b' * (W - w)<=L - c:=by
 have h1:c * W<=L * w:=by
  have h':=Rat.not_lt.mp h
  have:=Rat.mul_le_mul_of_nonneg_right h' (Rat.le_of_lt hW)
  rwa [Rat.div_mul_cancel (by grind)] at this
 have e1:w * (c / w)=c:=by grind
 have e2:c / w * (W - w)=c * W / w - c:=by grind
 have e3:c * W / w<=L:=by
  have a:c * W / w * w<=L * w:=by rw [Rat.div_mul_cancel (by grind)];exact h1
  exact Rat.le_of_mul_le_mul_right a hw
 rcases Rat.le_total (a:=b) (b:=c / w) with g | g
 ·exact ⟨c / w,g,by rw [e1];exact Rat.le_refl,by rw [e2];grind⟩
 ·refine ⟨b,Rat.le_refl,?_,?_⟩
  ·have:=Rat.mul_le_mul_of_nonneg_left g (Rat.le_of_lt hw)
   rwa [e1] at this
  ·have:=Rat.mul_le_mul_of_nonneg_left g (Rat.le_of_lt hw)
   rw [e1] at this
   grind
structure Wt (ws cs:List Int):Prop where
 len:ws.length=cs.length
 lo:∀ w∈ws,1<=w
 up:∀ w∈ws,w<=10^6
def cR (cs:List Int) (i:Nat):Rat:=((cs.getD i 0:Int):Rat)
def oY:List (Nat×Rat)->List D->List D
 | [],am=>am
 | p::r,am=>oY r (am.set p.1 (dq p.2))
def wS (ws:List Int) (π:List Nat):Int:=(π.map fun i=>ws.getD i 0).sum
theorem kW (ws:List Int) (i:Nat) (π:List Nat):wS ws (i::π)=ws.getD i 0+wS ws π:=by unfold wS;rw [List.map_cons,List.sum_cons]
theorem bQ {l:List Int} {i:Nat} (h:i < l.length):l[i]?=some (l.getD i 0):=by rw [List.getD_eq_getElem?_getD,List.getElem?_eq_getElem h];rfl
theorem zMY {i:Nat} {k e:Ev} {ρ:Rho} {ds:List D} {d:D} {j:Nat} (h1:e ρ=.ok d) (h2:ρ[i]?=some (.own ds)) (h3:k ρ=.ok (.int (j:Int))) (h4:j < ds.length):zMQ i k e ρ=.ok (.nx (ρ.set i (.own (ds.set j d)))):=by
 unfold zMQ
 rw [h1]
 show (match ρ[i]? with | some (.own ds)=>_ | _=>_)=_
 rw [h2]
 show (k ρ).bind _=_
 rw [h3]
 exact if_pos ⟨Int.natCast_nonneg j,by omega⟩
theorem zLN {ds:List D} {d:D} {i:Nat} (h:i < ds.length):oIx (.lst (ds.set i d)) (.int (i:Int))=.ok d:=by
 have e:=kO (f:=id) (l:=ds.set i d) (i:=(i:Int)) (a:=d) (Int.natCast_nonneg i) (show (ds.set i d)[i]?=some d from List.getElem?_set_self h)
 rwa [List.map_id] at e
theorem Wt.at {ws cs:List Int} (h:Wt ws cs) {i:Nat} (hi:i < cs.length):1<=ws.getD i 0/\ws.getD i 0<=10^6:=by
 have:=bQ (l:=ws) (i:=i) (by rw [h.len];exact hi)
 exact ⟨h.lo _ (List.mem_of_getElem? this),h.up _ (List.mem_of_getElem? this)⟩
theorem Wt.sum {ws cs:List Int} (h:Wt ws cs):∀ {π:List Nat},(∀ i∈π,i < cs.length)->(π.length:Int)<=wS ws π/\wS ws π<=π.length * 10^6
 | [],_=>⟨Int.le_refl _,Int.le_refl _⟩
 | i::π,hi=>by
  have a:=h.at (hi i List.mem_cons_self)
  have b:=h.sum fun j hj=>hi j (List.mem_cons_of_mem _ hj)
  rw [kW,List.length_cons]
  omega
def Sq (d:D) (l:List Int):Prop:=d=.lst (l.map D.int)∨d=.tup (l.map D.int)
theorem Sq.ix {d:D} {l:List Int} (h:Sq d l) {i:Nat} (hi:i < l.length):oIx d (.int (i:Int))=.ok (.int (l.getD i 0)):=by
 rcases h with rfl | rfl
 ·exact kO (Int.natCast_nonneg i) (bQ hi)
 ·exact fM (Int.natCast_nonneg i) (bQ hi)
theorem Sq.sum {d:D} {l:List Int} (h:Sq d l):zBR [d]=.ok (.int l.sum):=by
 rcases h with rfl | rfl
 ·exact bSum_l
 ·exact bSum_t
theorem Sq.len {d:D} {l:List Int} (h:Sq d l):kM [d]=.ok (.int l.length):=by
 rcases h with rfl | rfl
 ·rw [bLen_l,List.length_map]
 ·rw [bLen_t,List.length_map]
theorem Sq.seq {d:D} {l:List Int} (h:Sq d l):zIO d=.ok (l.map D.int):=by
 rcases h with rfl | rfl<;>rfl
theorem Sq.seqo {d:D} {l:List Int} (h:Sq d l):zGK d=some (l.map D.int):=by
 rcases h with rfl | rfl<;>rfl
theorem zEW {ws cs:List Int} {wd cd:D} (sw:Sq wd ws) (sc:Sq cd cs) {qv s7:Sl} {L:Rat} {W:Int} {i:Nat} {am:List D} (hW:Wt ws cs) (hc:∀ c∈cs,0<=c/\c < 10^30) {m:Nat} (hm:m<=3000) (hL:Sz (m+250) L) (W0:0 < W) (W1:W<=12 * 10^6) (hi:i < cs.length) (ha:am.length=cs.length) {a:Rat} (ea:mn (L * cR ws i / (W:Rat)) (cR cs i)=a):
  bT [.val wd,.val cd,qv,.val (dq L),.val (.int W),.own am,.val (.int (i:Nat)),s7]=
   .ok (.nx [.val wd,.val cd,qv,.val (dq (L - a)),.val (.int (W - ws.getD i 0)),.own (am.set i (dq a)),.val (.int (i:Nat)),.val (dq (L * cR ws i / (W:Rat)))]):=by
 have hiw:i < ws.length:=by rw [hW.len];exact hi
 obtain ⟨w1,w2⟩:=hW.at hi
 obtain ⟨c1,c2⟩:=hc _ (List.mem_of_getElem? (bQ hi))
 have zW:Sz 24 (W:Rat):=cJ (by omega) (by decide)
 have zw:Sz 20 (cR ws i):=cJ (by omega) (by decide)
 have zc:Sz (m+294) (cR cs i):=Sz.mono (m:=100) (cJ (by omega) (by decide)) (by omega)
 have nW:(W:Rat)≠0:=by
  intro z
  have:W=0:=by exact_mod_cast z
  omega
 have fw:bV [.int (ws.getD i 0)]=.ok (.v (dq (cR ws i))):=cC _
 have fc:bV [.int (cs.getD i 0)]=.ok (.v (dq (cR cs i))):=cC _
 have zx:Sz (m+294) (L * cR ws i / (W:Rat)):=((hL.mul zw).div zW nW).mono (by omega)
 walk_at "ev"
 rw [sw.ix hiw]
 walk_at "ev"
 rw [fw]
 walk_at "ev"
 rw [mT hL zw (by omega)]
 walk_at "ev"
 rw [cC]
 walk_at "ev"
 rw [zIF (hL.mul zw) zW nW (by omega)]
 walk_at "ev"
 rw [zMY (j:=i) (d:=dq a) (ds:=am) (by
  walk_at "ev"
  rw [sc.ix hi]
  walk_at "ev"
  rw [fc]
  walk_at "ev"
  rw [zCU zx zc (by omega),ea]
  walk_at "ev") rfl rfl (by omega)]
 walk_at "ev"
 rw [zLN (by omega)]
 walk_at "ev"
 rw [eD hL (ea ▸ zKg zx zc) (by omega)]
 walk_at "ev"
 rw [sw.ix hiw]
 walk_at "ev"
theorem lK (ws:List Int):∀ π:List Nat,gT (cR ws) π=(wS ws π:Rat)
 | []=>rfl
 | i::π=>by rw [bA,lK ws π,kW,Rat.intCast_add];rfl
theorem zAf {ws cs:List Int} {wd cd:D} (sw:Sq wd ws) (sc:Sq cd cs) {qv:Sl} {r:Rat} {m:Nat} (hm:m<=3000) (hW:Wt ws cs) (hc:∀ c∈cs,0<=c/\c < 10^30) (hr:Sz (m+150) r):∀ (π:List Nat) (am:List D) (s6 s7:Sl),(∀ i∈π,i < cs.length)->(∀ i∈π,cR ws i * r<=cR cs i)->π.length<=12->am.length=cs.length->
  ∃ l' W' s' t',eP (gName 6) bT (jB π) [.val wd,.val cd,qv,.val (dq (r * (wS ws π:Rat))),.val (.int (wS ws π)),.own am,s6,s7]=
   .ok (.nx [.val wd,.val cd,qv,l',W',.own (oY (π.map fun i=>(i,cR ws i * r)) am),s',t'])
 | [],am,s6,s7,_,_,_,_=>⟨_,_,_,_,rfl⟩
 | i::π,am,s6,s7,h1,h2,h4,h5=>by
  have hi:=h1 i List.mem_cons_self
  obtain ⟨W1,W2⟩:=hW.sum h1
  rw [List.length_cons] at h4 W1 W2
  have zW:Sz 24 (wS ws (i::π):Rat):=cJ (by omega) (by decide)
  have nW:(wS ws (i::π):Rat)≠0:=by
   intro z
   have:wS ws (i::π)=0:=by exact_mod_cast z
   omega
  have e1:wS ws (i::π) - ws.getD i 0=wS ws π:=by rw [kW];omega
  have e2:r * (wS ws (i::π):Rat) - cR ws i * r=r * (wS ws π:Rat):=by
   rw [kW,Rat.intCast_add]
   show r * (cR ws i+(wS ws π:Rat)) - cR ws i * r=_
   grind
  have tn:=zEW sw sc (qv:=qv) (s7:=s7) (W:=wS ws (i::π)) (am:=am) hW hc hm ((hr.mul zW).mono (by omega)) (by omega) (by omega) hi h5 (zFo nW (h2 i List.mem_cons_self))
  rw [e1,e2] at tn
  obtain ⟨l',W',s',t',e⟩:=zAf sw sc hm hW hc hr π (am.set i (dq (cR ws i * r))) _ _ (fun j hj=>h1 j (List.mem_cons_of_mem _ hj)) (fun j hj=>h2 j (List.mem_cons_of_mem _ hj)) (by omega) (by rw [List.length_set];exact h5)
  refine ⟨l',W',s',t',?_⟩
  show eP _ _ (.int (i:Nat)::jB π) _=_
  rw [gD rfl tn,e]
  rfl
theorem zBa {ws cs:List Int} {wd cd:D} (sw:Sq wd ws) (sc:Sq cd cs) {qv:Sl} {q:Rat} {m:Nat} (hm:m<=3000) (hW:Wt ws cs) (hc:∀ c∈cs,0<=c/\c < 10^30) (hq:Sz m q):∀ (π:List Nat) (k:Int) (b:Rat) (am:List D) (s6 s7:Sl),(∀ i∈π,i < cs.length)->π.Pairwise (fun i j=>cR cs i * cR ws j<=cR cs j * cR ws i)->π.length<=12->am.length=cs.length->
  0<=k->k+π.length * 10^30 < 2^110->0<=q - (k:Rat)->q - (k:Rat)<=gT (cR cs) π->b * (wS ws π:Rat)<=q - (k:Rat)->
  ∃ t,b<=t/\gT (gets (cR cs) (cR ws) t) π=q - (k:Rat)/\(∀ i∈π,Sz (m+155) (gets (cR cs) (cR ws) t i))/\∃ l' W' s' t',eP (gName 6) bT (jB π) [.val wd,.val cd,qv,.val (dq (q - (k:Rat))),.val (.int (wS ws π)),.own am,s6,s7]=
   .ok (.nx [.val wd,.val cd,qv,l',W',.own (oY (π.map fun i=>(i,gets (cR cs) (cR ws) t i)) am),s',t'])
 | [],k,b,am,s6,s7,_,_,_,_,_,_,h6,h7,_=>⟨b,Rat.le_refl,by rw [gQ] at h7 ⊢;grind,fun i h=>by (cases h),_,_,_,_,rfl⟩
 | i::π,k,b,am,s6,s7,h1,h2,h3,h4,h5,h5',h6,h7,h8=>by
  have hi:=h1 i List.mem_cons_self
  have h1':∀ j∈π,j < cs.length:=fun j hj=>h1 j (List.mem_cons_of_mem _ hj)
  obtain ⟨W1,W2⟩:=hW.sum h1
  obtain ⟨V1,V2⟩:=hW.sum h1'
  obtain ⟨w1,w2⟩:=hW.at hi
  obtain ⟨c1,c2⟩:=hc _ (List.mem_of_getElem? (bQ hi))
  obtain ⟨p1,p2⟩:=List.pairwise_cons.mp h2
  rw [List.length_cons] at h3 h5' W1 W2
  have ek:((π.length+1:Nat):Int) * 10^30=(π.length:Int) * 10^30+10^30:=by rw [Int.natCast_add,Int.add_mul];rfl
  have k0:0<=(π.length:Int) * 10^30:=Int.mul_nonneg (by omega) (by decide)
  have zW:Sz 24 (wS ws (i::π):Rat):=cJ (by omega) (by decide)
  have zk:Sz 110 (k:Rat):=cJ (by omega) (by decide)
  have zL:Sz (m+111) (q - (k:Rat)):=(hq.sub zk).mono (by omega)
  have pW:(0:Rat) < (wS ws (i::π):Rat):=by exact_mod_cast (show 0 < wS ws (i::π) by omega)
  have nW:(wS ws (i::π):Rat)≠0:=fun z=>by rw [z] at pW;exact absurd pW (by decide)
  have pw:∀ j,j < cs.length->0 < cR ws j:=fun j hj=>by
   have:=(hW.at hj).1
   unfold cR
   exact_mod_cast (show 0 < ws.getD j 0 by omega)
  have e1:wS ws (i::π) - ws.getD i 0=wS ws π:=by rw [kW];omega
  have eW:(wS ws (i::π):Rat)=cR ws i+(wS ws π:Rat):=by rw [kW,Rat.intCast_add];rfl
  have pV:(0:Rat)<=(wS ws π:Rat):=by exact_mod_cast (show 0<=wS ws π by omega)
  generalize hL:q - (k:Rat)=L at h6 h7 h8 zL ⊢
  have loop1:∀ {a:Rat} {l' W' s' t':Sl} {am':List D},mn (L * cR ws i / (wS ws (i::π):Rat)) (cR cs i)=a->eP (gName 6) bT (jB π) [.val wd,.val cd,qv,.val (dq (L - a)),.val (.int (wS ws π)),.own (am.set i (dq a)),.val (.int (i:Nat)),.val (dq (L * cR ws i / (wS ws (i::π):Rat)))]=.ok (.nx [.val wd,.val cd,qv,l',W',.own am',s',t'])->
    eP (gName 6) bT (jB (i::π)) [.val wd,.val cd,qv,.val (dq L),.val (.int (wS ws (i::π))),.own am,s6,s7]=.ok (.nx [.val wd,.val cd,qv,l',W',.own am',s',t']):=fun {a l' W' s' t' am'} ea e=>by
   have tn:=zEW sw sc (qv:=qv) (s7:=s7) (W:=wS ws (i::π)) (am:=am) hW hc hm (zL.mono (by omega)) (by omega) (by omega) hi h4 ea
   rw [e1] at tn
   show eP _ _ (.int (i:Nat)::jB π) _=_
   rw [gD rfl tn]
   exact e
  by_cases hx:L * cR ws i / (wS ws (i::π):Rat) < cR cs i
  ·obtain ⟨x1,x2⟩:=zFr pW hx
   generalize hr:L / (wS ws (i::π):Rat)=r at x1 x2
   have zr:Sz (m+135) r:=hr ▸ (zL.div zW nW).mono (by omega)
   have eL:L=r * (wS ws (i::π):Rat):=by rw [<-hr,Rat.div_mul_cancel nW]
   have wr:cR ws i * r<=cR cs i:=by
    have e:L * cR ws i / (wS ws (i::π):Rat)=cR ws i * r:=by rw [<-hr];grind
    rw [e] at hx;exact Rat.le_of_lt hx
   have later:∀ j∈π,cR ws j * r<=cR cs j:=fun j hj=>zGh (pw i hi) (pw j (h1' j hj)) (p1 j hj) wr
   have gj:∀ j∈i::π,gets (cR cs) (cR ws) r j=cR ws j * r:=fun j hj=>by
    have:cR ws j * r<=cR cs j:=by
     rcases List.mem_cons.mp hj with rfl | hj
     ·exact wr
     ·exact later j hj
    unfold gets mn
    grind
   have e2:L - cR ws i * r=r * (wS ws π:Rat):=by rw [eL,eW];grind
   obtain ⟨l',W',s',t',e⟩:=zAf sw sc (qv:=qv) hm hW hc (zr.mono (by omega)) π (am.set i (dq (cR ws i * r))) (.val (.int (i:Nat))) (.val (dq (L * cR ws i / (wS ws (i::π):Rat)))) h1' later (by omega) (by rw [List.length_set];exact h4)
   refine ⟨r,Rat.le_of_mul_le_mul_right (by rw [<-eL];exact h8) pW,?_,fun j hj=>?_,l',W',s',t',loop1 (a:=cR ws i * r) (x1.trans x2) ?_⟩
   ·rw [dS gj,dC,lK,<-eL]
   ·rw [gj j hj]
    have v:=hW.at (h1 j hj)
    exact (Sz.mul (m:=20) (n:=m+135) (cJ (by omega) (by decide)) zr).mono (by omega)
   ·rw [e2,e,List.map_cons,oY,gj i List.mem_cons_self]
    rw [List.map_congr_left (g:=fun j=>(j,gets (cR cs) (cR ws) r j)) fun j hj=>by rw [gj j (List.mem_cons_of_mem _ hj)]]
  ·have ea:mn (L * cR ws i / (wS ws (i::π):Rat)) (cR cs i)=cR cs i:=if_neg hx
   obtain ⟨b',g1,g2,g3⟩:=zDE (pw i hi) hx pW h8
   have ek2:q - ((k+cs.getD i 0:Int):Rat)=L - cR cs i:=by rw [Rat.intCast_add,<-hL];show q - ((k:Rat)+cR cs i)=_;grind
   have c0:0<=cR cs i:=by unfold cR;exact_mod_cast c1
   have cL:cR cs i<=L:=by
    have y:=Rat.mul_le_mul_of_nonneg_right (Rat.not_lt.mp hx) (Rat.le_of_lt pW)
    rw [Rat.div_mul_cancel nW] at y
    have y2:L * cR ws i<=L * (wS ws (i::π):Rat):=Rat.mul_le_mul_of_nonneg_left (by rw [eW];grind) h6
    exact Rat.le_of_mul_le_mul_right (Rat.le_trans y y2) pW
   rw [bA] at h7
   have g3':b' * (wS ws π:Rat)<=L - cR cs i:=by
    rw [eW] at g3
    have:cR ws i+(wS ws π:Rat) - cR ws i=(wS ws π:Rat):=by grind
    rw [this] at g3;exact g3
   obtain ⟨t,t1,t2,tz,l',W',s',t',e⟩:=zBa sw sc (qv:=qv) hm hW hc hq π (k+cs.getD i 0) b' (am.set i (dq (cR cs i))) (.val (.int (i:Nat))) (.val (dq (L * cR ws i / (wS ws (i::π):Rat)))) h1' p2 (by omega) (by rw [List.length_set];exact h4) (by omega) (by omega) (by rw [ek2];grind) (by rw [ek2];grind) (by rw [ek2];exact g3')
   have gi:gets (cR cs) (cR ws) t i=cR cs i:=by
    have:=Rat.mul_le_mul_of_nonneg_left t1 (Rat.le_of_lt (pw i hi))
    unfold gets mn
    grind
   rw [ek2] at e t2
   refine ⟨t,Rat.le_trans g1 t1,?_,fun j hj=>?_,l',W',s',t',loop1 ea ?_⟩
   ·rw [bA,gi,t2];grind
   ·rcases List.mem_cons.mp hj with rfl | hj
    ·rw [gi];exact Sz.mono (m:=100) (cJ (by omega) (by decide)) (by omega)
    ·exact tz j hj
   ·rw [e,List.map_cons,oY,gi]
theorem wD {g:Nat->Rat}:∀ (π:List Nat) (am:List D) (j:Nat),(oY (π.map fun i=>(i,g i)) am)[j]?=if j∈π then (if j < am.length then some (dq (g j)) else none) else am[j]?
 | [],am,j=>by simp [oY]
 | i::π,am,j=>by
  rw [List.map_cons,oY,wD π,List.length_set]
  by_cases h1:j∈π
  ·rw [if_pos h1,if_pos (List.mem_cons_of_mem _ h1)]
  ·rw [if_neg h1]
   by_cases h2:j=i
   ·subst h2
    rw [if_pos List.mem_cons_self]
    by_cases h3:j < am.length
    ·rw [if_pos h3];exact List.getElem?_set_self h3
    ·rw [if_neg h3,List.getElem?_eq_none (by rw [List.length_set];omega)]
   ·rw [if_neg (by simp [h1,h2]),List.getElem?_set_ne (fun z=>h2 z.symm)]
theorem zDR {g:Nat->Rat} {π:List Nat} {n:Nat} (h:π.Perm (List.range n)):oY (π.map fun i=>(i,g i)) (List.replicate n (dq 0))=((List.range n).map g).map dq:=by
 refine List.ext_getElem? fun j=>?_
 rw [wD,List.getElem?_map,List.getElem?_map,List.length_replicate]
 by_cases hj:j < n
 ·rw [if_pos (h.mem_iff.mpr (List.mem_range.mpr hj)),if_pos hj,List.getElem?_range hj];rfl
 ·rw [if_neg (fun z=>hj (List.mem_range.mp (h.mem_iff.mp z))),List.getElem?_eq_none (by rw [List.length_replicate];omega),List.getElem?_eq_none (by rw [List.length_range];omega)];rfl
theorem zCe (kz:List Int):∃ π,gA kz π:=by
 refine ⟨(List.range kz.length).mergeSort (fun i j=>decide (kz.getD i 0<=kz.getD j 0)),List.mergeSort_perm _ _,?_⟩
 have:=List.pairwise_mergeSort (le:=fun i j=>decide (kz.getD i 0<=kz.getD j 0)) (fun a b c h1 h2=>by simp only [decide_eq_true_eq] at *;omega) (fun a b=>by simp only [Bool.or_eq_true,decide_eq_true_eq];omega) (List.range kz.length)
 exact this.imp fun h=>of_decide_eq_true h
theorem zGD {fs:Fv} {kf:List D->Res (List Int)} {g:Gv} {b r:Sv} {ρ:Rho} {kz:List Int} {x:Res Fl} (h1:(fs ρ).bind kf=.ok kz) (h:∀ π,gA kz π->bF (fun ρ=>eP g b (jB π) ρ) r ρ=x):zES fs kf g b r ρ=x:=by
 obtain ⟨π,hπ⟩:=zCe kz
 unfold zES
 rw [h1]
 exact zDD hπ h
def rJ:List Rat->Int
 | []=>1
 | x::r=>x.den * rJ r
def zGO (B:Int) (x:Rat):Int:=x.num * B.fdiv x.den
theorem zDe:∀ {l:List Rat} {x:Rat},x∈l->(x.den:Int) ∣ rJ l
 | y::r,x,h=>by
  rcases List.mem_cons.mp h with rfl | h
  ·exact ⟨rJ r,rfl⟩
  ·exact Int.dvd_trans (zDe h) ⟨y.den,Int.mul_comm _ _⟩
theorem xM:∀ l:List Rat,0 < rJ l
 | []=>by decide
 | x::r=>Int.mul_pos (jD x) (xM r)
theorem zIg {l:List Rat} {x:Rat} (h:x∈l):((zGO (rJ l) x:Int):Rat)=x * (rJ l:Rat):=by
 obtain ⟨k,hk⟩:=zDe h
 have d0:=jD x
 unfold zGO
 rw [fdiv_pos _ d0,hk,Int.mul_ediv_cancel_left _ (by omega),Rat.intCast_mul,Rat.intCast_mul]
 have e:x * ((x.den:Int):Rat)=(x.num:Rat):=by
  have h1:=Rat.num_divInt_den x
  rw [Rat.divInt_eq_div] at h1
  have h2:((x.den:Int):Rat)≠0:=fun z=>by
   have:(x.den:Int)=0:=by exact_mod_cast z
   omega
  rw [<-Rat.div_mul_cancel (a:=(x.num:Rat)) h2,h1]
 rw [<-e]
 grind
theorem zAK {a:Sl}:∀ (l:List Rat) (B:Int) (s:Sl) (m:Nat),(∀ x∈l,(x.den:Int)<=10^6)->B.natAbs < 2^m->m+20 * l.length<=1000->
  ∃ s',eP (gName 2) vX (l.map dq) [a,.val (.int B),s]=.ok (.nx [a,.val (.int (B * rJ l)),s'])/\(B * rJ l).natAbs < 2^(m+20 * l.length)
 | [],B,s,m,_,h2,_=>⟨s,by rw [List.map_nil,eP,rJ,Int.mul_one],by rw [rJ,Int.mul_one];exact h2⟩
 | x::r,B,s,m,h1,h2,h3=>by
  have d1:=h1 x List.mem_cons_self
  have d0:=jD x
  rw [List.length_cons] at h3
  have hx:((x.den:Int)).natAbs < 2^20:=by omega
  obtain ⟨s',e,hb⟩:=zAK r (B * x.den) (.val (dq x)) (m+20) (fun y hy=>h1 y (List.mem_cons_of_mem _ hy)) (dX h2 hx) (by omega)
  have ed:B * rJ (x::r)=B * x.den * rJ r:=by rw [rJ,Int.mul_assoc]
  refine ⟨s',?_,by rw [ed,List.length_cons,show m+20 * (r.length+1)=m+20+20 * r.length by omega];exact hb⟩
  rw [ed,<-e,List.map_cons]
  refine gD (ρ1:=[a,.val (.int B),.val (dq x)]) rfl ?_
  walk_at "ev"
  rw [oMul_i (bM (m:=m) (n:=20) h2 hx (by omega))]
  walk_at "ev"
theorem zCx {B:Int} (hB:B.natAbs < 2^1000):∀ {l:List Rat},(∀ x∈l,(x.den:Int)<=10^6/\Sz 500 x)->nF B (l.map dq)=.ok (l.map (zGO B))
 | [],_=>rfl
 | x::r,h=>by
  obtain ⟨d1,z⟩:=h x List.mem_cons_self
  have d0:=jD x
  have e1:kJ (x.den:Int)=true:=rK (m:=20) (by omega) (by omega) (by decide)
  have e2:iV x.num (B.fdiv x.den)=true:=by
   rw [fdiv_pos _ d0]
   refine bM (m:=500) (n:=1000) z.1 (Nat.lt_of_le_of_lt ?_ hB) (by decide)
   exact Int.natAbs_ediv_le_natAbs _ _
  have k1:zGN B (dq x)=.ok (zGO B x):=by
   show (if (kJ (x.den:Int) && iV x.num (B.fdiv x.den))=true then Res.ok _ else .no)=_
   rw [e1,e2];rfl
  rw [List.map_cons,nF,k1]
  show ((nF B (r.map dq)).bind fun ks=>Res.ok (zGO B x::ks))=_
  rw [zCx hB fun y hy=>h y (List.mem_cons_of_mem _ hy)]
  rfl
theorem wC {l:List Rat} (h:∀ x∈l,(x.den:Int)<=10^6/\Sz 500 x) (hl:l.length<=12):iM [.lst (l.map dq)]=.ok (l.map (zGO (rJ l))):=by
 obtain ⟨s',e,hb⟩:=zAK (a:=.val (.lst (l.map dq))) l 1 .un 1 (fun x hx=>(h x hx).1) (by decide) (by omega)
 rw [Int.one_mul] at e hb
 have r1:zAj (start 3 [.lst (l.map dq)])=.ok (.nx [.val (.lst (l.map dq)),.val (.int 1),.un]):=rfl
 have r2:tV [.val (.lst (l.map dq)),.val (.int 1),.un]=.ok (.nx [.val (.lst (l.map dq)),.val (.int (rJ l)),s']):=by
  walk_at "ev"
  exact e
 unfold iM xU
 rw [if_pos (show [D.lst (l.map dq)].length=1 from rfl),r1]
 show (match tV [.val (.lst (l.map dq)),.val (.int 1),.un] with | .ok (.nx ρ')=>zCH ρ' | _=>.no)=_
 rw [r2]
 show (if (l.map dq).length < 64 then nF (rJ l) (l.map dq) else .no)=_
 rw [if_pos (by rw [List.length_map];omega)]
 exact zCx (Nat.lt_of_lt_of_le hb (Nat.pow_le_pow_right (by decide) (by omega))) h
def lvs (ws cs:List Int):List Rat:=(cs.zip ws).map fun p=>Rat.divInt p.1 p.2
theorem xY {ws cs:List Int} (h:ws.length=cs.length):(lvs ws cs).length=cs.length:=by unfold lvs;rw [List.length_map,List.length_zip,h,Nat.min_self]
theorem zFD {ws cs:List Int} {i:Nat} (h:ws.length=cs.length) (hi:i < cs.length):(lvs ws cs)[i]?=some (cR cs i / cR ws i):=by
 unfold lvs
 rw [List.getElem?_map]
 have:(cs.zip ws)[i]?=some (cs.getD i 0,ws.getD i 0):=by
  rw [List.getElem?_zip_eq_some]
  exact ⟨bQ hi,bQ (by omega)⟩
 rw [this]
 show some (Rat.divInt _ _)=_
 rw [Rat.divInt_eq_div]
 rfl
theorem zCQ {t b:Int} (hb:0 < b):((Rat.divInt t b).den:Int)<=b:=by
 have e:=vY (t:=t) (b:=b) (by omega)
 have d0:0<=dv t b:=by unfold dv;rw [if_neg (by omega)];exact Int.natCast_nonneg _
 rw [<-e,zKE _ d0]
 exact Int.ediv_le_self _ (by omega)
theorem zIk {ws cs:List Int} (hW:Wt ws cs) (hc:∀ c∈cs,0<=c/\c < 10^30):∀ x∈lvs ws cs,(x.den:Int)<=10^6/\Sz 500 x:=fun x hx=>by
 obtain ⟨p,hp,rfl⟩:=List.mem_map.mp hx
 obtain ⟨h1,h2⟩:=List.of_mem_zip hp
 have c:=hc _ h1
 have w1:=hW.lo _ h2
 have w2:=hW.up _ h2
 have d:=zCQ (t:=p.1) (b:=p.2) (by omega)
 exact ⟨by omega,Sz.of (by omega) (by omega) (by omega)⟩
theorem tP {ws cs:List Int} {wd cd:D} (sw:Sq wd ws) (sc:Sq cd cs) (hW:Wt ws cs) (hl:cs.length<=12):dJ [wd,cd]=.ok (.f ((lvs ws cs).map dq)):=by
 have hw:=hW.len
 unfold dJ
 walk_at "ev"
 rw [lD sc.seqo sw.seqo]
 walk_at "ev"
 rw [jK (u:=D.int) (v:=D.int) (g:=fun c w=>dq (Rat.divInt c w)) (by omega) (fun p hp=>by
  have h2:=(List.of_mem_zip hp).2
  have w1:=hW.lo _ h2
  have w2:=hW.up _ h2
  walk_at "ev"
  rw [zAX (n:=20) (by omega) (by omega) (by decide)]
  walk_at "ev")]
 walk_at "ev"
 unfold lvs
 rw [List.map_map]
 rfl
theorem xT (ws:List Int):∀ n,n<=ws.length->wS ws (List.range n)=(ws.take n).sum
 | 0,_=>rfl
 | n+1,h=>by
  have e:wS ws (List.range n++[n])=wS ws (List.range n)+ws.getD n 0:=by unfold wS;rw [List.map_append,List.sum_append];simp
  rw [List.range_succ,e,xT ws n (by omega),List.take_succ,List.sum_append,bQ (show n < ws.length by omega)]
  simp
theorem xF {ws:List Int} {π:List Nat} (h:π.Perm (List.range ws.length)):wS ws π=ws.sum:=by
 have e:=lK ws π
 rw [tE h,lK,xT ws _ (Nat.le_refl _),List.take_length] at e
 have:=Rat.intCast_inj.mp e
 omega
theorem zIp {a b:Sv} {ρ ρ':Rho} (h:a ρ=.ok (.nx ρ')):bF a b ρ=b ρ':=by unfold bF;rw [h];rfl
def evs (ws cs:List Int) (t:Rat):List Rat:=(List.range cs.length).map (gets (cR cs) (cR ws) t)
theorem qO {ws cs:List Int} {wd cd:D} (sw:Sq wd ws) (sc:Sq cd cs) {q:Rat} {m:Nat} (hmm:m<=3000) (hW:Wt ws cs) (hc:Cl cs) (hq:Sz m q) (h0:0<=q) (h1:q<=(cs.sum:Rat)):∃ t,0<=t/\cQ [wd,cd,dq q]=.ok (.f ((evs ws cs t).map dq))/\(evs ws cs t).sum=q/\∀ i,i < cs.length->Sz (m+155) (gets (cR cs) (cR ws) t i):=by
 have hcc:∀ c∈cs,0<=c/\c < 10^30:=fun c h=>⟨hc.nn c h,hc.up c h⟩
 have hi:=hc.hi
 have hw:=hW.len
 have hkr:=wC (zIk hW hcc) (by rw [xY hw];exact hi)
 generalize hkz:(lvs ws cs).map (zGO (rJ (lvs ws cs)))=kz at hkr
 have lz:kz.length=cs.length:=by rw [<-hkz,List.length_map,xY hw]
 have pw:∀ j,j < cs.length->0 < cR ws j:=fun j hj=>by
  have:=(hW.at hj).1
  unfold cR
  exact_mod_cast (show 0 < ws.getD j 0 by omega)
 have one:∀ π,gA kz π->∃ t,0<=t/\gT (gets (cR cs) (cR ws) t) (List.range cs.length)=q/\(∀ i,i < cs.length->Sz (m+155) (gets (cR cs) (cR ws) t i))/\bF (fun ρ=>eP (gName 6) bT (jB π) ρ) jE [.val wd,.val cd,.val (dq q),.val (dq q),.val (.int ws.sum),.own (List.replicate cs.length (dq 0)),.un,.un]=.ok (.ret (.f ((evs ws cs t).map dq))):=by
  intro π hπ
  obtain ⟨hp,ho⟩:=hπ
  rw [lz] at hp
  have hm:∀ i∈π,i < cs.length:=fun i h=>List.mem_range.mp (hp.mem_iff.mp h)
  have hl:π.length=cs.length:=by rw [hp.length_eq,List.length_range]
  have B0:=xM (lvs ws cs)
  have B0':(0:Rat) < (rJ (lvs ws cs):Rat):=by exact_mod_cast B0
  have kat:∀ i,i < cs.length->((kz.getD i 0:Int):Rat)=cR cs i / cR ws i * (rJ (lvs ws cs):Rat):=fun i h=>by
   have e:=zFD hw h
   have e2:kz.getD i 0=zGO (rJ (lvs ws cs)) (cR cs i / cR ws i):=by rw [<-hkz,List.getD_eq_getElem?_getD,List.getElem?_map,e];rfl
   rw [e2]
   exact zIg (List.mem_of_getElem? e)
  have ord:π.Pairwise (fun i j=>cR cs i * cR ws j<=cR cs j * cR ws i):=by
   refine List.Pairwise.imp_of_mem (fun {i j} h1 h2 h3=>?_) ho
   have h4:((kz.getD i 0:Int):Rat)<=((kz.getD j 0:Int):Rat):=Rat.intCast_le_intCast.mpr h3
   rw [kat i (hm i h1),kat j (hm j h2)] at h4
   have h5:=Rat.le_of_mul_le_mul_right h4 B0'
   have wi:=pw i (hm i h1)
   have wj:=pw j (hm j h2)
   have h6:=Rat.mul_le_mul_of_nonneg_right h5 (Rat.le_of_lt (Rat.mul_pos wi wj))
   have e1:cR cs i / cR ws i * (cR ws i * cR ws j)=cR cs i * cR ws j:=by grind
   have e2:cR cs j / cR ws j * (cR ws i * cR ws j)=cR cs j * cR ws i:=by grind
   rwa [e1,e2] at h6
  have hW':wS ws π=ws.sum:=xF (by rw [hw];exact hp)
  have hC':gT (cR cs) π=(cs.sum:Rat):=by rw [lK,xF hp]
  have z0:q - ((0:Int):Rat)=q:=by rw [show ((0:Int):Rat)=0 from rfl];grind
  obtain ⟨t,t1,t2,tz,l',W',s',t',e⟩:=zBa sw sc (qv:=.val (dq q)) hmm hW hcc hq π 0 0 (List.replicate cs.length (dq 0)) .un .un hm ord (by omega) (by rw [List.length_replicate]) (by decide) (by rw [hl];omega) (by rw [z0];exact h0) (by rw [z0,hC'];exact h1) (by rw [z0];grind)
  rw [z0,hW'] at e
  rw [z0] at t2
  refine ⟨t,t1,by rw [<-tE hp];exact t2,fun i h=>tz i (hp.mem_iff.mpr (List.mem_range.mpr h)),?_⟩
  refine (zIp (a:=fun ρ=>eP (gName 6) bT (jB π) ρ) e).trans ?_
  rw [zDR hp]
  rfl
 obtain ⟨π0,hπ0⟩:=zCe kz
 obtain ⟨t,t1,t2,tz,e0⟩:=one π0 hπ0
 have pw':∀ i∈List.range cs.length,0 < cR ws i:=fun i h=>pw i (List.mem_range.mp h)
 refine ⟨t,t1,?_,t2,tz⟩
 unfold cQ
 walk_at "ev"
 rw [sw.sum]
 walk_at "ev"
 rw [sc.len]
 walk_at "ev"
 rw [zDw (by omega)]
 walk_at "ev"
 have hfs:Res.bind ((aE (eF (fB dJ (aE (aJ 0) (aE (aJ 1) aNil)))) aNil) [.val wd,.val cd,.val (dq q),.val (dq q),.val (.int ws.sum),.own (List.replicate cs.length (dq 0)),.un,.un]) iM=.ok kz:=by
  walk_at "ev"
  rw [tP sw sc hW hi]
  walk_at "ev"
  exact hkr
 have hall:∀ π,gA kz π->bF (fun ρ=>eP (gName 6) bT (jB π) ρ) jE [.val wd,.val cd,.val (dq q),.val (dq q),.val (.int ws.sum),.own (List.replicate cs.length (dq 0)),.un,.un]=.ok (.ret (.f ((evs ws cs t).map dq))):=fun π hπ=>by
  obtain ⟨u,_,u2,_,eu⟩:=one π hπ
  rw [eu]
  unfold evs
  rw [List.map_congr_left (wX pw' (u2.trans t2.symm))]
 unfold mB
 rw [zGD hfs hall]
 rfl
def ones (cs:List Int):List Int:=List.replicate cs.length 1
theorem hG (cs:List Int):Wt (ones cs) cs:=⟨List.length_replicate,fun w h=>by rw [(List.mem_replicate.mp h).2];decide,fun w h=>by rw [(List.mem_replicate.mp h).2];decide⟩
def hf:Rat:=Rat.divInt 1 2
theorem oV:hf=1 / 2:=by unfold hf;rw [Rat.divInt_eq_div];rfl
theorem zJw:d_HALF=dq hf:=zLj (b:=2) (by decide)
theorem zEg:Sz 2 hf:=Sz.of (by decide) (by decide) (by decide)
theorem dbl (q:Rat):q+q=q * ((2:Int):Rat):=by rw [show ((2:Int):Rat)=2 from rfl];grind
theorem zEw {q:Rat} {n:Nat} (h:Sz n q):Sz (n+2) (q+q):=by rw [dbl];exact h.mul (cJ (by decide) (by decide))
def hvs (cs:List Int) (t:Rat):List Rat:=(List.range cs.length).map fun i=>gets (cR cs) (cR (ones cs)) t i * hf
structure Lvl (M:Nat) (ws cs:List Int) (q t:Rat):Prop where
 nn:0<=t
 sum:(evs ws cs t).sum=q
 sz:∀ i,i < cs.length->Sz M (gets (cR cs) (cR ws) t i)
theorem zAa {cs:List Int} {cd:D} (sc:Sq cd cs) {q:Rat} {m:Nat} (hm:m<=2990) (hc:Cl cs) (hq:Sz m q) (h0:0<=q) (h1:q+q<=(cs.sum:Rat)):∃ t,Lvl (m+157) (ones cs) cs (q+q) t/\eG [cd,dq q]=.ok (.f ((hvs cs t).map dq)):=by
 have hi:=hc.hi
 obtain ⟨t,t1,e,t2,tz⟩:=qO (wd:=.lst ((ones cs).map D.int)) (.inl rfl) sc (m:=m+2) (by omega) (hG cs) hc (zEw hq) (by grind) h1
 refine ⟨t,⟨t1,t2,fun i h=>(tz i h).mono (by omega)⟩,?_⟩
 have eo:(ones cs).map D.int=List.replicate cs.length (.int 1):=by unfold ones;rw [List.map_replicate]
 rw [eo] at e
 have hh:=zJw
 unfold d_HALF at hh
 unfold eG
 walk_at "ev"
 rw [sc.len]
 walk_at "ev"
 rw [zDw (by omega)]
 walk_at "ev"
 rw [zCE hq hq (by omega)]
 walk_at "ev"
 rw [e]
 walk_at "ev"
 rw [show (evs (ones cs) cs t).map dq=(List.range cs.length).map (fun i=>dq (gets (cR cs) (cR (ones cs)) t i)) by unfold evs;rw [List.map_map];rfl]
 rw [eQ (u:=fun i=>dq (gets (cR cs) (cR (ones cs)) t i)) (g:=fun i=>dq (gets (cR cs) (cR (ones cs)) t i * hf)) (by rw [List.length_range];omega) (fun i h=>by
  have hil:=List.mem_range.mp h
  walk_at "ev"
  rw [hh,mT (tz i hil) zEg (by omega)]
  walk_at "ev")]
 walk_at "ev"
 unfold hvs
 rw [List.map_map]
 rfl
theorem Lvl.mono {M M':Nat} {ws cs:List Int} {q t:Rat} (h:Lvl M ws cs q t) (l:M<=M'):Lvl M' ws cs q t:=⟨h.nn,h.sum,fun i hi=>(h.sz i hi).mono l⟩
theorem sL {w v:Str} (h:aW.lookup w=some v):dO [.str w]=.ok (.v .non):=by
 unfold dO
 walk_at "ev"
 rw [h]
 rfl
theorem tQ {cs:List Int} {cd:D} (sc:Sq cd cs) (hc:Cl cs):dM [cd]=.ok (.v .non):=by
 have lo:=hc.lo
 unfold dM
 walk_at "ev"
 rw [sc.len]
 walk_at "ev"
 rw [decide_eq_false (by omega)]
 walk_at "ev"
 rw [sc.seq]
 walk_at "ev"
 refine xP (Q:=fun r=>r=(.ok (.v .non):Res Rt)) (fun ρ=>∃ a,ρ=[.val cd,a]) ⟨_,rfl⟩ ?_ ?_
 ·rintro e ρ he ⟨a,rfl⟩
  obtain ⟨c,h,rfl⟩:=List.mem_map.mp he
  have:=hc.nn c h
  refine ⟨_,?_,.val (.int c),rfl⟩
  walk_at "ev"
  rw [decide_eq_false (by omega)]
  walk_at "ev"
 ·rintro ρ ⟨a,rfl⟩
  rfl
theorem kR {α β:Type} (l:List α) (f:Nat->β) (d:α):l.zip ((List.range l.length).map f)=(List.range l.length).map fun i=>(l.getD i d,f i):=by
 refine List.ext_getElem? fun i=>?_
 rw [List.getElem?_map]
 by_cases h:i < l.length
 ·rw [List.getElem?_range h]
  refine List.getElem?_zip_eq_some.mpr ⟨?_,by rw [List.getElem?_map,List.getElem?_range h];rfl⟩
  show l[i]?=some (l.getD i d)
  rw [List.getD_eq_getElem?_getD,List.getElem?_eq_getElem h];rfl
 ·rw [List.getElem?_eq_none (by rw [List.length_zip];omega),List.getElem?_eq_none (by rw [List.length_range];omega)];rfl
theorem iR {w:Str} {d:D} {n:Int} (hd:d=.lst []∨d=.tup []) (hw:oIn (.str w) d_WEIGHTED=.ok (.bl false)):bN [.str w,d,.int n]=.ok (.v .non):=by
 have sq:zIO d=.ok []:=by rcases hd with rfl | rfl<;>rfl
 have ln:kM [d]=.ok (.int 0):=by rcases hd with rfl | rfl<;>rfl
 unfold d_WEIGHTED at hw
 unfold bN
 walk_at "ev"
 rw [hw]
 walk_at "ev"
 rw [ln]
 walk_at "ev"
 rw [sq]
 rfl
theorem zOl:rS 10 6=true:=by decide
theorem oE {w:Str} {ws cs:List Int} {wd:D} (sw:Sq wd ws) (hW:Wt ws cs) (hw:oIn (.str w) d_WEIGHTED=.ok (.bl true)):bN [.str w,wd,.int cs.length]=.ok (.v .non):=by
 have hl:=hW.len
 unfold d_WEIGHTED at hw
 unfold bN
 walk_at "ev"
 rw [hw]
 walk_at "ev"
 rw [sw.len]
 walk_at "ev"
 rw [hl,decide_eq_true rfl]
 walk_at "ev"
 rw [sw.seq]
 walk_at "ev"
 refine xP (Q:=fun r=>r=(.ok (.v .non):Res Rt)) (fun ρ=>∃ a,ρ=[.val (.str w),.val wd,.val (.int cs.length),.val (.int cs.length),a]) ⟨_,rfl⟩ ?_ ?_
 ·rintro e ρ he ⟨a,rfl⟩
  obtain ⟨c,h,rfl⟩:=List.mem_map.mp he
  have h1:=hW.lo c h
  have h2:=hW.up c h
  refine ⟨_,?_,.val (.int c),rfl⟩
  walk_at "ev"
  rw [decide_eq_false (by omega)]
  walk_at "ev"
  rw [oPow_i zOl]
  walk_at "ev"
  rw [decide_eq_false (by omega)]
  walk_at "ev"
 ·rintro ρ ⟨a,rfl⟩
  rfl
theorem zNZ:(Str.ofString "even" == Str.ofString "row")=false:=by decide
theorem zNM:(Str.ofString "lack" == Str.ofString "row")=false:=by decide
theorem zOe:(Str.ofString "lack" == Str.ofString "even")=false:=by decide
theorem zOg:(Str.ofString "lack" == Str.ofString "part")=false:=by decide
theorem zNQ:(Str.ofString "lack" == Str.ofString "half")=false:=by decide
theorem zDp:(aW.lookup (Str.ofString "even"))=some (Str.ofString "lack"):=by decide
theorem xI:(aW.lookup (Str.ofString "lack"))=some (Str.ofString "even"):=by decide
theorem zIN {n:Nat} {ws cs:List Int} {wd cd:D} (sw:Sq wd ws) (sc:Sq cd cs) {q:Rat} {m:Nat} (hm:m<=3000) (hW:Wt ws cs) (hc:Cl cs) (hq:Sz m q) (h0:0<=q) (h1:q<=(cs.sum:Rat)):∃ t,Lvl (m+155) ws cs q t/\aP (n+1) [.str (Str.ofString "even"),wd,cd,dq q]=.ok (.f ((evs ws cs t).map dq)):=by
 obtain ⟨t,t1,e,t2,tz⟩:=qO sw sc hm hW hc hq h0 h1
 refine ⟨t,⟨t1,t2,tz⟩,?_⟩
 show aU (aP n) _=_
 unfold aU
 walk_at "ev"
 rw [sc.sum]
 walk_at "ev"
 rw [cC]
 walk_at "ev"
 rw [zNZ]
 walk_at "ev"
 rw [e]
 walk_at "ev"
def lks (ws cs:List Int) (t:Rat):List Rat:=(cs.zip (evs ws cs t)).map fun p=>(p.1:Rat) - p.2
theorem zLz (ws cs:List Int) (t:Rat):lks ws cs t=(List.range cs.length).map fun i=>cR cs i - gets (cR cs) (cR ws) t i:=by
 unfold lks evs
 rw [kR cs _ 0,List.map_map]
 rfl
theorem zLS {n:Nat} {ws cs:List Int} {wd cd:D} (sw:Sq wd ws) (sc:Sq cd cs) {q:Rat} {m:Nat} (hm:m<=2890) (hW:Wt ws cs) (hc:Cl cs) (hq:Haul m q cs.sum):∃ t,Lvl (m+261) ws cs ((cs.sum:Rat) - q) t/\aP (n+2) [.str (Str.ofString "lack"),wd,cd,dq q]=.ok (.f ((lks ws cs t).map dq)):=by
 have sm:=hc.sum
 have hi:=hc.hi
 have zW:Sz 105 (cs.sum:Rat):=cJ (by omega) (by decide)
 have zT:Sz (m+106) ((cs.sum:Rat) - q):=(zW.sub hq.sz).mono (by omega)
 have u:=hq.up
 have u':=hq.nn
 obtain ⟨t,tl,e⟩:=zIN sw sc (n:=n) (m:=m+106) (by omega) hW hc zT (by grind) (by grind)
 refine ⟨t,tl,?_⟩
 show aU (aP (n+1)) _=_
 unfold aU
 walk_at "ev"
 rw [sc.sum]
 walk_at "ev"
 rw [cC]
 walk_at "ev"
 rw [zNM]
 walk_at "ev"
 rw [zOe]
 walk_at "ev"
 rw [zOg]
 walk_at "ev"
 rw [zNQ]
 walk_at "ev"
 rw [show tR aW (.str (Str.ofString "lack"))=.ok (.str (Str.ofString "even")) by show zKK (aW.lookup (Str.ofString "lack"))=_;rw [xI];rfl]
 walk_at "ev"
 rw [eD zW hq.sz (by omega)]
 walk_at "ev"
 rw [e]
 walk_at "ev"
 rw [lD sc.seqo rfl]
 walk_at "ev"
 rw [jK (u:=D.int) (v:=dq) (g:=fun c l=>dq ((c:Rat) - l)) (by omega) (fun p hp=>by
  have hp':=hp
  unfold evs at hp'
  rw [kR cs _ 0] at hp'
  obtain ⟨i,hir,rfl⟩:=List.mem_map.mp hp'
  have hil:=List.mem_range.mp hir
  have c1:=hc.nn _ (List.mem_of_getElem? (bQ hil))
  have c2:=hc.up _ (List.mem_of_getElem? (bQ hil))
  walk_at "ev"
  rw [cC]
  walk_at "ev"
  rw [eD (m:=100) (n:=m+261) (cJ (by omega) (by decide)) (tl.sz i hil) (by omega)]
  walk_at "ev")]
 walk_at "ev"
 unfold lks
 rw [List.map_map]
 rfl
theorem zMU:(Str.ofString "half" == Str.ofString "row")=false:=by decide
theorem zNd:(Str.ofString "half" == Str.ofString "even")=false:=by decide
theorem zNl:(Str.ofString "half" == Str.ofString "part")=false:=by decide
theorem wW:(aW.lookup (Str.ofString "half"))=some (Str.ofString "half"):=by decide
theorem zFx {n:Nat} {e:D} {cs:List Int} {cd:D} (sc:Sq cd cs) {q:Rat} {m:Nat} (hm:m<=2990) (hc:Cl cs) (hq:Sz m q) (h0:0<=q) (h1:q+q<=(cs.sum:Rat)):∃ t,Lvl (m+157) (ones cs) cs (q+q) t/\aP (n+1) [.str (Str.ofString "half"),e,cd,dq q]=.ok (.f ((hvs cs t).map dq)):=by
 have sm:=hc.sum
 have zW:Sz 105 (cs.sum:Rat):=cJ (by omega) (by decide)
 obtain ⟨t,tl,ee⟩:=zAa sc hm hc hq h0 h1
 refine ⟨t,tl,?_⟩
 show aU (aP n) _=_
 unfold aU
 walk_at "ev"
 rw [sc.sum]
 walk_at "ev"
 rw [cC]
 walk_at "ev"
 rw [zMU]
 walk_at "ev"
 rw [zNd]
 walk_at "ev"
 rw [zNl]
 walk_at "ev"
 rw [zCE hq hq (by omega)]
 walk_at "ev"
 rw [sW zW (zEw hq) (by omega),decide_eq_false (Rat.not_lt.mpr h1)]
 walk_at "ev"
 rw [ee]
 walk_at "ev"
def lhs (cs:List Int) (t:Rat):List Rat:=(List.range cs.length).map fun i=>cR cs i - gets (cR cs) (cR (ones cs)) t i * hf
theorem zKA {n:Nat} {e:D} {cs:List Int} {cd:D} (sc:Sq cd cs) {q:Rat} {m:Nat} (hm:m<=2880) (hc:Cl cs) (hq:Haul m q cs.sum) (h1:(cs.sum:Rat) < q+q):∃ t,Lvl (m+263) (ones cs) cs (((cs.sum:Rat) - q)+((cs.sum:Rat) - q)) t/\aP (n+2) [.str (Str.ofString "half"),e,cd,dq q]=.ok (.f ((lhs cs t).map dq)):=by
 have sm:=hc.sum
 have hi:=hc.hi
 have zW:Sz 105 (cs.sum:Rat):=cJ (by omega) (by decide)
 have zT:Sz (m+106) ((cs.sum:Rat) - q):=(zW.sub hq.sz).mono (by omega)
 have u:=hq.up
 obtain ⟨t,tl,ee⟩:=zFx sc (n:=n) (e:=e) (m:=m+106) (by omega) hc zT (by grind) (by grind)
 refine ⟨t,tl,?_⟩
 show aU (aP (n+1)) _=_
 unfold aU
 walk_at "ev"
 rw [sc.sum]
 walk_at "ev"
 rw [cC]
 walk_at "ev"
 rw [zMU]
 walk_at "ev"
 rw [zNd]
 walk_at "ev"
 rw [zNl]
 walk_at "ev"
 rw [zCE hq.sz hq.sz (by omega)]
 walk_at "ev"
 rw [sW zW (zEw hq.sz) (by omega),decide_eq_true h1]
 walk_at "ev"
 rw [show tR aW (.str (Str.ofString "half"))=.ok (.str (Str.ofString "half")) by show zKK (aW.lookup (Str.ofString "half"))=_;rw [wW];rfl]
 walk_at "ev"
 rw [eD zW hq.sz (by omega)]
 walk_at "ev"
 rw [ee]
 walk_at "ev"
 rw [lD sc.seqo rfl]
 walk_at "ev"
 rw [jK (u:=D.int) (v:=dq) (g:=fun c l=>dq ((c:Rat) - l)) (by omega) (fun p hp=>by
  have hp':=hp
  unfold hvs at hp'
  rw [kR cs _ 0] at hp'
  obtain ⟨i,hir,rfl⟩:=List.mem_map.mp hp'
  have hil:=List.mem_range.mp hir
  have c1:=hc.nn _ (List.mem_of_getElem? (bQ hil))
  have c2:=hc.up _ (List.mem_of_getElem? (bQ hil))
  walk_at "ev"
  rw [cC]
  walk_at "ev"
  rw [eD (m:=100) (n:=m+263+2) (cJ (by omega) (by decide)) ((tl.sz i hil).mul zEg) (by omega)]
  walk_at "ev")]
 walk_at "ev"
 unfold hvs lhs
 rw [kR cs _ 0,List.map_map,List.map_map]
 rfl
theorem zNW:(Str.ofString "back" == Str.ofString "row")=false:=by decide
theorem zNX:(Str.ofString "back" == Str.ofString "even")=false:=by decide
theorem zNU:(Str.ofString "back" == Str.ofString "part")=false:=by decide
theorem zOc:(Str.ofString "back" == Str.ofString "half")=false:=by decide
theorem zOa:(Str.ofString "part" == Str.ofString "row")=false:=by decide
theorem zNY:(Str.ofString "part" == Str.ofString "even")=false:=by decide
theorem zFq:(aW.lookup (Str.ofString "row"))=some (Str.ofString "back"):=by decide
theorem yU:(aW.lookup (Str.ofString "back"))=some (Str.ofString "row"):=by decide
theorem zDm:(aW.lookup (Str.ofString "part"))=some (Str.ofString "part"):=by decide
theorem zLE {n:Nat} {d e:D} {cs:List Int} {q:Rat} (hd:d=.lst (cs.map D.int)∨d=.tup (cs.map D.int)) {m:Nat} (hm:m<=3000) (hc:Cl cs) (hq:Sz m q) (h0:0<=q):aP (n+1) [.str (Str.ofString "row"),e,d,dq q]=.ok (.f ((iC cs 0 q).map dq)):=by
 have su:zBR [d]=.ok (.int cs.sum):=by rcases hd with rfl | rfl;exact bSum_l;exact bSum_t
 show aU (aP n) _=_
 unfold aU
 walk_at "ev"
 rw [su]
 walk_at "ev"
 rw [cC]
 walk_at "ev"
 rw [zCc hd hm hc hq h0]
 walk_at "ev"
theorem zMw {n:Nat} {d e:D} {cs:List Int} {q:Rat} (hd:d=.lst (cs.map D.int)∨d=.tup (cs.map D.int)) {m:Nat} (hm:m<=3000) (hc:Cl cs) (hq:Sz m q):aP (n+1) [.str (Str.ofString "part"),e,d,dq q]=.ok (.f ((zA cs q).map dq)):=by
 have su:zBR [d]=.ok (.int cs.sum):=by rcases hd with rfl | rfl;exact bSum_l;exact bSum_t
 show aU (aP n) _=_
 unfold aU
 walk_at "ev"
 rw [su]
 walk_at "ev"
 rw [cC]
 walk_at "ev"
 rw [zOa]
 walk_at "ev"
 rw [zNY]
 walk_at "ev"
 rw [zBc hd hm hc hq]
 walk_at "ev"
theorem zIA (f g:Nat->Rat):∀ n:Nat,((List.range n).map fun i=>f i - g i).sum=((List.range n).map f).sum - ((List.range n).map g).sum
 | 0=>by simp only [List.range_zero,List.map_nil,List.sum_nil];grind
 | n+1=>by
  rw [List.range_succ,List.map_append,List.map_append,List.map_append,List.sum_append,List.sum_append,List.sum_append,zIA f g n]
  simp only [List.map_cons,List.map_nil,List.sum_cons,List.sum_nil]
  grind
theorem nU (cs:List Int):((List.range cs.length).map (cR cs)).sum=(cs.sum:Rat):=by
 have e:=lK cs (List.range cs.length)
 rw [xT cs _ (Nat.le_refl _),List.take_length] at e
 exact e
theorem jV {ws cs:List Int} {t:Rat} (hW:Wt ws cs) (hc:Cl cs) (h0:0<=t) {i:Nat} (hi:i < cs.length):0<=gets (cR cs) (cR ws) t i/\gets (cR cs) (cR ws) t i<=cR cs i:=by
 have w:=(hW.at hi).1
 have c:=hc.nn _ (List.mem_of_getElem? (bQ hi))
 have w':(0:Rat)<=cR ws i:=by unfold cR;exact_mod_cast (show 0<=ws.getD i 0 by omega)
 have c':(0:Rat)<=cR cs i:=by unfold cR;exact_mod_cast c
 have:=Rat.mul_nonneg w' h0
 unfold gets mn
 grind
theorem yF (l:List Int):dep (.lst (l.map D.int))<=2:=by
 have:depS (l.map D.int)<=1:=by
  induction l with
  | nil=>exact Nat.zero_le _
  | cons a l ih=>rw [List.map_cons];show max 0 (depS (l.map D.int))<=1;omega
 show depS (l.map D.int)+1<=2
 omega
theorem zLT (x:Rat):(x.num:Rat)=x * ((x.den:Int):Rat):=by
 have d0:=jD x
 have nd:((x.den:Int):Rat)≠0:=fun z=>by
  have:(x.den:Int)=0:=by exact_mod_cast z
  omega
 have h1:=Rat.num_divInt_den x
 rw [Rat.divInt_eq_div] at h1
 rw [<-Rat.div_mul_cancel (a:=(x.num:Rat)) nd,h1]
theorem zGA {l:List Rat} {n:Nat} (h:l.length=n):l=(List.range n).map fun i=>l.getD i 0:=by
 refine List.ext_getElem? fun i=>?_
 rw [List.getElem?_map]
 by_cases hi:i < n
 ·rw [List.getElem?_range hi,List.getElem?_eq_getElem (by omega)]
  show _=some (l.getD i 0)
  rw [List.getD_eq_getElem?_getD,List.getElem?_eq_getElem (by omega)];rfl
 ·rw [List.getElem?_eq_none (by omega),List.getElem?_eq_none (by rw [List.length_range];omega)];rfl
def zEj (cs:List Int) (q:Rat) (i:Nat):Rat:=(iC cs 0 q).getD i 0
theorem zGt:∀ (cs:List Int) (a:Int) (q:Rat) (i:Nat),(∀ c∈cs,0<=c)->i < cs.length->0<=(iC cs a q).getD i 0/\(iC cs a q).getD i 0<=cR cs i
 | c::r,a,q,0,h,_=>by
  have c0:(0:Rat)<=(c:Rat):=by exact_mod_cast h c List.mem_cons_self
  show 0<=mn (ps0 (q - (a:Rat))) (c:Rat)/\mn (ps0 (q - (a:Rat))) (c:Rat)<=(c:Rat)
  unfold mn ps0
  grind
 | c::r,a,q,i+1,h,hi=>zGt r (a+c) q i (fun x hx=>h x (List.mem_cons_of_mem _ hx)) (by rw [List.length_cons] at hi;omega)
theorem sP:∀ (cs:List Int) (a:Int) {q q':Rat} (i:Nat),q<=q'->(iC cs a q).getD i 0<=(iC cs a q').getD i 0
 | [],_,_,_,_,_=>Rat.le_refl
 | c::r,a,q,q',0,h=>by
  show mn (ps0 (q - (a:Rat))) (c:Rat)<=mn (ps0 (q' - (a:Rat))) (c:Rat)
  unfold mn ps0
  grind
 | c::r,a,q,q',i+1,h=>sP r (a+c) i h
theorem zDt:∀ (cs:List Int) (a:Int) (q:Rat),(∀ c∈cs,0<=c)->0<=cs.sum/\(iC cs a q).sum=mn (ps0 (q - (a:Rat))) (cs.sum:Rat)
 | [],a,q,_=>⟨Int.le_refl _,by show (0:Rat)=mn (ps0 _) ((0:Int):Rat);rw [show ((0:Int):Rat)=0 from rfl];unfold mn ps0;grind⟩
 | c::r,a,q,h=>by
  have c0:=h c List.mem_cons_self
  obtain ⟨s0,e⟩:=zDt r (a+c) q fun x hx=>h x (List.mem_cons_of_mem _ hx)
  have c0':(0:Rat)<=(c:Rat):=by exact_mod_cast c0
  have s0':(0:Rat)<=(r.sum:Rat):=by exact_mod_cast s0
  rw [List.sum_cons]
  refine ⟨by omega,?_⟩
  rw [iC,List.sum_cons,e,Rat.intCast_add,Rat.intCast_add]
  unfold mn ps0
  grind
theorem zFf {q:Rat} {m:Nat} (hq:Sz m q):∀ (cs:List Int) (a:Int),(∀ c∈cs,0<=c)->(∀ c∈cs,c < 10^30)->0<=a->a+cs.length * 10^30 < 2^110->∀ x∈iC cs a q,Sz (m+111) x
 | [],_,_,_,_,_,x,hx=>by cases hx
 | c::r,a,h1,h2,h3,h4,x,hx=>by
  have c0:=h1 c List.mem_cons_self
  have c1:=h2 c List.mem_cons_self
  rw [List.length_cons] at h4
  have e4:((r.length+1:Nat):Int) * 10^30=(r.length:Int) * 10^30+10^30:=by rw [Int.natCast_add,Int.add_mul];rfl
  have r0:0<=(r.length:Int) * 10^30:=Int.mul_nonneg (by omega) (by decide)
  rw [iC] at hx
  rcases List.mem_cons.mp hx with rfl | hx
  ·exact zKg (zLx (hq.sub (cJ (n:=110) (by omega) (by decide))) (by omega)) (Sz.mono (m:=100) (cJ (by omega) (by decide)) (by omega))
  ·exact zFf hq r (a+c) (fun x hx=>h1 x (List.mem_cons_of_mem _ hx)) (fun x hx=>h2 x (List.mem_cons_of_mem _ hx)) (by omega) (by omega) x hx
theorem zBT {cs:List Int} {q:Rat} {m:Nat} (hc:Cl cs) (hq:Sz m q) (h0:0<=q) (h1:q<=(cs.sum:Rat)):(iC cs 0 q=(List.range cs.length).map (zEj cs q))/\(iC cs 0 q).sum=q/\∀ x∈iC cs 0 q,Sz (m+111) x:=by
 have hi:=hc.hi
 refine ⟨zGA (zAp _ _ _),?_,zFf hq cs 0 hc.nn hc.up (by decide) (by omega)⟩
 rw [(zDt cs 0 q hc.nn).2,show ((0:Int):Rat)=0 from rfl]
 unfold mn ps0
 grind
theorem zMd {n:Nat} {e:D} {cs:List Int} {cd:D} (sc:Sq cd cs) {q:Rat} {m:Nat} (hm:m<=2890) (hc:Cl cs) (hq:Haul m q cs.sum):aP (n+2) [.str (Str.ofString "back"),e,cd,dq q]=.ok (.f (((List.range cs.length).map fun i=>cR cs i - zEj cs ((cs.sum:Rat) - q) i).map dq)):=by
 have sm:=hc.sum
 have hi:=hc.hi
 have zW:Sz 105 (cs.sum:Rat):=cJ (by omega) (by decide)
 have zT:Sz (m+106) ((cs.sum:Rat) - q):=(zW.sub hq.sz).mono (by omega)
 have u:=hq.up
 have u':=hq.nn
 obtain ⟨r1,r2,r3⟩:=zBT hc zT (by grind) (by grind)
 have ee:=zLE (n:=n) (e:=e) sc (m:=m+106) (by omega) hc zT (by grind)
 show aU (aP (n+1)) _=_
 unfold aU
 walk_at "ev"
 rw [sc.sum]
 walk_at "ev"
 rw [cC]
 walk_at "ev"
 rw [zNW]
 walk_at "ev"
 rw [zNX]
 walk_at "ev"
 rw [zNU]
 walk_at "ev"
 rw [zOc]
 walk_at "ev"
 rw [show tR aW (.str (Str.ofString "back"))=.ok (.str (Str.ofString "row")) by show zKK (aW.lookup (Str.ofString "back"))=_;rw [yU];rfl]
 walk_at "ev"
 rw [eD zW hq.sz (by omega)]
 walk_at "ev"
 rw [ee]
 walk_at "ev"
 rw [lD sc.seqo rfl]
 walk_at "ev"
 rw [jK (u:=D.int) (v:=dq) (g:=fun c l=>dq ((c:Rat) - l)) (by omega) (fun p hp=>by
  obtain ⟨p1,p2⟩:=List.of_mem_zip hp
  have c1:=hc.nn _ p1
  have c2:=hc.up _ p1
  walk_at "ev"
  rw [cC]
  walk_at "ev"
  rw [eD (m:=100) (n:=m+106+111) (cJ (by omega) (by decide)) (r3 _ p2) (by omega)]
  walk_at "ev")]
 walk_at "ev"
 rw [r1,kR cs _ 0,List.map_map,List.map_map]
 rfl
def jL (cs:List Int) (q:Rat) (i:Nat):Rat:=(zA cs q).getD i 0
theorem zDf {cs:List Int} {q:Rat} {i:Nat} (hi:i < cs.length):jL cs q i=Rat.divInt (cs.getD i 0 * q.num) (max 1 cs.sum * q.den):=by
 unfold jL zA
 rw [List.getD_eq_getElem?_getD,List.getElem?_map,bQ hi]
 rfl
theorem kP {cs:List Int} {q:Rat} (hc:Cl cs) {i:Nat} (hi:i < cs.length):jL cs q i * (cs.sum:Rat)=q * cR cs i/\(cs.sum=0->jL cs q i=0):=by
 have sm:=hc.sum
 have e:=zDf (q:=q) hi
 by_cases z:cs.sum=0
 ·have c0:=nV hc.nn z _ (List.mem_of_getElem? (bQ hi))
  have p0:jL cs q i=0:=by rw [e,c0,Int.zero_mul,Rat.zero_divInt]
  refine ⟨?_,fun _=>p0⟩
  rw [p0]
  unfold cR
  rw [c0,show ((0:Int):Rat)=0 from rfl]
  grind
 ·have W0:0 < cs.sum:=by omega
  have nW:(cs.sum:Rat)≠0:=fun y=>by
   have:cs.sum=0:=by exact_mod_cast y
   omega
  refine ⟨?_,fun y=>absurd y z⟩
  rw [e,Int.max_eq_right (by omega),<-zFm W0]
  show q / (cs.sum:Rat) * cR cs i * (cs.sum:Rat)=_
  grind
theorem zFW {cs:List Int} {q:Rat} {m:Nat} (hc:Cl cs) (hq:Sz m q) {i:Nat} (hi:i < cs.length):Sz (m+370) (jL cs q i):=by
 have sm:=hc.sum
 have c1:=hc.nn _ (List.mem_of_getElem? (bQ hi))
 have c2:=hc.up _ (List.mem_of_getElem? (bQ hi))
 rw [zDf hi]
 have d0:=jD q
 have p:=Int.mul_pos (show 0 < max 1 cs.sum by omega) d0
 exact Sz.of (by omega) (Nat.lt_of_lt_of_le (dX (m:=100) (n:=m) (by omega) hq.1) (Nat.pow_le_pow_right (by decide) (by omega))) (Nat.lt_of_lt_of_le (dX (m:=110) (n:=m) (by omega) hq.d) (Nat.pow_le_pow_right (by decide) (by omega)))
inductive Wy where
 | row | back | even | lack | part | half
def Wy.s:Wy->Str
 | .row=>Str.ofString "row"
 | .back=>Str.ofString "back"
 | .even=>Str.ofString "even"
 | .lack=>Str.ofString "lack"
 | .part=>Str.ofString "part"
 | .half=>Str.ofString "half"
def Wy.due (w:Wy) (ws cs:List Int):Prop:=match w with
 | .even=>Wt ws cs
 | .lack=>Wt ws cs
 | _=>ws=[]
def Al (M:Nat) (ws cs:List Int) (q:Rat) (f:Nat->Rat):Wy->Prop
 | .row=>∀ i,i < cs.length->f i=zEj cs q i
 | .back=>∀ i,i < cs.length->f i=cR cs i - zEj cs ((cs.sum:Rat) - q) i
 | .even=>∃ t,Lvl M ws cs q t/\∀ i,i < cs.length->f i=gets (cR cs) (cR ws) t i
 | .lack=>∃ t,Lvl M ws cs ((cs.sum:Rat) - q) t/\∀ i,i < cs.length->f i=cR cs i - gets (cR cs) (cR ws) t i
 | .part=>∀ i,i < cs.length->f i=jL cs q i
 | .half=>∃ t,(q+q<=(cs.sum:Rat)/\Lvl M (ones cs) cs (q+q) t/\∀ i,i < cs.length->f i=gets (cR cs) (cR (ones cs)) t i * hf)∨((cs.sum:Rat) < q+q/\Lvl M (ones cs) cs (((cs.sum:Rat) - q)+((cs.sum:Rat) - q)) t/\∀ i,i < cs.length->f i=cR cs i - gets (cR cs) (cR (ones cs)) t i * hf)
theorem zEY {w:Wy} {ws cs:List Int} {wd cd:D} (sw:Sq wd ws) (sc:Sq cd cs) {q:Rat} {m:Nat} (hm:m<=2880) (hw:w.due ws cs) (hc:Cl cs) (hq:Haul m q cs.sum):∃ f,aP 2 [.str w.s,wd,cd,dq q]=.ok (.f (((List.range cs.length).map f).map dq))/\Al (m+263) ws cs q f w:=by
 have z:=hq.sz
 cases w with
 | row=>exact ⟨zEj cs q,by rw [<-(zBT hc z hq.nn hq.up).1];exact zLE sc (by omega) hc z hq.nn,fun i _=>rfl⟩
 | back=>exact ⟨_,zMd sc (by omega) hc hq,fun i _=>rfl⟩
 | even=>
  obtain ⟨t,tl,e⟩:=zIN sw sc (n:=1) (by omega) hw hc z hq.nn hq.up
  exact ⟨_,e,t,tl.mono (by omega),fun i _=>rfl⟩
 | lack=>
  obtain ⟨t,tl,e⟩:=zLS sw sc (n:=0) (by omega) hw hc hq
  rw [zLz] at e
  exact ⟨_,e,t,tl.mono (by omega),fun i _=>rfl⟩
 | part=>
  refine ⟨jL cs q,?_,fun i _=>rfl⟩
  have e:zA cs q=(List.range cs.length).map (jL cs q):=zGA (by unfold zA;rw [List.length_map])
  rw [<-e]
  exact zMw sc (by omega) hc z
 | half=>
  by_cases h:(cs.sum:Rat) < q+q
  ·obtain ⟨t,tl,e⟩:=zKA sc (n:=0) (e:=wd) (by omega) hc hq h
   exact ⟨_,e,t,.inr ⟨h,tl,fun i _=>rfl⟩⟩
  ·obtain ⟨t,tl,e⟩:=zFx sc (n:=1) (e:=wd) (by omega) hc z hq.nn (Rat.not_lt.mp h)
   exact ⟨_,e,t,.inl ⟨Rat.not_lt.mp h,tl.mono (by omega),fun i _=>rfl⟩⟩
theorem zJC (w:Wy):∃ v,aW.lookup w.s=some v:=by
 cases w
 ·exact ⟨_,zFq⟩
 ·exact ⟨_,yU⟩
 ·exact ⟨_,zDp⟩
 ·exact ⟨_,xI⟩
 ·exact ⟨_,zDm⟩
 ·exact ⟨_,wW⟩
theorem zHt {w:Wy} {ws cs:List Int} {wd cd:D} (sw:Sq wd ws) (sc:Sq cd cs) (hw:w.due ws cs) (hc:Cl cs):nT [.str w.s,wd,cd]=.ok (.v .non):=by
 have rw':bN [.str w.s,wd,.int cs.length]=.ok (.v .non):=by
  cases w with
  | even=>exact oE sw hw rfl
  | lack=>exact oE sw hw rfl
  | row=>have e:ws=[]:=hw;rw [e] at sw;exact iR sw rfl
  | back=>have e:ws=[]:=hw;rw [e] at sw;exact iR sw rfl
  | part=>have e:ws=[]:=hw;rw [e] at sw;exact iR sw rfl
  | half=>have e:ws=[]:=hw;rw [e] at sw;exact iR sw rfl
 obtain ⟨v,hv⟩:=zJC w
 unfold nT
 walk_at "ev"
 rw [sL hv]
 walk_at "ev"
 rw [tQ sc hc]
 walk_at "ev"
 rw [sc.len]
 walk_at "ev"
 rw [rw']
 walk_at "ev"
structure Dl (M:Nat) (cs:List Int) (q:Rat) (f:Nat->Rat):Prop where
 bd:∀ i,i < cs.length->0<=f i/\f i<=cR cs i/\Sz M (f i)
 sum:((List.range cs.length).map f).sum=q
theorem zP {f g:Nat->Rat} {n:Nat} (h:∀ i,i < n->f i=g i):((List.range n).map f).sum=((List.range n).map g).sum:=by rw [List.map_congr_left fun i hi=>h i (List.mem_range.mp hi)]
theorem Dl.congr {M:Nat} {cs:List Int} {q:Rat} {f g:Nat->Rat} (d:Dl M cs q g) (h:∀ i,i < cs.length->f i=g i):Dl M cs q f:=⟨fun i hi=>by rw [h i hi];exact d.bd i hi,by rw [zP h];exact d.sum⟩
theorem Dl.mono {M M':Nat} {cs:List Int} {q:Rat} {f:Nat->Rat} (d:Dl M cs q f) (h:M<=M'):Dl M' cs q f:=⟨fun i hi=>⟨(d.bd i hi).1,(d.bd i hi).2.1,(d.bd i hi).2.2.mono h⟩,d.sum⟩
theorem zHX {cs:List Int} (hc:Cl cs) {i:Nat} (hi:i < cs.length):0<=cR cs i/\Sz 100 (cR cs i):=by
 have c1:=hc.nn _ (List.mem_of_getElem? (bQ hi))
 have c2:=hc.up _ (List.mem_of_getElem? (bQ hi))
 exact ⟨by unfold cR;exact_mod_cast c1,cJ (by omega) (by decide)⟩
theorem Dl.dual {M:Nat} {cs:List Int} {q q':Rat} {g:Nat->Rat} (hc:Cl cs) (d:Dl M cs q' g) (h:q'=(cs.sum:Rat) - q):Dl (100+M+1) cs q (fun i=>cR cs i - g i):=by
 refine ⟨fun i hi=>?_,?_⟩
 ·obtain ⟨b1,b2,b3⟩:=d.bd i hi
  exact ⟨by grind,by grind,(zHX hc hi).2.sub b3⟩
 ·rw [zIA,nU,d.sum]
  grind
theorem zIE {m:Nat} {cs:List Int} {q:Rat} (hc:Cl cs) (hq:Sz m q) (h0:0<=q) (h1:q<=(cs.sum:Rat)):Dl (m+111) cs q (zEj cs q):=by
 obtain ⟨e,s,z⟩:=zBT hc hq h0 h1
 refine ⟨fun i hi=>?_,by rw [<-e];exact s⟩
 obtain ⟨b1,b2⟩:=zGt cs 0 q i hc.nn hi
 exact ⟨b1,b2,z _ (by rw [e];exact List.mem_map.mpr ⟨i,List.mem_range.mpr hi,rfl⟩)⟩
theorem zIt {M:Nat} {ws cs:List Int} {q t:Rat} (hW:Wt ws cs) (hc:Cl cs) (tl:Lvl M ws cs q t):Dl M cs q (gets (cR cs) (cR ws) t):=
 ⟨fun i hi=>⟨(jV hW hc tl.nn hi).1,(jV hW hc tl.nn hi).2,tl.sz i hi⟩,tl.sum⟩
theorem zFY {M:Nat} {cs:List Int} {q t:Rat} (hc:Cl cs) (tl:Lvl M (ones cs) cs (q+q) t):Dl (M+2) cs q (fun i=>gets (cR cs) (cR (ones cs)) t i * hf):=by
 refine ⟨fun i h=>?_,?_⟩
 ·obtain ⟨b1,b2⟩:=jV (hG cs) hc tl.nn h
  exact ⟨by rw [oV];grind,by rw [oV];grind,(tl.sz i h).mul zEg⟩
 ·have e:=tl.sum
  have e2:=dC (w:=gets (cR cs) (cR (ones cs)) t) (t:=hf) (l:=List.range cs.length)
  unfold evs at e
  unfold gT at e2
  rw [e2,e,oV]
  grind
theorem zKt {a b s:Rat} (hs:s≠0) (h:a * s=b * s):a=b:=by
 have e1:a * s / s=a:=by grind
 have e2:b * s / s=b:=by grind
 rw [<-e1,<-e2,h]
theorem sA {a b s:Rat} (hs:0 < s) (h:a * s<=b * s):a<=b:=Rat.le_of_mul_le_mul_right h hs
theorem zJT {m:Nat} {cs:List Int} {q:Rat} (hc:Cl cs) (hq:Sz m q) (h0:0<=q) (h1:q<=(cs.sum:Rat)):Dl (m+370) cs q (jL cs q):=by
 have sm:=hc.sum
 have cn:∀ i,i < cs.length->0<=cR cs i:=fun i hi=>(zHX hc hi).1
 have sc:gT (fun i=>jL cs q i * (cs.sum:Rat)) (List.range cs.length)=q * (cs.sum:Rat):=by
  rw [dS (g:=fun i=>cR cs i * q) fun i hi=>by rw [(kP hc (List.mem_range.mp hi)).1];grind]
  rw [dC,show gT (cR cs) (List.range cs.length)=(cs.sum:Rat) from nU cs]
 rw [dC] at sc
 by_cases z:cs.sum=0
 ·have p0:∀ i,i < cs.length->jL cs q i=cR cs i:=fun i hi=>by
   have c0:=nV hc.nn z _ (List.mem_of_getElem? (bQ hi))
   rw [(kP hc hi).2 z]
   unfold cR
   rw [c0]
   rfl
  refine ⟨fun i hi=>⟨by rw [p0 i hi];exact cn i hi,by rw [p0 i hi];exact Rat.le_refl,zFW hc hq hi⟩,?_⟩
  rw [zP p0,nU]
  have:(cs.sum:Rat)=0:=by rw [z];rfl
  grind
 ·have W:(0:Rat) < (cs.sum:Rat):=by exact_mod_cast (show 0 < cs.sum by omega)
  refine ⟨fun i hi=>?_,?_⟩
  ·have e:=(kP (q:=q) hc hi).1
   have c0:=cn i hi
   refine ⟨sA W (by rw [e];have:=Rat.mul_nonneg h0 c0;grind),sA W ?_,zFW hc hq hi⟩
   rw [e]
   have:=Rat.mul_le_mul_of_nonneg_right h1 c0
   grind
  ·exact zKt (s:=(cs.sum:Rat)) (by grind) (by rw [Rat.mul_comm];exact sc)
theorem zMh {m:Nat} {w:Wy} {ws cs:List Int} {q:Rat} {f:Nat->Rat} (hw:w.due ws cs) (hc:Cl cs) (hq:Haul m q cs.sum) (al:Al (m+263) ws cs q f w):Dl (m+370) cs q f:=by
 have sm:=hc.sum
 have zW:Sz 105 (cs.sum:Rat):=cJ (by omega) (by decide)
 have z:=hq.sz
 have z':Sz (m+106) ((cs.sum:Rat) - q):=(zW.sub hq.sz).mono (by omega)
 have n:=hq.nn
 have u:=hq.up
 cases w with
 | row=>exact ((zIE hc z n u).mono (by omega)).congr al
 | back=>exact ((Dl.dual hc (zIE hc z' (by grind) (by grind)) rfl).mono (by omega)).congr al
 | even=>
  obtain ⟨t,tl,e⟩:=al
  exact ((zIt hw hc tl).mono (by omega)).congr e
 | lack=>
  obtain ⟨t,tl,e⟩:=al
  exact ((Dl.dual hc (zIt hw hc tl) rfl).mono (by omega)).congr e
 | part=>exact (zJT hc z n u).congr al
 | half=>
  obtain ⟨t,⟨c,tl,e⟩ | ⟨c,tl,e⟩⟩:=al
  ·exact ((zFY hc tl).mono (by omega)).congr e
  ·exact ((Dl.dual hc (zFY hc tl) rfl).mono (by omega)).congr e
theorem zBz:∀ (cs:List Int) (a:Int) (q:Rat) (i:Nat),i < cs.length->(iC cs a q).getD i 0=mn (ps0 (q - ((a+(cs.take i).sum:Int):Rat))) (cR cs i)
 | c::r,a,q,0,_=>by simp [iC,cR]
 | c::r,a,q,i+1,h=>by
  have ih:=zBz r (a+c) q i (by simpa using h)
  rw [List.take_succ_cons,List.sum_cons,<-Int.add_assoc]
  show (iC r (a+c) q).getD i 0=_
  rw [ih]
  rfl
def Dn (B:Int) (x:Rat):Prop:=∃ k:Int,x * (B:Rat)=(k:Rat)
theorem Dn.add {B:Int} {x y:Rat} (hx:Dn B x) (hy:Dn B y):Dn B (x+y):=by
 obtain ⟨a,ha⟩:=hx
 obtain ⟨b,hb⟩:=hy
 exact ⟨a+b,by rw [Rat.intCast_add,<-ha,<-hb];grind⟩
theorem Dn.sub {B:Int} {x y:Rat} (hx:Dn B x) (hy:Dn B y):Dn B (x - y):=by
 obtain ⟨a,ha⟩:=hx
 obtain ⟨b,hb⟩:=hy
 exact ⟨a - b,by rw [Rat.intCast_sub,<-ha,<-hb];grind⟩
theorem Dn.int (B c:Int):Dn B (c:Rat):=⟨c * B,by rw [Rat.intCast_mul]⟩
theorem Dn.zero (B:Int):Dn B 0:=Dn.int B 0
theorem Dn.mul {B:Int} {x:Rat} (h:Dn B x) (E:Int):Dn (B * E) x:=by
 obtain ⟨a,ha⟩:=h
 exact ⟨a * E,by rw [Rat.intCast_mul,Rat.intCast_mul,<-ha];grind⟩
theorem Dn.mn {B:Int} {x y:Rat} (hx:Dn B x) (hy:Dn B y):Dn B (Lw.mn x y):=by
 unfold Lw.mn
 split
 ·exact hx
 ·exact hy
theorem Dn.ps {B:Int} {x:Rat} (hx:Dn B x):Dn B (ps0 x):=by
 unfold ps0
 split
 ·exact Dn.zero B
 ·exact hx
theorem Dn.le {B:Int} {x:Rat} (h:Dn B x) (hB:0 < B):(x.den:Int)<=B:=by
 obtain ⟨a,ha⟩:=h
 have nB:(B:Rat)≠0:=fun z=>by
  have:B=0:=by exact_mod_cast z
  omega
 have e:x=Rat.divInt a B:=by
  rw [Rat.divInt_eq_div,<-ha]
  grind
 rw [e]
 exact zCQ hB
theorem Dn.sz {B c:Int} {x:Rat} {a b:Nat} (h:Dn B x) (hB:0 < B) (hb:B < 2^b) (h0:0<=x) (h1:x<=(c:Rat)) (hc:c < 2^a):Sz (a+b) x:=by
 have le:=h.le hB
 have d0:=jD x
 have n0:0<=x.num:=Rat.num_nonneg.mpr h0
 have c0:0<=c:=by
  have:((0:Int):Rat)<=(c:Rat):=Rat.le_trans (by rw [show ((0:Int):Rat)=0 from rfl];exact h0) h1
  exact Rat.intCast_le_intCast.mp this
 have n1:x.num<=c * x.den:=by
  have:((x.num:Int):Rat)<=((c * x.den:Int):Rat):=by
   rw [Rat.intCast_mul,zLT]
   exact Rat.mul_le_mul_of_nonneg_right h1 (by have z:(0:Int)<=x.den:=(by omega);exact_mod_cast z)
  exact Rat.intCast_le_intCast.mp this
 have hb':(x.den:Int).natAbs < 2^b:=by
  have:((2:Nat)^b:Nat)=((2:Int)^b):=by rw [Int.natCast_pow];rfl
  omega
 have ha':c.natAbs < 2^a:=by
  have:((2:Nat)^a:Nat)=((2:Int)^a):=by rw [Int.natCast_pow];rfl
  omega
 have m:=dX ha' hb'
 refine ⟨by omega,?_⟩
 have:2^b<=2^(a+b):=Nat.pow_le_pow_right (by decide) (by omega)
 omega
theorem zBj {c w:Nat->Rat} {ci wi:Nat->Int} {t:Rat} (hc:∀ i,c i=(ci i:Rat)) (hw:∀ i,w i=(wi i:Rat)):∀ l:List Nat,(∀ i∈l,1<=wi i/\wi i<=10^6)->∃ F W:Int,gT (gets c w t) l=(W:Rat) * t+(F:Rat)/\0<=W/\W<=l.length * 10^6/\(W=0->∀ i∈l,gets c w t i=c i)
 | [],_=>⟨0,0,by rw [gQ,show ((0:Int):Rat)=0 from rfl];grind,by decide,by decide,fun _ i h=>by cases h⟩
 | i::l,h=>by
  obtain ⟨F,W,e,w0,w1,f⟩:=zBj (t:=t) hc hw l fun j hj=>h j (List.mem_cons_of_mem _ hj)
  have hi:=h i List.mem_cons_self
  have ek:((l.length+1:Nat):Int) * 10^6=(l.length:Int) * 10^6+10^6:=by rw [Int.natCast_add,Int.add_mul];rfl
  rw [bA,List.length_cons]
  by_cases z:w i * t < c i
  ·have g:gets c w t i=w i * t:=if_pos z
   refine ⟨F,W+wi i,?_,by omega,by omega,fun z=>by omega⟩
   rw [g,e,Rat.intCast_add,hw]
   grind
  ·have g:gets c w t i=c i:=if_neg z
   refine ⟨F+ci i,W,?_,w0,by omega,fun z j hj=>?_⟩
   ·rw [g,e,Rat.intCast_add,hc]
    grind
   ·rcases List.mem_cons.mp hj with rfl | hj
    ·exact g
    ·exact f z j hj
theorem zNP {M:Nat} {ws cs:List Int} {q t:Rat} {B:Int} (hW:Wt ws cs) (hl:cs.length<=12) (tl:Lvl M ws cs q t) (hq:Dn B q):∃ E:Int,0 < E/\E<=12 * 10^6/\∀ i,i < cs.length->Dn (B * E) (gets (cR cs) (cR ws) t i):=by
 obtain ⟨F,W,e,w0,w1,f⟩:=zBj (c:=cR cs) (w:=cR ws) (ci:=fun i=>cs.getD i 0) (wi:=fun i=>ws.getD i 0) (t:=t) (fun _=>rfl) (fun _=>rfl) (List.range cs.length) fun i hi=>hW.at (List.mem_range.mp hi)
 have s:gT (gets (cR cs) (cR ws) t) (List.range cs.length)=q:=tl.sum
 rw [List.length_range] at w1
 by_cases z:W=0
 ·refine ⟨1,by decide,by decide,fun i hi=>?_⟩
  rw [f z i (List.mem_range.mpr hi)]
  exact Dn.int _ _
 ·refine ⟨W,by omega,by omega,fun i hi=>?_⟩
  unfold gets
  refine Dn.mn ?_ (Dn.int _ _)
  obtain ⟨k,hk⟩:=hq.sub (Dn.int B F)
  refine ⟨ws.getD i 0 * k,?_⟩
  rw [Rat.intCast_mul,Rat.intCast_mul,<-hk,<-s,e]
  show cR ws i * t * _=cR ws i * _
  grind
theorem zLV {B:Int} {x:Rat} (h:Dn B x):Dn (B * 2) (x * hf):=by
 obtain ⟨k,hk⟩:=h
 refine ⟨k,?_⟩
 rw [<-hk,Rat.intCast_mul,oV,show ((2:Int):Rat)=2 from rfl]
 grind
theorem zOd {cs:List Int} {q:Rat} {B:Int} (h:Dn B q) {i:Nat} (hi:i < cs.length):Dn B (zEj cs q i):=by
 unfold zEj
 rw [zBz cs 0 q i hi]
 exact Dn.mn (Dn.ps (h.sub (Dn.int _ _))) (Dn.int _ _)
theorem Al.mono {M M':Nat} {w:Wy} {ws cs:List Int} {q:Rat} {f:Nat->Rat} (h:Al M ws cs q f w) (l:M<=M'):Al M' ws cs q f w:=by
 cases w with
 | row=>exact h
 | back=>exact h
 | part=>exact h
 | even=>obtain ⟨t,tl,e⟩:=h;exact ⟨t,tl.mono l,e⟩
 | lack=>obtain ⟨t,tl,e⟩:=h;exact ⟨t,tl.mono l,e⟩
 | half=>
  obtain ⟨t,⟨c,tl,e⟩ | ⟨c,tl,e⟩⟩:=h
  ·exact ⟨t,.inl ⟨c,tl.mono l,e⟩⟩
  ·exact ⟨t,.inr ⟨c,tl.mono l,e⟩⟩
theorem zMm (q:Rat):Sz (q.num.natAbs+q.den) q:=⟨Nat.lt_of_lt_of_le Nat.lt_two_pow_self (Nat.pow_le_pow_right (by decide) (by omega)),Nat.lt_of_lt_of_le Nat.lt_two_pow_self (Nat.pow_le_pow_right (by decide) (by omega))⟩
theorem zMS {M:Nat} {w:Wy} {ws cs:List Int} {q:Rat} {f:Nat->Rat} (hw:w.due ws cs) (hc:Cl cs) (q0:0<=q) (q1:q<=(cs.sum:Rat)) (al:Al M ws cs q f w):(∀ i,i < cs.length->0<=f i/\f i<=cR cs i)/\((List.range cs.length).map f).sum=q:=by
 have d:=zMh (m:=q.num.natAbs+q.den+M) hw hc ⟨q0,q1,(zMm q).mono (by omega)⟩ (al.mono (by omega))
 exact ⟨fun i hi=>⟨(d.bd i hi).1,(d.bd i hi).2.1⟩,d.sum⟩
theorem lH {M M':Nat} {ws cs:List Int} {q q' t t':Rat} (hW:Wt ws cs) (a:Lvl M ws cs q t) (b:Lvl M' ws cs q' t') (h:q=q') {i:Nat} (hi:i < cs.length):gets (cR cs) (cR ws) t i=gets (cR cs) (cR ws) t' i:=by
 have pw:∀ j∈List.range cs.length,0 < cR ws j:=fun j hj=>by
  have:=(hW.at (List.mem_range.mp hj)).1
  unfold cR
  exact_mod_cast (show 0 < ws.getD j 0 by omega)
 exact wX (c:=cR cs) (w:=cR ws) pw (by show (evs ws cs t).sum=(evs ws cs t').sum;rw [a.sum,b.sum,h]) i (List.mem_range.mpr hi)
theorem zMc {M M':Nat} {w:Wy} {ws cs:List Int} {q:Rat} {f g:Nat->Rat} (hw:w.due ws cs) (a:Al M ws cs q f w) (b:Al M' ws cs q g w) {i:Nat} (hi:i < cs.length):f i=g i:=by
 cases w with
 | row=>rw [a i hi,b i hi]
 | back=>rw [a i hi,b i hi]
 | part=>rw [a i hi,b i hi]
 | even=>
  obtain ⟨t,tl,e⟩:=a
  obtain ⟨t',tl',e'⟩:=b
  rw [e i hi,e' i hi,lH hw tl tl' rfl hi]
 | lack=>
  obtain ⟨t,tl,e⟩:=a
  obtain ⟨t',tl',e'⟩:=b
  rw [e i hi,e' i hi,lH hw tl tl' rfl hi]
 | half=>
  have W:=hG cs
  obtain ⟨t,⟨c,tl,e⟩ | ⟨c,tl,e⟩⟩:=a
  ·obtain ⟨t',⟨c',tl',e'⟩ | ⟨c',tl',e'⟩⟩:=b
   ·rw [e i hi,e' i hi,lH W tl tl' rfl hi]
   ·exact absurd c' (Rat.not_lt.mpr c)
  ·obtain ⟨t',⟨c',tl',e'⟩ | ⟨c',tl',e'⟩⟩:=b
   ·exact absurd c (Rat.not_lt.mpr c')
   ·rw [e i hi,e' i hi,lH W tl tl' rfl hi]
theorem rF {M M':Nat} {ws cs:List Int} {q q' t t':Rat} (hW:Wt ws cs) (a:Lvl M ws cs q t) (b:Lvl M' ws cs q' t') (h:q<=q') {i:Nat} (hi:i < cs.length):gets (cR cs) (cR ws) t i<=gets (cR cs) (cR ws) t' i:=by
 have pw:∀ j∈List.range cs.length,0 < cR ws j:=fun j hj=>by
  have:=(hW.at (List.mem_range.mp hj)).1
  unfold cR
  exact_mod_cast (show 0 < ws.getD j 0 by omega)
 rcases Rat.le_total (a:=t) (b:=t') with g | g
 ·exact kY (pw i (List.mem_range.mpr hi)) g
 ·have le:∀ j∈List.range cs.length,gets (cR cs) (cR ws) t' j<=gets (cR cs) (cR ws) t j:=fun j hj=>kY (pw j hj) g
  have s1:gT (gets (cR cs) (cR ws) t') (List.range cs.length)=q':=b.sum
  have s2:gT (gets (cR cs) (cR ws) t) (List.range cs.length)=q:=a.sum
  have s3:=mQ le
  rw [pX le (by rw [s1,s2];rw [s1,s2] at s3;grind) i (List.mem_range.mpr hi)]
  exact Rat.le_refl
theorem zJQ {M M':Nat} {w:Wy} {ws cs:List Int} {q q':Rat} {f g:Nat->Rat} (hw:w.due ws cs) (hc:Cl cs) (a:Al M ws cs q f w) (b:Al M' ws cs q' g w) (h:q<=q') {i:Nat} (hi:i < cs.length):f i<=g i:=by
 have sm:=hc.sum
 cases w with
 | row=>rw [a i hi,b i hi];exact sP cs 0 i h
 | back=>
  rw [a i hi,b i hi]
  have:=sP cs 0 (q:=(cs.sum:Rat) - q') (q':=(cs.sum:Rat) - q) i (by grind)
  unfold zEj
  grind
 | even=>
  obtain ⟨t,tl,e⟩:=a
  obtain ⟨t',tl',e'⟩:=b
  rw [e i hi,e' i hi]
  exact rF hw tl tl' h hi
 | lack=>
  obtain ⟨t,tl,e⟩:=a
  obtain ⟨t',tl',e'⟩:=b
  rw [e i hi,e' i hi]
  have:=rF hw tl' tl (by grind) hi
  grind
 | part=>
  rw [a i hi,b i hi]
  have c0:0<=cR cs i:=by unfold cR;exact_mod_cast hc.nn _ (List.mem_of_getElem? (bQ hi))
  obtain ⟨p1,p2⟩:=kP (q:=q) hc hi
  obtain ⟨r1,r2⟩:=kP (q:=q') hc hi
  by_cases z:cs.sum=0
  ·rw [p2 z,r2 z];exact Rat.le_refl
  ·have W:(0:Rat) < (cs.sum:Rat):=by exact_mod_cast (show 0 < cs.sum by omega)
   exact sA W (by rw [p1,r1];exact Rat.mul_le_mul_of_nonneg_right h c0)
 | half=>
  have ow:=hG cs
  obtain ⟨t,⟨c,tl,e⟩ | ⟨c,tl,e⟩⟩:=a
  ·have b1:=(jV ow hc tl.nn hi).2
   obtain ⟨t',⟨c',tl',e'⟩ | ⟨c',tl',e'⟩⟩:=b
   ·have:=rF ow tl tl' (by grind) hi
    rw [e i hi,e' i hi,oV]
    grind
   ·have b2:=(jV ow hc tl'.nn hi).2
    rw [e i hi,e' i hi,oV]
    grind
  ·obtain ⟨t',⟨c',tl',e'⟩ | ⟨c',tl',e'⟩⟩:=b
   ·exfalso;grind
   ·have:=rF ow tl' tl (by grind) hi
    rw [e i hi,e' i hi,oV]
    grind
def Wy.con:Wy->Wy
 | .row=>.back
 | .back=>.row
 | .even=>.lack
 | .lack=>.even
 | .part=>.part
 | .half=>.half
theorem zDh {M:Nat} {ws cs:List Int} {q t:Rat} (hW:Wt ws cs) (hc:Cl cs) (a:Lvl M ws cs q t) (h:q=(cs.sum:Rat)) {i:Nat} (hi:i < cs.length):gets (cR cs) (cR ws) t i=cR cs i:=by
 have s:gT (gets (cR cs) (cR ws) t) (List.range cs.length)=q:=a.sum
 exact pX (fun j hj=>(jV hW hc a.nn (List.mem_range.mp hj)).2) (by rw [s,h];exact (nU cs).symm) i (List.mem_range.mpr hi)
theorem zMb {M M':Nat} {w:Wy} {ws cs:List Int} {q:Rat} {f g:Nat->Rat} (hw:w.due ws cs) (hc:Cl cs) (hn:0<=q) (hu:q<=(cs.sum:Rat)) (a:Al M ws cs q f w) (b:Al M' ws cs ((cs.sum:Rat) - q) g w.con) {i:Nat} (hi:i < cs.length):g i=cR cs i - f i:=by
 have sm:=hc.sum
 have e0:(cs.sum:Rat) - ((cs.sum:Rat) - q)=q:=by grind
 cases w with
 | row=>
  have b':g i=cR cs i - zEj cs ((cs.sum:Rat) - ((cs.sum:Rat) - q)) i:=b i hi
  rw [b',e0,a i hi]
 | back=>
  have b':g i=zEj cs ((cs.sum:Rat) - q) i:=b i hi
  rw [b',a i hi]
  grind
 | even=>
  obtain ⟨t,tl,e⟩:=a
  obtain ⟨t',tl',e'⟩:=b
  rw [e i hi,e' i hi,lH hw tl' tl e0 hi]
 | lack=>
  obtain ⟨t,tl,e⟩:=a
  obtain ⟨t',tl',e'⟩:=b
  rw [e i hi,e' i hi,lH hw tl' tl rfl hi]
  grind
 | part=>
  have b':g i=jL cs ((cs.sum:Rat) - q) i:=b i hi
  have u:=hu
  have n:=hn
  obtain ⟨p1,p2⟩:=kP (q:=q) hc hi
  obtain ⟨r1,r2⟩:=kP (q:=(cs.sum:Rat) - q) hc hi
  rw [b',a i hi]
  by_cases z:cs.sum=0
  ·have c0:=nV hc.nn z _ (List.mem_of_getElem? (bQ hi))
   rw [p2 z,r2 z]
   unfold cR
   rw [c0,show ((0:Int):Rat)=0 from rfl]
   grind
  ·have W:(0:Rat) < (cs.sum:Rat):=by exact_mod_cast (show 0 < cs.sum by omega)
   have e:jL cs ((cs.sum:Rat) - q) i * (cs.sum:Rat)=(cR cs i - jL cs q i) * (cs.sum:Rat):=by rw [r1];grind
   have l1:=sA W (show jL cs ((cs.sum:Rat) - q) i * (cs.sum:Rat)<=(cR cs i - jL cs q i) * (cs.sum:Rat) by rw [e];exact Rat.le_refl)
   have l2:=sA W (show (cR cs i - jL cs q i) * (cs.sum:Rat)<=jL cs ((cs.sum:Rat) - q) i * (cs.sum:Rat) by rw [e];exact Rat.le_refl)
   grind
 | half=>
  have ow:=hG cs
  obtain ⟨t,⟨c,tl,e⟩ | ⟨c,tl,e⟩⟩:=a
  ·obtain ⟨t',⟨c',tl',e'⟩ | ⟨c',tl',e'⟩⟩:=b
   ·have f1:=zDh ow hc tl (by grind) hi
    have f2:=zDh ow hc tl' (by grind) hi
    rw [e i hi,e' i hi,f1,f2,oV]
    grind
   ·have f1:=lH ow tl' tl (by grind) hi
    rw [e i hi,e' i hi,f1]
  ·obtain ⟨t',⟨c',tl',e'⟩ | ⟨c',tl',e'⟩⟩:=b
   ·have f1:=lH ow tl' tl rfl hi
    rw [e i hi,e' i hi,f1]
    grind
   ·exfalso;grind
theorem zFX {w:Wy} {ws cs:List Int} (h:w.due ws cs):w.con.due ws cs:=by cases w<;>exact h
def Lin (f:Rat->Rat) (a b:Rat):Prop:=∀ x,a<=x->x<=b->(f x - f a) * (b - a)=(x - a) * (f b - f a)
def Cn (R:Rat->Rat->Prop):List Rat->Prop
 | a::b::l=>R a b/\Cn R (b::l)
 | _=>True
theorem Cn.imp {R R':Rat->Rat->Prop} (h:∀ a b,R a b->R' a b):∀ {l:List Rat},Cn R l->Cn R' l
 | [],_=>trivial
 | [_],_=>trivial
 | a::b::l,k=>⟨h a b k.1,Cn.imp h k.2⟩
theorem sY {A:List Rat}:∀ {l:List Rat},l.Pairwise (·<=·)->(∀ x∈A,x∈l∨∀ y∈l,x<=y)->Cn (fun s t=>s<=t/\∀ x∈A,x<=s∨t<=x) l
 | [],_,_=>trivial
 | [_],_,_=>trivial
 | a::b::r,h,hA=>by
  obtain ⟨h1,h2⟩:=List.pairwise_cons.mp h
  obtain ⟨h3,h4⟩:=List.pairwise_cons.mp h2
  refine ⟨⟨h1 b List.mem_cons_self,fun x hx=>?_⟩,sY h2 fun x hx=>?_⟩
  ·rcases hA x hx with h | h
   ·rcases List.mem_cons.mp h with rfl | h
    ·exact .inl Rat.le_refl
    ·rcases List.mem_cons.mp h with rfl | h
     ·exact .inr Rat.le_refl
     ·exact .inr (h3 x h)
   ·exact .inl (h a List.mem_cons_self)
  ·rcases hA x hx with h | h
   ·rcases List.mem_cons.mp h with rfl | h
    ·exact .inr h1
    ·exact .inl h
   ·exact .inr fun y hy=>h y (List.mem_cons_of_mem _ hy)
def QQ (ws cs:List Int) (t:Rat):Rat:=gT (gets (cR cs) (cR ws) t) (List.range cs.length)
def lv (ws cs:List Int) (i:Nat):Rat:=cR cs i / cR ws i
theorem Wt.pos {ws cs:List Int} (h:Wt ws cs) {i:Nat} (hi:i < cs.length):0 < cR ws i:=by
 have:=(h.at hi).1
 unfold cR
 exact_mod_cast (show 0 < ws.getD i 0 by omega)
theorem zR {ws cs:List Int} (h:Wt ws cs) {i:Nat} (hi:i < cs.length):cR ws i * lv ws cs i=cR cs i:=by
 have:=h.pos hi
 unfold lv
 grind
theorem zFg {ws cs:List Int} (h:Wt ws cs) {i:Nat} (hi:i < cs.length) {t:Rat} (l:lv ws cs i<=t):gets (cR cs) (cR ws) t i=cR cs i:=by
 have p:=h.pos hi
 have e:=zR h hi
 have:=Rat.mul_le_mul_of_nonneg_left l (Rat.le_of_lt p)
 unfold gets mn
 grind
theorem zGi {ws cs:List Int} (h:Wt ws cs) {i:Nat} (hi:i < cs.length) {t:Rat} (l:t<=lv ws cs i):gets (cR cs) (cR ws) t i=cR ws i * t:=by
 have p:=h.pos hi
 have e:=zR h hi
 have:=Rat.mul_le_mul_of_nonneg_left l (Rat.le_of_lt p)
 unfold gets mn
 grind
theorem zGd {ws cs:List Int} (h:Wt ws cs) (hc:Cl cs) {i:Nat} (hi:i < cs.length):0<=lv ws cs i:=by
 have p:=h.pos hi
 have c:=(zHX hc hi).1
 have e:=zR h hi
 rcases Rat.le_total (a:=0) (b:=lv ws cs i) with z | z
 ·exact z
 ·have:=Rat.mul_le_mul_of_nonneg_left z (Rat.le_of_lt p)
  have z2:cR cs i=0:=by grind
  unfold lv
  rw [z2]
  grind
def sl (ws cs:List Int) (s:Rat) (i:Nat):Rat:=if lv ws cs i<=s then 0 else cR ws i
theorem zCV {f g:Nat->Rat}:∀ {l:List Nat},gT (fun i=>f i - g i) l=gT f l - gT g l
 | []=>by rw [gQ,gQ,gQ];grind
 | a::l=>by rw [bA,bA,bA,zCV];grind
def zKI (ws cs:List Int) (s t:Rat):Prop:=∀ i,i < cs.length->lv ws cs i<=s∨t<=lv ws cs i
theorem wR {ws cs:List Int} (h:Wt ws cs) {s t u:Rat} (n:zKI ws cs s t) (su:s<=u) (ut:u<=t) {i:Nat} (hi:i < cs.length):gets (cR cs) (cR ws) u i - gets (cR cs) (cR ws) s i=sl ws cs s i * (u - s):=by
 unfold sl
 by_cases z:lv ws cs i<=s
 ·rw [zFg h hi z,zFg h hi (Rat.le_trans z su),if_pos z];grind
 ·rcases n i hi with k | k
  ·exact absurd k z
  ·rw [zGi h hi (Rat.le_trans ut k),zGi h hi (Rat.le_trans su (Rat.le_trans ut k)),if_neg z];grind
theorem zAA {ws cs:List Int} (h:Wt ws cs) {s t u:Rat} (n:zKI ws cs s t) (su:s<=u) (ut:u<=t):QQ ws cs u - QQ ws cs s=gT (sl ws cs s) (List.range cs.length) * (u - s):=by
 unfold QQ
 rw [<-zCV,dS (g:=fun i=>sl ws cs s i * (u - s)) fun i hi=>wR h n su ut (List.mem_range.mp hi)]
 rw [dC]
 grind
theorem nD {ws cs:List Int} (h:Wt ws cs) {s t:Rat} (l:s<=t):QQ ws cs s<=QQ ws cs t:=mQ fun i hi=>kY (h.pos (List.mem_range.mp hi)) l
theorem zNs {ws cs:List Int} (h:Wt ws cs) {s t:Rat} (e:QQ ws cs s=QQ ws cs t) {i:Nat} (hi:i < cs.length):gets (cR cs) (cR ws) s i=gets (cR cs) (cR ws) t i:=wX (fun i hi=>h.pos (List.mem_range.mp hi)) e i (List.mem_range.mpr hi)
theorem zMj {ws cs:List Int} (h:Wt ws cs) {s t:Rat} (st:s<=t) (n:zKI ws cs s t) {i:Nat} (hi:i < cs.length) {f:Rat->Rat} (hf:∀ x,QQ ws cs s<=x->x<=QQ ws cs t->∃ u,QQ ws cs u=x/\f x=gets (cR cs) (cR ws) u i):Lin f (QQ ws cs s) (QQ ws cs t):=by
 have ab:=nD h st
 have at':∀ v,s<=v->v<=t->f (QQ ws cs v)=gets (cR cs) (cR ws) v i:=fun v h1 h2=>by
  obtain ⟨u,e1,e2⟩:=hf _ (nD h h1) (nD h h2)
  rw [e2,zNs h e1 hi]
 have fa:=at' s Rat.le_refl st
 have fb:=at' t st Rat.le_refl
 intro x h1 h2
 obtain ⟨u,e1,e2⟩:=hf x h1 h2
 rcases Rat.le_total (a:=u) (b:=s) with z | z
 ·have q:=nD h z
  have ex:x=QQ ws cs s:=by grind
  subst ex
  grind
 rcases Rat.le_total (a:=t) (b:=u) with z' | z'
 ·have q:=nD h z'
  have ex:x=QQ ws cs t:=by grind
  subst ex
  grind
 have d1:=zAA h n z z'
 have d2:=zAA h n st Rat.le_refl
 have g1:=wR h n z z' hi
 have g2:=wR h n st Rat.le_refl hi
 rw [e1] at d1
 rw [e2,fa,fb,g1,g2,d1,d2]
 grind
theorem zGj {ws cs:List Int} (h:Wt ws cs) {q:Rat}:∀ {l:List Rat} {s:Rat},Cn (fun s t=>s<=t/\zKI ws cs s t) (s::l)->QQ ws cs s<=q->q<=QQ ws cs ((s::l).getLast (by simp))->∃ u,s<=u/\QQ ws cs u=q
 | [],s,_,h1,h2=>⟨s,Rat.le_refl,by
  have h2':q<=QQ ws cs s:=h2
  grind⟩
 | t::l,s,hc,h1,h2=>by
  obtain ⟨⟨st,n⟩,hc'⟩:=hc
  rcases Rat.le_total (a:=QQ ws cs t) (b:=q) with z | z
  ·obtain ⟨u,u1,u2⟩:=zGj h hc' z (by simpa using h2)
   exact ⟨u,Rat.le_trans st u1,u2⟩
  ·by_cases e:QQ ws cs s=QQ ws cs t
   ·exact ⟨s,Rat.le_refl,by grind⟩
   have d2:=zAA h n st Rat.le_refl
   generalize gT (sl ws cs s) (List.range cs.length)=W at d2
   have lt:QQ ws cs s < QQ ws cs t:=by have:=nD h st;grind
   have p:0 < QQ ws cs t - QQ ws cs s:=by grind
   have nz:QQ ws cs t - QQ ws cs s≠0:=by grind
   have lam:0<=(q - QQ ws cs s) / (QQ ws cs t - QQ ws cs s)/\(q - QQ ws cs s) / (QQ ws cs t - QQ ws cs s)<=1:=by
    refine ⟨sA p ?_,sA p ?_⟩
    ·rw [Rat.div_mul_cancel nz];grind
    ·rw [Rat.div_mul_cancel nz];grind
   have le:(q - QQ ws cs s) / (QQ ws cs t - QQ ws cs s) * (QQ ws cs t - QQ ws cs s)=q - QQ ws cs s:=Rat.div_mul_cancel nz
   generalize (q - QQ ws cs s) / (QQ ws cs t - QQ ws cs s)=k at lam le
   have ts:0<=t - s:=by grind
   have m1:=Rat.mul_nonneg lam.1 ts
   have m2:=Rat.mul_le_mul_of_nonneg_right lam.2 ts
   refine ⟨s+k * (t - s),by grind,?_⟩
   have d1:=zAA h n (u:=s+k * (t - s)) (by grind) (by grind)
   have d2':=zAA h n st Rat.le_refl
   grind
theorem zIf:∀ (n:Nat) (g:Nat->Rat),∃ M,∀ i,i < n->Sz M (g i)
 | 0,_=>⟨0,fun i h=>by omega⟩
 | n+1,g=>by
  obtain ⟨M,h⟩:=zIf n g
  refine ⟨M+((g n).num.natAbs+(g n).den),fun i hi=>?_⟩
  by_cases z:i=n
  ·rw [z];exact (zMm (g n)).mono (by omega)
  ·exact (h i (by omega)).mono (by omega)
theorem zNJ {ws cs:List Int} (h:Wt ws cs) (hc:Cl cs) {q:Rat} (q0:0<=q) (q1:q<=(cs.sum:Rat)):∃ u,0<=u/\QQ ws cs u=q:=by
 generalize hA:(List.range cs.length).map (lv ws cs)=A
 have pm:(A.mergeSort fun a b=>decide (a<=b)).Perm A:=List.mergeSort_perm A _
 have so:(A.mergeSort fun a b=>decide (a<=b)).Pairwise (·<=·):=by
  have:=List.pairwise_mergeSort (le:=fun a b:Rat=>decide (a<=b)) (fun a b c h1 h2=>by
   have h1':=of_decide_eq_true h1
   have h2':=of_decide_eq_true h2
   exact decide_eq_true (Rat.le_trans h1' h2')) (fun a b=>by
   rcases Rat.le_total (a:=a) (b:=b) with z | z
   ·simp [z]
   ·simp [z]) A
  exact this.imp fun h=>of_decide_eq_true h
 generalize A.mergeSort (fun a b=>decide (a<=b))=L at pm so
 have nn:∀ x∈L,0<=x:=fun x hx=>by
  have hx':=pm.mem_iff.mp hx
  rw [<-hA] at hx'
  obtain ⟨i,hi,rfl⟩:=List.mem_map.mp hx'
  exact zGd h hc (List.mem_range.mp hi)
 have so':(0::L).Pairwise (·<=·):=List.pairwise_cons.mpr ⟨nn,so⟩
 have cn:=sY (A:=A) so' fun x hx=>.inl (List.mem_cons_of_mem _ (pm.mem_iff.mpr hx))
 have cn':Cn (fun s t=>s<=t/\zKI ws cs s t) (0::L):=cn.imp fun a b hab=>⟨hab.1,fun i hi=>hab.2 _ (by rw [<-hA];exact List.mem_map.mpr ⟨i,List.mem_range.mpr hi,rfl⟩)⟩
 have z0:QQ ws cs 0=0:=by
  unfold QQ
  rw [dS (g:=fun i=>cR ws i * 0) fun i hi=>zGi h (List.mem_range.mp hi) (zGd h hc (List.mem_range.mp hi)),dC]
  grind
 have zl:QQ ws cs ((0::L).getLast (by simp))=(cs.sum:Rat):=by
  unfold QQ
  rw [dS (g:=cR cs) fun i hi=>zFg h (List.mem_range.mp hi) ?_]
  ·exact nU cs
  ·have m:lv ws cs i∈L:=pm.mem_iff.mpr (by rw [<-hA];exact List.mem_map.mpr ⟨i,hi,rfl⟩)
   have key:∀ {l:List Rat} (ne:l≠[]),l.Pairwise (·<=·)->∀ x∈l,x<=l.getLast ne:=by
    intro l
    induction l with
    | nil=>intro ne;exact absurd rfl ne
    | cons a r ih=>
     intro ne hp x hx
     obtain ⟨p1,p2⟩:=List.pairwise_cons.mp hp
     cases r with
     | nil=>rw [List.mem_singleton.mp hx];exact Rat.le_refl
     | cons b r=>
      rw [List.getLast_cons (by simp)]
      rcases List.mem_cons.mp hx with rfl | hx
      ·exact Rat.le_trans (p1 b List.mem_cons_self) (ih (by simp) p2 b List.mem_cons_self)
      ·exact ih (by simp) p2 x hx
   exact key (by simp) so' _ (List.mem_cons_of_mem _ m)
 exact zGj h cn' (by rw [z0];exact q0) (by rw [zl];exact q1)
theorem zDv {ws cs:List Int} (h:Wt ws cs) (hc:Cl cs) {q:Rat} (q0:0<=q) (q1:q<=(cs.sum:Rat)):∃ M t,Lvl M ws cs q t:=by
 obtain ⟨u,u0,e⟩:=zNJ h hc q0 q1
 obtain ⟨M,hM⟩:=zIf cs.length (gets (cR cs) (cR ws) u)
 exact ⟨M,u,u0,e,hM⟩
theorem zMq {w:Wy} {ws cs:List Int} (hw:w.due ws cs) (hc:Cl cs) {q:Rat} (q0:0<=q) (q1:q<=(cs.sum:Rat)):∃ f M,Al M ws cs q f w:=by
 cases w with
 | row=>exact ⟨_,0,fun i _=>rfl⟩
 | back=>exact ⟨_,0,fun i _=>rfl⟩
 | part=>exact ⟨_,0,fun i _=>rfl⟩
 | even=>
  obtain ⟨M,t,tl⟩:=zDv hw hc q0 q1
  exact ⟨_,M,t,tl,fun i _=>rfl⟩
 | lack=>
  obtain ⟨M,t,tl⟩:=zDv hw hc (q:=(cs.sum:Rat) - q) (by grind) (by grind)
  exact ⟨_,M,t,tl,fun i _=>rfl⟩
 | half=>
  by_cases z:(cs.sum:Rat) < q+q
  ·obtain ⟨M,t,tl⟩:=zDv (hG cs) hc (q:=((cs.sum:Rat) - q)+((cs.sum:Rat) - q)) (by grind) (by grind)
   exact ⟨_,M,t,.inr ⟨z,tl,fun i _=>rfl⟩⟩
  ·have z':=Rat.not_lt.mp z
   obtain ⟨M,t,tl⟩:=zDv (hG cs) hc (q:=q+q) (by grind) z'
   exact ⟨_,M,t,.inl ⟨z',tl,fun i _=>rfl⟩⟩
open Classical in
def FF (w:Wy) (ws cs:List Int) (q:Rat):Nat->Rat:=if h:∃ f M,Al M ws cs q f w then Classical.choose h else fun _=>0
theorem zAh {w:Wy} {ws cs:List Int} (hw:w.due ws cs) (hc:Cl cs) {q:Rat} (q0:0<=q) (q1:q<=(cs.sum:Rat)):∃ M,Al M ws cs q (FF w ws cs q) w:=by
 unfold FF
 rw [dif_pos (zMq hw hc q0 q1)]
 exact Classical.choose_spec (zMq hw hc q0 q1)
theorem zEx {M:Nat} {w:Wy} {ws cs:List Int} (hw:w.due ws cs) (hc:Cl cs) {q:Rat} {f:Nat->Rat} (q0:0<=q) (q1:q<=(cs.sum:Rat)) (a:Al M ws cs q f w) {i:Nat} (hi:i < cs.length):f i=FF w ws cs q i:=by
 obtain ⟨M',b⟩:=zAh hw hc q0 q1
 exact zMc hw a b hi
theorem zLI {w:Wy} {ws cs:List Int} (hw:w.due ws cs) (hc:Cl cs) {q:Rat} (q0:0<=q) (q1:q<=(cs.sum:Rat)):(∀ i,i < cs.length->0<=FF w ws cs q i/\FF w ws cs q i<=cR cs i)/\((List.range cs.length).map (FF w ws cs q)).sum=q:=by
 obtain ⟨M,b⟩:=zAh hw hc q0 q1
 exact zMS hw hc q0 q1 b
theorem zKu {w:Wy} {ws cs:List Int} (hw:w.due ws cs) (hc:Cl cs) {q q':Rat} (q0:0<=q) (l:q<=q') (q1:q'<=(cs.sum:Rat)) {i:Nat} (hi:i < cs.length):FF w ws cs q i<=FF w ws cs q' i:=by
 obtain ⟨M,a⟩:=zAh hw hc q0 (Rat.le_trans l q1)
 obtain ⟨M',b⟩:=zAh hw hc (Rat.le_trans q0 l) q1
 exact zJQ hw hc a b l hi
theorem zIR {w:Wy} {ws cs:List Int} (hw:w.due ws cs) (hc:Cl cs) {q:Rat} (q0:0<=q) (q1:q<=(cs.sum:Rat)) {i:Nat} (hi:i < cs.length):FF w.con ws cs ((cs.sum:Rat) - q) i=cR cs i - FF w ws cs q i:=by
 obtain ⟨M,a⟩:=zAh hw hc q0 q1
 obtain ⟨M',b⟩:=zAh (zFX hw) hc (q:=(cs.sum:Rat) - q) (by grind) (by grind)
 exact zMb hw hc q0 q1 a b hi
theorem zBi {f:Nat->Rat}:∀ {l:List Nat},(∀ i∈l,0<=f i)->gT f l=0->∀ i∈l,f i=0
 | [],_,_,i,h=>by cases h
 | a::l,hn,e,i,h=>by
  have p:0<=gT f l:=by
   have:∀ {l:List Nat},(∀ i∈l,0<=f i)->0<=gT f l:=by
    intro l
    induction l with
    | nil=>intro _;rw [gQ];exact Rat.le_refl
    | cons b l ih=>intro hl;rw [bA];have:=hl b List.mem_cons_self;have:=ih fun x hx=>hl x (List.mem_cons_of_mem _ hx);grind
   exact this fun x hx=>hn x (List.mem_cons_of_mem _ hx)
  have a0:=hn a List.mem_cons_self
  rw [bA] at e
  rcases List.mem_cons.mp h with rfl | h
  ·grind
  ·exact zBi (fun x hx=>hn x (List.mem_cons_of_mem _ hx)) (by grind) i h
theorem zGm {w:Wy} {ws cs:List Int} (hw:w.due ws cs) (hc:Cl cs) {i:Nat} (hi:i < cs.length):FF w ws cs 0 i=0:=by
 have s0:(0:Rat)<=(cs.sum:Rat):=by exact_mod_cast hc.sum.1
 obtain ⟨b,s⟩:=zLI hw hc Rat.le_refl s0
 exact zBi (fun i hi=>(b i (List.mem_range.mp hi)).1) s i (List.mem_range.mpr hi)
theorem zFS {w:Wy} {ws cs:List Int} (hw:w.due ws cs) (hc:Cl cs) {i:Nat} (hi:i < cs.length):FF w ws cs (cs.sum:Rat) i=cR cs i:=by
 have s0:(0:Rat)<=(cs.sum:Rat):=by exact_mod_cast hc.sum.1
 obtain ⟨b,s⟩:=zLI hw hc s0 Rat.le_refl
 have e:=pX (f:=FF w ws cs (cs.sum:Rat)) (g:=cR cs) (l:=List.range cs.length) (fun i hi=>(b i (List.mem_range.mp hi)).2) (by
  show ((List.range cs.length).map _).sum=_
  rw [s]
  exact (nU cs).symm)
 exact e i (List.mem_range.mpr hi)
theorem zBW:∀ {cs:List Int} {i j:Nat},(∀ c∈cs,0<=c)->i < j->j<=cs.length->(cs.take i).sum+cs.getD i 0<=(cs.take j).sum/\0<=(cs.take i).sum
 | [],i,j,_,h,h'=>by simp at h';omega
 | c::r,i,0,_,h,_=>by omega
 | c::r,0,j+1,hn,_,_=>by
  have hr:∀ l:List Int,(∀ c∈l,0<=c)->0<=l.sum:=by
   intro l
   induction l with
   | nil=>intro _;decide
   | cons a l ih=>intro hl;rw [List.sum_cons];have:=hl a List.mem_cons_self;have:=ih fun x hx=>hl x (List.mem_cons_of_mem _ hx);omega
  have:=hr (r.take j) fun x hx=>hn x (List.mem_cons_of_mem _ (List.mem_of_mem_take hx))
  rw [List.take_succ_cons,List.sum_cons]
  simp
  omega
 | c::r,i+1,j+1,hn,h,h'=>by
  have ih:=zBW (cs:=r) (i:=i) (j:=j) (fun x hx=>hn x (List.mem_cons_of_mem _ hx)) (by omega) (by simpa using h')
  have:=hn c List.mem_cons_self
  rw [List.take_succ_cons,List.sum_cons,List.take_succ_cons,List.sum_cons]
  show c+_+r.getD i 0<=_/\_
  omega
def Jt (w:Wy) (ws cs:List Int) (a b:Rat):Prop:=0<=a/\a<=b/\b<=(cs.sum:Rat)/\∀ i,i < cs.length->Lin (fun x=>FF w ws cs x i) a b
theorem Lin.const {f:Rat->Rat} {a b k:Rat} (hab:a<=b) (h:∀ x,a<=x->x<=b->f x=k):Lin f a b:=fun x h1 h2=>by
 rw [h x h1 h2,h a Rat.le_refl hab,h b hab Rat.le_refl]
 grind
theorem Lin.line {f:Rat->Rat} {a b m k:Rat} (hab:a<=b) (h:∀ x,a<=x->x<=b->f x=m * x+k):Lin f a b:=fun x h1 h2=>by
 rw [h x h1 h2,h a Rat.le_refl hab,h b hab Rat.le_refl]
 grind
def rj:List Int->Int->List Rat
 | [],a=>[(a:Rat)]
 | c::r,a=>(a:Rat)::rj r (a+c)
theorem zBC (r:List Int) (a:Int):∃ t,rj r a=(a:Rat)::t:=by cases r<;>exact ⟨_,rfl⟩
theorem zET {cs:List Int} (hc:Cl cs):∀ (post pre:List Int),cs=pre++post->Cn (Jt .row [] cs) (rj post pre.sum)
 | [],_,_=>trivial
 | c::r,pre,e=>by
  have ih:=zET hc r (pre++[c]) (by rw [e];simp)
  rw [List.sum_append,show ([c]:List Int).sum=c by simp] at ih
  obtain ⟨t,et⟩:=zBC r (pre.sum+c)
  rw [rj,et]
  rw [et] at ih
  refine ⟨?_,ih⟩
  have hk:pre.length < cs.length:=by rw [e];simp
  have tk:cs.take pre.length=pre:=by rw [e];exact List.take_left
  have ck:cs.getD pre.length 0=c:=by rw [e,List.getD_eq_getElem?_getD,List.getElem?_append_right (Nat.le_refl _)];simp
  have c0:0<=c:=hc.nn c (by rw [e];simp)
  have p0:0<=pre.sum:=by
   have:∀ l:List Int,(∀ c∈l,0<=c)->0<=l.sum:=by
    intro l
    induction l with
    | nil=>intro _;decide
    | cons a l ih=>intro hl;rw [List.sum_cons];have:=hl a List.mem_cons_self;have:=ih fun x hx=>hl x (List.mem_cons_of_mem _ hx);omega
   exact this pre fun x hx=>hc.nn x (by rw [e];exact List.mem_append_left _ hx)
  have r0:0<=r.sum:=by
   have:∀ l:List Int,(∀ c∈l,0<=c)->0<=l.sum:=by
    intro l
    induction l with
    | nil=>intro _;decide
    | cons a l ih=>intro hl;rw [List.sum_cons];have:=hl a List.mem_cons_self;have:=ih fun x hx=>hl x (List.mem_cons_of_mem _ hx);omega
   exact this r fun x hx=>hc.nn x (by rw [e];exact List.mem_append_right _ (List.mem_cons_of_mem _ hx))
  have se:cs.sum=pre.sum+c+r.sum:=by rw [e,List.sum_append,List.sum_cons];omega
  have ab:(pre.sum:Rat)<=((pre.sum+c:Int):Rat):=Rat.intCast_le_intCast.mpr (by omega)
  have bS:((pre.sum+c:Int):Rat)<=(cs.sum:Rat):=Rat.intCast_le_intCast.mpr (by omega)
  have a0:(0:Rat)<=(pre.sum:Rat):=by exact_mod_cast p0
  refine ⟨a0,ab,bS,fun i hi=>?_⟩
  have fx:∀ x,(pre.sum:Rat)<=x->x<=((pre.sum+c:Int):Rat)->FF .row [] cs x i=mn (ps0 (x - ((0+(cs.take i).sum:Int):Rat))) (cR cs i):=fun x h1 h2=>by
   rw [<-zEx (M:=0) (w:=.row) (ws:=[]) (f:=zEj cs x) rfl hc (Rat.le_trans a0 h1) (Rat.le_trans h2 bS) (fun i _=>rfl) hi]
   exact zBz cs 0 x i hi
  have ci:=(zHX hc hi).1
  rcases Nat.lt_trichotomy i pre.length with z | z | z
  ·have tu:=(zBW hc.nn z (Nat.le_of_lt hk)).1
   rw [tk] at tu
   refine Lin.const ab (k:=cR cs i) fun x h1 h2=>?_
   rw [fx x h1 h2]
   have tu':((0+(cs.take i).sum:Int):Rat)+cR cs i<=(pre.sum:Rat):=by
    unfold cR
    rw [<-Rat.intCast_add]
    exact Rat.intCast_le_intCast.mpr (by omega)
   unfold mn ps0
   grind
  ·subst z
   refine Lin.line ab (m:=1) (k:=-(pre.sum:Rat)) fun x h1 h2=>?_
   rw [fx x h1 h2,tk,Int.zero_add]
   have:cR cs pre.length=(c:Rat):=by unfold cR;rw [ck]
   rw [this]
   rw [Rat.intCast_add] at h2
   unfold mn ps0
   grind
  ·have tu:=(zBW hc.nn z (Nat.le_of_lt hi)).1
   rw [tk,ck] at tu
   refine Lin.const ab (k:=0) fun x h1 h2=>?_
   rw [fx x h1 h2]
   have tu':((pre.sum+c:Int):Rat)<=((0+(cs.take i).sum:Int):Rat):=Rat.intCast_le_intCast.mpr (by omega)
   unfold mn ps0
   grind
theorem zMe {cs:List Int} (hc:Cl cs):Cn (Jt .row [] cs) (rj cs 0):=zET hc cs [] rfl
theorem zJM {cs:List Int} (hc:Cl cs):Cn (Jt .part [] cs) [0,(cs.sum:Rat)]:=by
 have s0:(0:Rat)<=(cs.sum:Rat):=by exact_mod_cast hc.sum.1
 refine ⟨⟨Rat.le_refl,s0,Rat.le_refl,fun i hi=>?_⟩,trivial⟩
 have fx:∀ x,0<=x->x<=(cs.sum:Rat)->FF .part [] cs x i * (cs.sum:Rat)=x * cR cs i:=fun x h1 h2=>by
  rw [<-zEx (M:=0) (w:=.part) (ws:=[]) (f:=jL cs x) rfl hc h1 h2 (fun i _=>rfl) hi]
  exact (kP hc hi).1
 intro x h1 h2
 have e0:=zGm (w:=.part) (ws:=[]) rfl hc hi
 have e1:=fx x h1 h2
 have e2:=zFS (w:=.part) (ws:=[]) rfl hc hi
 show (FF .part [] cs x i - FF .part [] cs 0 i) * _=_ * (FF .part [] cs (cs.sum:Rat) i - FF .part [] cs 0 i)
 rw [e0,e2]
 generalize FF Wy.part [] cs x i=y at *
 generalize (cs.sum:Rat)=S at *
 generalize cR cs i=c at *
 grind
theorem zFZ {R R':Rat->Rat->Prop} {g:Rat->Rat} (h:∀ a b,R a b->R' (g a) (g b)):∀ {l:List Rat},Cn R l->Cn R' (l.map g)
 | [],_=>trivial
 | [_],_=>trivial
 | a::b::l,k=>⟨h a b k.1,zFZ h k.2⟩
theorem zEG {R:Rat->Rat->Prop}:∀ {l l':List Rat},Cn R l->Cn R l'->(∀ x y,l.getLast?=some x->l'.head?=some y->R x y)->Cn R (l++l')
 | [],_,_,h,_=>h
 | [a],[],_,_,_=>trivial
 | [a],b::l',_,h,k=>⟨k a b rfl rfl,h⟩
 | a::b::l,l',h,h',k=>⟨h.1,zEG h.2 h' fun x y hx hy=>k x y (by simpa using hx) hy⟩
theorem zGJ {R R':Rat->Rat->Prop} {g:Rat->Rat} (h:∀ a b,R a b->R' (g b) (g a)):∀ {l:List Rat},Cn R l->Cn R' (l.reverse.map g)
 | [],_=>trivial
 | [_],_=>trivial
 | a::b::l,k=>by
  have ih:=zGJ (l:=b::l) h k.2
  rw [List.reverse_cons,List.map_append]
  refine zEG ih trivial fun x y hx hy=>?_
  rw [List.getLast?_map,List.getLast?_reverse] at hx
  cases hx
  cases hy
  exact h a b k.1
theorem Lin.mir {f g:Rat->Rat} {a b S c:Rat} (hab:a<=b) (h:Lin f a b) (hg:∀ x,a<=x->x<=b->g (S - x)=c - f x):Lin g (S - b) (S - a):=fun x h1 h2=>by
 have k:=h (S - x) (by grind) (by grind)
 have e:=hg (S - x) (by grind) (by grind)
 rw [show S - (S - x)=x by grind] at e
 rw [e,hg a Rat.le_refl hab,hg b hab Rat.le_refl]
 grind
theorem zIa {w:Wy} {ws cs:List Int} (hw:w.due ws cs) (hc:Cl cs) {a b:Rat} (h:Jt w ws cs a b):Jt w.con ws cs ((cs.sum:Rat) - b) ((cs.sum:Rat) - a):=by
 obtain ⟨h1,h2,h3,h4⟩:=h
 refine ⟨by grind,by grind,by grind,fun i hi=>?_⟩
 exact Lin.mir h2 (h4 i hi) (c:=cR cs i) fun x x1 x2=>zIR hw hc (Rat.le_trans h1 x1) (Rat.le_trans x2 h3) hi
theorem zNx {ws cs:List Int} (h:Wt ws cs) (hc:Cl cs) {s t:Rat} (s0:0<=s) (st:s<=t) (n:zKI ws cs s t):Jt .even ws cs (QQ ws cs s) (QQ ws cs t):=by
 have g0:∀ i,i < cs.length->∀ t,0<=t->0<=gets (cR cs) (cR ws) t i/\gets (cR cs) (cR ws) t i<=cR cs i:=fun i hi t t0=>jV h hc t0 hi
 have q0:0<=QQ ws cs s:=by
  have:gT (fun i=>cR ws i * 0) (List.range cs.length)<=QQ ws cs s:=mQ fun i hi=>by
   have:=(g0 i (List.mem_range.mp hi) s s0).1
   grind
  rw [dC] at this
  grind
 have q1:QQ ws cs t<=(cs.sum:Rat):=by
  have:QQ ws cs t<=gT (cR cs) (List.range cs.length):=mQ fun i hi=>(g0 i (List.mem_range.mp hi) t (Rat.le_trans s0 st)).2
  have e:gT (cR cs) (List.range cs.length)=(cs.sum:Rat):=nU cs
  rw [e] at this
  exact this
 refine ⟨q0,nD h st,q1,fun i hi=>zMj h st n hi fun x x1 x2=>?_⟩
 obtain ⟨M,u,tl,e⟩:=zAh (w:=.even) h hc (Rat.le_trans q0 x1) (Rat.le_trans x2 q1)
 exact ⟨u,tl.sum,e i hi⟩
theorem zJN {ws cs:List Int} (h:Wt ws cs) (hc:Cl cs) {ls:List Rat} (so:ls.Pairwise (·<=·)) (hm:∀ i,i < cs.length->lv ws cs i∈ls) (h0:∀ x∈ls,0<=x):Cn (Jt .even ws cs) ((0::ls).map (QQ ws cs)):=by
 have so':(0::ls).Pairwise (·<=·):=List.pairwise_cons.mpr ⟨h0,so⟩
 have cn:=sY (A:=0::ls) so' fun x hx=>.inl hx
 have pos:∀ {l:List Rat},(∀ x∈l,0<=x)->Cn (fun s t=>s<=t/\∀ x∈0::ls,x<=s∨t<=x) l->Cn (fun s t=>0<=s/\s<=t/\∀ x∈0::ls,x<=s∨t<=x) l:=by
  intro l
  induction l with
  | nil=>intro _ _;trivial
  | cons a r ih=>
   intro hp k
   cases r with
   | nil=>trivial
   | cons b r=>exact ⟨⟨hp a List.mem_cons_self,k.1⟩,ih (fun x hx=>hp x (List.mem_cons_of_mem _ hx)) k.2⟩
 refine zFZ (fun a b hab=>?_) (pos (fun x hx=>?_) cn)
 ·exact zNx h hc hab.1 hab.2.1 fun i hi=>hab.2.2 _ (List.mem_cons_of_mem _ (hm i hi))
 ·rcases List.mem_cons.mp hx with rfl | hx
  ·exact Rat.le_refl
  ·exact h0 x hx
theorem zJF {cs:List Int} (hc:Cl cs) {q:Rat} (q0:0<=q) (q1:q+q<=(cs.sum:Rat)) {i:Nat} (hi:i < cs.length):FF .half [] cs q i=FF .even (ones cs) cs (q+q) i * hf:=by
 have s0:(0:Rat)<=(cs.sum:Rat):=by exact_mod_cast hc.sum.1
 obtain ⟨M,t,tl,e⟩:=zAh (w:=.even) (ws:=ones cs) (hG cs) hc (q:=q+q) (by grind) q1
 rw [<-zEx (M:=M) (w:=.half) (ws:=[]) (f:=fun i=>gets (cR cs) (cR (ones cs)) t i * hf) rfl hc q0 (by grind) ⟨t,.inl ⟨q1,tl,fun i _=>rfl⟩⟩ hi,e i hi]
theorem zKF {cs:List Int} (hc:Cl cs) {a b:Rat} (h:Jt .even (ones cs) cs a b):Jt .half [] cs (a * hf) (b * hf):=by
 obtain ⟨h1,h2,h3,h4⟩:=h
 have tw:∀ x:Rat,x * hf+x * hf=x:=fun x=>by rw [oV];grind
 have ta:=tw a
 have tb:=tw b
 have p:(0:Rat) < hf:=by rw [oV];grind
 have l1:=Rat.mul_le_mul_of_nonneg_right h1 (Rat.le_of_lt p)
 have l2:=Rat.mul_le_mul_of_nonneg_right h2 (Rat.le_of_lt p)
 refine ⟨by grind,l2,by grind,fun i hi x x1 x2=>?_⟩
 have fx:∀ y,a * hf<=y->y<=b * hf->FF .half [] cs y i=FF .even (ones cs) cs (y+y) i * hf:=fun y y1 y2=>zJF hc (by grind) (by grind) hi
 show (FF .half [] cs x i - FF .half [] cs (a * hf) i) * _=_ * (FF .half [] cs (b * hf) i - FF .half [] cs (a * hf) i)
 rw [fx x x1 x2,fx (a * hf) Rat.le_refl l2,fx (b * hf) l2 Rat.le_refl,ta,tb]
 have k:=h4 i hi (x+x) (by grind) (by grind)
 have k':(FF .even (ones cs) cs (x+x) i - FF .even (ones cs) cs a i) * (b - a)=(x+x - a) * (FF .even (ones cs) cs b i - FF .even (ones cs) cs a i):=k
 rw [show b * hf - a * hf=(b - a) * hf by grind]
 have hh:hf * (1+1)=1:=by rw [oV];grind
 generalize FF Wy.even (ones cs) cs (x+x) i=u at *
 generalize FF Wy.even (ones cs) cs a i=v at *
 generalize FF Wy.even (ones cs) cs b i=z at *
 generalize hf=H at *
 grind
structure JL (w:Wy) (ws cs:List Int) (l:List Rat):Prop where
 cn:Cn (Jt w ws cs) l
 hd:l.head?=some 0
 la:l.getLast?=some (cs.sum:Rat)
def ddR:Rat->List Rat->List Rat
 | _,[]=>[]
 | k,x::l=>if k < x then x::ddR x l else ddR k l
theorem zJU {w:Wy} {ws cs:List Int}:∀ {l:List Rat} {k:Rat},Cn (Jt w ws cs) (k::l)->Cn (fun a b=>a < b/\Jt w ws cs a b) (k::ddR k l)/\(k::ddR k l).getLast?=(k::l).getLast?
 | [],k,_=>⟨trivial,rfl⟩
 | x::l,k,h=>by
  rw [ddR]
  by_cases z:k < x
  ·rw [if_pos z]
   obtain ⟨i1,i2⟩:=zJU h.2
   refine ⟨⟨⟨z,h.1⟩,i1⟩,?_⟩
   rw [List.getLast?_cons_cons,List.getLast?_cons_cons]
   exact i2
  ·rw [if_neg z]
   have e:k=x:=by have:=h.1.2.1;grind
   subst e
   obtain ⟨i1,i2⟩:=zJU h.2
   refine ⟨i1,?_⟩
   rw [i2,List.getLast?_cons_cons]
theorem zCR:∀ (l:List Rat) (k:Rat),(ddR k l).Sublist l
 | [],_=>List.Sublist.refl _
 | x::l,k=>by
  rw [ddR]
  split
  ·exact (zCR l x).cons₂ x
  ·exact (zCR l k).cons x
structure JS (w:Wy) (ws cs:List Int) (l:List Rat):Prop where
 cn:Cn (fun a b=>a < b/\Jt w ws cs a b) l
 hd:l.head?=some 0
 la:l.getLast?=some (cs.sum:Rat)
theorem JL.js {w:Wy} {ws cs:List Int} {l:List Rat} (h:JL w ws cs (0::l)):JS w ws cs (0::ddR 0 l):=by
 obtain ⟨a,b⟩:=zJU h.cn
 exact ⟨a,rfl,by rw [b];exact h.la⟩
theorem zKy {R:Rat->Rat->Prop}:∀ {l:List Rat},Cn (fun a b=>a < b/\R a b) l->l.Pairwise (· < ·)
 | [],_=>.nil
 | [a],_=>List.pairwise_singleton ..
 | a::b::l,h=>by
  have ih:=zKy h.2
  refine List.pairwise_cons.mpr ⟨fun x hx=>?_,ih⟩
  rcases List.mem_cons.mp hx with rfl | hx
  ·exact h.1.1
  ·have z1:=h.1.1
   have z2:=(List.pairwise_cons.mp ih).1 x hx
   grind
theorem zLM {R:Rat->Rat->Prop}:∀ {l:List Rat} {k:Nat} {a b:Rat},Cn R l->l[k]?=some a->l[k+1]?=some b->R a b
 | x::y::l,0,a,b,h,e1,e2=>by cases e1;cases e2;exact h.1
 | x::y::l,k+1,a,b,h,e1,e2=>zLM (k:=k) h.2 (by simpa using e1) (by simpa using e2)
 | [x],0,a,b,h,e1,e2=>by simp at e2
 | [x],k+1,a,b,h,e1,e2=>by simp at e2
 | [],k,a,b,h,e1,e2=>by simp at e1
def jpt (w:Wy) (ws cs:List Int) (l:List Rat) (i:Nat):List Pt:=l.map fun q=>(q,FF w ws cs q i)
theorem JS.bd {w:Wy} {ws cs:List Int} {l:List Rat} (h:JS w ws cs l):∀ x∈l,0<=x/\x<=(cs.sum:Rat):=by
 have p:=zKy h.cn
 intro x hx
 obtain ⟨hd,la⟩:=(⟨h.hd,h.la⟩:_/\_)
 cases l with
 | nil=>cases hx
 | cons a r=>
  cases hd
  refine ⟨?_,?_⟩
  ·rcases List.mem_cons.mp hx with rfl | hx
   ·exact Rat.le_refl
   ·exact Rat.le_of_lt ((List.pairwise_cons.mp p).1 x hx)
  ·have key:∀ {l:List Rat} {e x:Rat},l.Pairwise (· < ·)->l.getLast?=some e->x∈l->x<=e:=by
    intro l
    induction l with
    | nil=>intro e x _ _ hx;cases hx
    | cons a r ih=>
     intro e x hp he hx
     obtain ⟨p1,p2⟩:=List.pairwise_cons.mp hp
     cases r with
     | nil=>rw [List.mem_singleton.mp hx];cases he;exact Rat.le_refl
     | cons b r=>
      rw [List.getLast?_cons_cons] at he
      rcases List.mem_cons.mp hx with rfl | hx
      ·exact Rat.le_trans (Rat.le_of_lt (p1 b List.mem_cons_self)) (ih p2 he List.mem_cons_self)
      ·exact ih p2 he hx
   exact key p la hx
theorem zCF {w:Wy} {ws cs:List Int} {l:List Rat} (hw:w.due ws cs) (hc:Cl cs) (h:JS w ws cs l) {i:Nat} (hi:i < cs.length):Ok (jpt w ws cs l i)/\(jpt w ws cs l i).getLast?=some ((cs.sum:Rat),cR cs i):=by
 have b:=h.bd
 refine ⟨⟨?_,?_⟩,?_⟩
 ·unfold jpt
  rw [List.head?_map,h.hd]
  show some ((0:Rat),FF w ws cs 0 i)=_
  rw [zGm hw hc hi]
 ·unfold jpt
  rw [List.pairwise_map]
  refine List.Pairwise.imp_of_mem (fun {x y} hx hy hxy=>?_) (zKy h.cn)
  exact ⟨hxy,zKu hw hc (b x hx).1 (Rat.le_of_lt hxy) (b y hy).2 hi⟩
 ·unfold jpt
  rw [List.getLast?_map,h.la]
  show some ((cs.sum:Rat),FF w ws cs (cs.sum:Rat) i)=_
  rw [zFS hw hc hi]
theorem zJf {w:Wy} {ws cs:List Int} {l:List Rat} (hw:w.due ws cs) (hc:Cl cs) (h:JS w ws cs l) {i:Nat} (hi:i < cs.length) {x:Rat} (x0:0<=x) (x1:x<=(cs.sum:Rat)):dB (jpt w ws cs l i) x=FF w ws cs x i:=by
 obtain ⟨ok,la⟩:=zCF hw hc h hi
 have pt:∀ {k:Nat} {p:Pt},(jpt w ws cs l i)[k]?=some p->l[k]?=some p.1/\p.2=FF w ws cs p.1 i:=fun {k p} e=>by
  unfold jpt at e
  rw [List.getElem?_map] at e
  cases hk:l[k]? with
  | none=>rw [hk] at e;cases e
  | some a=>rw [hk] at e;cases e;exact ⟨rfl,rfl⟩
 rcases zGx ok.2 la (fun p hp=>by rw [ok.1] at hp;cases hp;exact x0) x1 with ⟨k,p,e1,e2⟩ | ⟨k,p,q,e1,e2,e3,e4⟩
 ·have v:=fR ok.2 e1
  rw [(pt e1).2,e2] at v
  exact v
 ·rw [kQ ok.2 e1 e2 (Rat.le_of_lt e3) (Rat.le_of_lt e4)]
  obtain ⟨a1,a2⟩:=pt e1
  obtain ⟨b1,b2⟩:=pt e2
  obtain ⟨lt,j⟩:=zLM h.cn a1 b1
  have k:=j.2.2.2 i hi x (Rat.le_of_lt e3) (Rat.le_of_lt e4)
  have k':(FF w ws cs x i - FF w ws cs p.1 i) * (q.1 - p.1)=(x - p.1) * (FF w ws cs q.1 i - FF w ws cs p.1 i):=k
  unfold itp
  rw [a2,b2]
  generalize FF w ws cs x i=u at *
  generalize FF w ws cs p.1 i=v at *
  generalize FF w ws cs q.1 i=z at *
  have nz:q.1 - p.1≠0:=by grind
  refine lA nz ?_
  have e:(x - p.1) / (q.1 - p.1) * (q.1 - p.1)=x - p.1:=Rat.div_mul_cancel nz
  generalize (x - p.1) / (q.1 - p.1)=r at *
  grind
def wln (w:Wy) (ws cs:List Int) (l:List Rat) (i:Nat):List Pt:=mM (jpt w ws cs l i)
theorem qI {w:Wy} {ws cs:List Int} {l:List Rat} (hw:w.due ws cs) (hc:Cl cs) (h:JS w ws cs l) {i:Nat} (hi:i < cs.length):zHD (wln w ws cs l i)/\(wln w ws cs l i).getLast?=some ((cs.sum:Rat),cR cs i)/\(∀ p∈wln w ws cs l i,p.1∈l/\p.2=FF w ws cs p.1 i)/\∀ x,0<=x->x<=(cs.sum:Rat)->dB (wln w ws cs l i) x=FF w ws cs x i:=by
 obtain ⟨ok,la⟩:=zCF hw hc h hi
 unfold wln
 refine ⟨zBJ ok,by rw [zCq ok.2];exact la,fun p hp=>?_,fun x x0 x1=>by rw [zDW ok.2];exact zJf hw hc h hi x0 x1⟩
 have m:=(wF ok.2).subset hp
 unfold jpt at m
 obtain ⟨q,hq,rfl⟩:=List.mem_map.mp m
 exact ⟨hq,rfl⟩
theorem zJb {w:Wy} {ws cs:List Int} {l l':List Rat} (hw:w.due ws cs) (hc:Cl cs) (h:JS w ws cs l) (h':JS w ws cs l') {i:Nat} (hi:i < cs.length):wln w ws cs l i=wln w ws cs l' i:=by
 obtain ⟨a1,a2,_,a3⟩:=qI hw hc h hi
 obtain ⟨b1,b2,_,b3⟩:=qI hw hc h' hi
 exact zFl a1 b1 a2 b2 rfl fun x x0 x1=>by rw [a3 x x0 x1,b3 x x0 x1]
theorem zKG {w:Wy} {ws cs:List Int} {l l':List Rat} (hw:w.due ws cs) (hc:Cl cs) (h:JS w ws cs l) (h':JS w.con ws cs l') {i:Nat} (hi:i < cs.length):wln w.con ws cs l' i=trn (wln w ws cs l i) ((cs.sum:Rat),cR cs i):=by
 obtain ⟨a1,a2,_,a3⟩:=qI hw hc h hi
 obtain ⟨b1,b2,_,b3⟩:=qI (zFX hw) hc h' hi
 refine zFl b1 (zDu a1 a2) b2 (zHg a1.1.1) rfl fun x x0 x1=>?_
 have x1':x<=(cs.sum:Rat):=x1
 rw [b3 x x0 x1,zJR a1 a2 x0 x1]
 show _=cR cs i - dB (wln w ws cs l i) ((cs.sum:Rat) - x)
 rw [a3 _ (by grind) (by grind),<-zIR hw hc (q:=(cs.sum:Rat) - x) (by grind) (by grind) hi,show (cs.sum:Rat) - ((cs.sum:Rat) - x)=x by grind]
theorem sE:∀ {l m:List Rat},l.Perm m->l.Pairwise (·<=·)->m.Pairwise (·<=·)->l=m
 | [],m,p,_,_=>(List.nil_perm.mp p).symm
 | a::l,[],p,_,_=>by cases (List.perm_nil.mp p)
 | a::l,b::m,p,h,k=>by
  obtain ⟨h1,h2⟩:=List.pairwise_cons.mp h
  obtain ⟨k1,k2⟩:=List.pairwise_cons.mp k
  have e:a=b:=by
   have x:a<=b:=by
    rcases List.mem_cons.mp (p.mem_iff.mpr List.mem_cons_self) with e | e
    ·rw [e];exact Rat.le_refl
    ·exact h1 b e
   have y:b<=a:=by
    rcases List.mem_cons.mp (p.mem_iff.mp List.mem_cons_self) with e | e
    ·rw [e];exact Rat.le_refl
    ·exact k1 a e
   grind
  subst e
  rw [sE (List.perm_cons a |>.mp p) h2 k2]
theorem zAt {cs:List Int} {cd:D} (sc:Sq cd cs) (hc:Cl cs):eM [cd]=.ok (.f ((rj cs 0).map dq)):=by
 have hi:=hc.hi
 have lp:∀ (r:List Int) (a:Int) (acc:List D) (s:Sl),acc.length+r.length<=1000->∃ a' s',eP (gName 3) mH (r.map D.int) [.val cd,.val (.int a),.own (acc++[dq (a:Rat)]),s]=.ok (.nx [.val cd,a',.own (acc++(rj r a).map dq),s']):=by
  intro r
  induction r with
  | nil=>intro a acc s _;exact ⟨_,s,rfl⟩
  | cons c r ih=>
   intro a acc s hl
   rw [List.length_cons] at hl
   obtain ⟨a',s',e⟩:=ih (a+c) (acc++[dq (a:Rat)]) (.val (.int c)) (by rw [List.length_append];simp;omega)
   refine ⟨a',s',?_⟩
   rw [List.map_cons,gD (ρ1:=[.val cd,.val (.int a),.own (acc++[dq (a:Rat)]),.val (.int c)]) (ρ2:=[.val cd,.val (.int (a+c)),.own (acc++[dq (a:Rat)]++[dq ((a+c:Int):Rat)]),.val (.int c)]) rfl (by
    walk_at "ev"
    rw [cC]
    walk_at "ev"
    rw [if_pos (by rw [List.length_append];simp;omega)]),e,rj,List.map_cons,List.append_assoc]
   rfl
 obtain ⟨a',s',e⟩:=lp cs 0 [] .un (by simp;omega)
 rw [List.nil_append,List.nil_append] at e
 unfold eM
 walk_at "ev"
 rw [sc.seq]
 walk_at "ev"
 have e0:dq ((0:Int):Rat)=dq 0:=rfl
 rw [e0] at e
 rw [e]
 walk_at "ev"
theorem zGG {ws cs:List Int} (h:Wt ws cs) {i:Nat} {pre post:List Nat} (hm:∀ j∈pre++i::post,j < cs.length) (so:(pre++i::post).Pairwise fun a b=>lv ws cs a<=lv ws cs b) (p:(pre++i::post).Perm (List.range cs.length)):QQ ws cs (lv ws cs i)=((wS cs pre:Int):Rat)+lv ws cs i * ((wS ws (i::post):Int):Rat):=by
 unfold QQ
 rw [<-tE p]
 have app:∀ (f:Nat->Rat) (a b:List Nat),gT f (a++b)=gT f a+gT f b:=by
  intro f a b
  induction a with
  | nil=>rw [List.nil_append,gQ,Rat.zero_add]
  | cons x a ih=>rw [List.cons_append,bA,bA,ih];grind
 obtain ⟨s1,s2,s3⟩:=List.pairwise_append.mp so
 rw [app,dS (g:=cR cs) (l:=pre) fun j hj=>zFg h (hm j (List.mem_append_left _ hj)) (s3 j hj i List.mem_cons_self),lK]
 rw [dS (g:=fun j=>cR ws j * lv ws cs i) (l:=i::post) fun j hj=>zGi h (hm j (List.mem_append_right _ hj)) (by
  rcases List.mem_cons.mp hj with rfl | hj
  ·exact Rat.le_refl
  ·exact (List.pairwise_cons.mp s2).1 j hj),dC,lK]
theorem zJj {ws cs:List Int} (h:Wt ws cs) (hc:Cl cs) {i:Nat} (hi:i < cs.length):Sz 104 (lv ws cs i)/\Dn (ws.getD i 0) (lv ws cs i):=by
 have w:=h.at hi
 have c1:=hc.nn _ (List.mem_of_getElem? (bQ hi))
 have c2:=hc.up _ (List.mem_of_getElem? (bQ hi))
 refine ⟨?_,cs.getD i 0,?_⟩
 ·unfold lv cR
  rw [<-Rat.divInt_eq_div]
  exact Sz.of (by omega) (by omega) (by omega)
 ·have e:=zR h hi
  have e':((ws.getD i 0:Int):Rat) * lv ws cs i=((cs.getD i 0:Int):Rat):=e
  rw [<-e']
  grind
theorem zKw {cs:List Int} (hn:∀ c∈cs,0<=c):∀ {π:List Nat},(∀ i∈π,i < cs.length)->0<=wS cs π
 | [],_=>by show (0:Int)<=0;decide
 | i::π,h=>by
  rw [kW]
  have a:=hn _ (List.mem_of_getElem? (bQ (h i List.mem_cons_self)))
  have b:=zKw hn fun j hj=>h j (List.mem_cons_of_mem _ hj)
  omega
theorem zIS (cs:List Int) (a b:List Nat):wS cs (a++b)=wS cs a+wS cs b:=by unfold wS;rw [List.map_append,List.sum_append]
theorem pF {ws cs:List Int} {wd cd:D} (sw:Sq wd ws) (sc:Sq cd cs) (h:Wt ws cs) (hc:Cl cs):∃ ls:List Rat,cV [wd,cd]=.ok (.f (((0::ls).map (QQ ws cs)).map dq))/\ls.Pairwise (·<=·)/\ls.Perm ((List.range cs.length).map (lv ws cs))/\QQ ws cs 0=0:=by
 have hcc:∀ c∈cs,0<=c/\c < 10^30:=fun c h=>⟨hc.nn c h,hc.up c h⟩
 have hi:=hc.hi
 have sm:=hc.sum
 have hw:=h.len
 have hkr:=wC (zIk h hcc) (by rw [xY hw];exact hi)
 generalize hkz:(lvs ws cs).map (zGO (rJ (lvs ws cs)))=kz at hkr
 have lz:kz.length=cs.length:=by rw [<-hkz,List.length_map,xY hw]
 have B0:(0:Rat) < (rJ (lvs ws cs):Rat):=by exact_mod_cast xM (lvs ws cs)
 have kat:∀ i,i < cs.length->((kz.getD i 0:Int):Rat)=lv ws cs i * (rJ (lvs ws cs):Rat):=fun i h=>by
  have e:=zFD hw h
  have e2:kz.getD i 0=zGO (rJ (lvs ws cs)) (cR cs i / cR ws i):=by rw [<-hkz,List.getD_eq_getElem?_getD,List.getElem?_map,e];rfl
  rw [e2]
  exact zIg (List.mem_of_getElem? e)
 have z0:QQ ws cs 0=0:=by
  unfold QQ
  rw [dS (g:=fun i=>cR ws i * 0) fun i hi=>zGi h (List.mem_range.mp hi) (zGd h hc (List.mem_range.mp hi)),dC]
  grind
 have ord:∀ π,gA kz π->π.Perm (List.range cs.length)/\(∀ i∈π,i < cs.length)/\π.Pairwise fun a b=>lv ws cs a<=lv ws cs b:=by
  intro π hπ
  obtain ⟨hp,ho⟩:=hπ
  rw [lz] at hp
  have hm:∀ i∈π,i < cs.length:=fun i h=>List.mem_range.mp (hp.mem_iff.mp h)
  refine ⟨hp,hm,List.Pairwise.imp_of_mem (fun {i j} h1 h2 h3=>?_) ho⟩
  have h4:((kz.getD i 0:Int):Rat)<=((kz.getD j 0:Int):Rat):=Rat.intCast_le_intCast.mpr h3
  rw [kat i (hm i h1),kat j (hm j h2)] at h4
  exact Rat.le_of_mul_le_mul_right h4 B0
 obtain ⟨π0,hπ0⟩:=zCe kz
 obtain ⟨p0,m0,s0⟩:=ord π0 hπ0
 have key:∀ π,gA kz π->π.map (lv ws cs)=π0.map (lv ws cs):=fun π hπ=>by
  obtain ⟨p1,m1,s1⟩:=ord π hπ
  exact sE ((p1.trans p0.symm).map _) (List.pairwise_map.mpr s1) (List.pairwise_map.mpr s0)
 refine ⟨π0.map (lv ws cs),?_,List.pairwise_map.mpr s0,p0.map _,z0⟩
 have lp:∀ (π:List Nat) (hπ:π.Perm (List.range cs.length)) (so:π.Pairwise fun a b=>lv ws cs a<=lv ws cs b) (post pre:List Nat) (acc:List D) (s:Sl),π=pre++post->acc.length+post.length<=100->∃ a' b' s',eP (gName 6) eU (jB post) [.val wd,.val cd,.val (.int (wS cs pre)),.val (.int (wS ws post)),.val (.lst ((lvs ws cs).map dq)),.own acc,s]=.ok (.nx [.val wd,.val cd,a',b',.val (.lst ((lvs ws cs).map dq)),.own (acc++post.map fun i=>dq (QQ ws cs (lv ws cs i))),s']):=by
  intro π hπ so post
  induction post with
  | nil=>intro pre acc s _ _;exact ⟨_,_,s,by rw [List.map_nil,List.append_nil];rfl⟩
  | cons i post ih=>
   intro pre acc s e hl
   have hm:∀ j∈pre++i::post,j < cs.length:=fun j hj=>List.mem_range.mp (hπ.mem_iff.mp (by rw [e];exact hj))
   have hii:=hm i (by simp)
   have ss:=zGG h hm (by rw [<-e];exact so) (by rw [<-e];exact hπ)
   have W:=h.sum (π:=i::post) fun j hj=>hm j (List.mem_append_right _ hj)
   have ln:(pre++i::post).length=cs.length:=by rw [<-e,hπ.length_eq,List.length_range]
   rw [List.length_append,List.length_cons] at ln
   rw [List.length_cons] at W hl
   have F0:=zKw hc.nn (π:=pre) fun j hj=>hm j (List.mem_append_left _ hj)
   have F1:wS cs pre<=cs.sum:=by
    have t:=xF (ws:=cs) (π:=pre++i::post) (by rw [<-e];exact hπ)
    rw [zIS] at t
    have:=zKw hc.nn (π:=i::post) fun j hj=>hm j (List.mem_append_right _ hj)
    omega
   obtain ⟨a',b',s',e'⟩:=ih (pre++[i]) (acc++[dq (QQ ws cs (lv ws cs i))]) (.val (.int (i:Nat))) (by rw [e];simp) (by rw [List.length_append];simp;omega)
   refine ⟨a',b',s',?_⟩
   have zl:=(zJj h hc hii).1
   have zW:Sz 24 ((wS ws (i::post):Int):Rat):=cJ (by omega) (by decide)
   have zF:Sz 105 ((wS cs pre:Int):Rat):=cJ (by omega) (by decide)
   have ixl:oIx (.lst ((lvs ws cs).map dq)) (.int (i:Int))=.ok (dq (lv ws cs i)):=kO (Int.natCast_nonneg i) (zFD hw hii)
   show eP _ _ (.int (i:Nat)::jB post) _=_
   rw [gD (ρ1:=[.val wd,.val cd,.val (.int (wS cs pre)),.val (.int (wS ws (i::post))),.val (.lst ((lvs ws cs).map dq)),.own acc,.val (.int (i:Nat))]) (ρ2:=[.val wd,.val cd,.val (.int (wS cs (pre++[i]))),.val (.int (wS ws post)),.val (.lst ((lvs ws cs).map dq)),.own (acc++[dq (QQ ws cs (lv ws cs i))]),.val (.int (i:Nat))]) rfl (by
    walk_at "ev"
    rw [cC]
    walk_at "ev"
    rw [ixl]
    walk_at "ev"
    rw [cC]
    walk_at "ev"
    rw [mT zl zW (by decide)]
    walk_at "ev"
    rw [zCE zF (zl.mul zW) (by decide),<-ss]
    walk_at "ev"
    rw [if_pos (by omega)]
    walk_at "ev"
    rw [sc.ix hii]
    walk_at "ev"
    rw [sw.ix (by omega)]
    walk_at "ev"
    rw [zIS,kW ws,show wS cs [i]=cs.getD i 0 by unfold wS;simp,show ws.getD i 0+wS ws post - ws.getD i 0=wS ws post by omega]),e',List.append_assoc]
   rfl
 have one:∀ π,gA kz π->bF (fun ρ=>eP (gName 6) eU (jB π) ρ) lE [.val wd,.val cd,.val (.int 0),.val (.int ws.sum),.val (.lst ((lvs ws cs).map dq)),.own [dq 0],.un]=.ok (.ret (.f (((0::π0.map (lv ws cs)).map (QQ ws cs)).map dq))):=by
  intro π hπ
  obtain ⟨p1,m1,s1⟩:=ord π hπ
  have lπ:π.length=cs.length:=by rw [p1.length_eq,List.length_range]
  obtain ⟨a',b',s',e⟩:=lp π p1 s1 π [] [dq 0] .un rfl (by simp;omega)
  rw [show wS cs []=0 from rfl,xF (ws:=ws) (π:=π) (by rw [hw];exact p1)] at e
  refine (zIp (a:=fun ρ=>eP (gName 6) eU (jB π) ρ) e).trans ?_
  rw [<-key π hπ,List.map_cons,z0,List.map_cons,List.map_map,List.map_map]
  rfl
 unfold cV
 walk_at "ev"
 rw [sw.sum]
 walk_at "ev"
 rw [tP sw sc h hi]
 walk_at "ev"
 unfold kZ
 rw [zGD (kz:=kz) (by walk_at "ev"; exact hkr) one]
 rfl
theorem pJ {l:List Rat} {S:Int} (hl:l.length<=1000) (hz:∀ x∈l,Sz 300 x) (hS:S.natAbs < 2^105):fK [.lst (l.map dq),dq (S:Rat)]=.ok (.f ((l.reverse.map fun x=>(S:Rat) - x).map dq)):=by
 have zS:Sz 105 (S:Rat):=cJ hS (by decide)
 unfold fK
 walk_at "ev"
 rw [show (l.map dq).reverse=l.reverse.map dq by rw [List.map_reverse]]
 rw [eQ (u:=dq) (g:=fun x=>dq ((S:Rat) - x)) (by rw [List.length_reverse];omega) (fun x hx=>by
  walk_at "ev"
  rw [eD zS (hz x (List.mem_reverse.mp hx)) (by decide)]
  walk_at "ev")]
 walk_at "ev"
 rw [List.map_map]
 rfl
theorem pT {l:List Rat} (hl:l.length<=900) (hz:∀ x∈0::l,Sz 300 x):cP [.lst ((0::l).map dq)]=.ok (.f ((0::ddR 0 l).map dq)):=by
 have lp:∀ (r:List Rat) (acc:List Rat) (k:Rat) (d:Sl) (s:Sl),(∀ x∈r,Sz 300 x)->Sz 300 k->acc.length+r.length<=1000->∃ s',eP (gName 2) hJ (r.map dq) [d,.own ((acc++[k]).map dq),s]=.ok (.nx [d,.own ((acc++k::ddR k r).map dq),s']):=by
  intro r
  induction r with
  | nil=>intro acc k d s _ _ _;exact ⟨s,rfl⟩
  | cons x r ih=>
   intro acc k d s hr hk hl
   rw [List.length_cons] at hl
   have hx:=hr x List.mem_cons_self
   have ixk:oIx (.lst ((acc++[k]).map dq)) (.int (-1))=.ok (dq k):=zBM (k:=1) rfl (by decide) (by rw [List.length_append];simp) (by rw [List.length_append];simp)
   have hr':∀ y∈r,Sz 300 y:=fun y hy=>hr y (List.mem_cons_of_mem _ hy)
   rw [List.map_cons,ddR]
   by_cases z:k < x
   ·obtain ⟨s',e⟩:=ih (acc++[k]) x d (.val (dq x)) hr' hx (by rw [List.length_append];simp;omega)
    refine ⟨s',?_⟩
    rw [if_pos z,gD (ρ1:=[d,.own ((acc++[k]).map dq),.val (dq x)]) (ρ2:=[d,.own ((acc++[k]++[x]).map dq),.val (dq x)]) rfl (by
     cases d<;>(
      walk_at "ev"
      rw [ixk]
      walk_at "ev"
      rw [sW hk hx (by decide),decide_eq_true z]
      walk_at "ev"
      rw [if_pos (by rw [List.length_append];simp;omega),List.map_append (l₁:=acc++[k])]
      rfl)),e,List.append_assoc]
    rfl
   ·obtain ⟨s',e⟩:=ih acc k d (.val (dq x)) hr' hk (by omega)
    refine ⟨s',?_⟩
    rw [if_neg z,gD (ρ1:=[d,.own ((acc++[k]).map dq),.val (dq x)]) (ρ2:=[d,.own ((acc++[k]).map dq),.val (dq x)]) rfl (by
     cases d<;>(
      walk_at "ev"
      rw [ixk]
      walk_at "ev"
      rw [sW hk hx (by decide),decide_eq_false z]
      walk_at "ev")),e]
 obtain ⟨s',e⟩:=lp (0::l) [] 0 (.val (.lst ((0::l).map dq))) .un hz ⟨by decide,by decide⟩ (by simp;omega)
 rw [List.nil_append,List.nil_append,ddR,if_neg (by decide)] at e
 unfold cP
 walk_at "ev"
 rw [zGW (by decide),show ((1:Int).toNat)=1 from rfl,show List.take 1 (dq 0::l.map dq)=[0].map dq from rfl]
 rw [List.map_cons] at e
 rw [e]
 rfl
theorem zNc {B S:Int} {x:Rat} (h:Dn B x) (hB:0 < B) (hB':B < 2^30) (h0:0<=x) (h1:x<=(S:Rat)) (hS:S < 2^104):Sz 300 x:=(h.sz (a:=104) (b:=30) hB hB' h0 h1 hS).mono (by decide)
def Jd (cs:List Int) (l:List Rat):Prop:=l.length<=30/\∀ x∈l,∃ B:Int,0 < B/\B<=2 * 10^6/\Dn B x
theorem zKs {w:Wy} {ws cs:List Int}:∀ {l:List Rat},Cn (Jt w ws cs) l->2<=l.length->∀ x∈l,0<=x/\x<=(cs.sum:Rat)
 | [],_,h,x,hx=>by cases hx
 | [a],_,h,x,hx=>by simp at h
 | [a,b],h,_,x,hx=>by
  obtain ⟨h1,h2,h3,_⟩:=h.1
  rcases List.mem_cons.mp hx with rfl | hx
  ·exact ⟨h1,Rat.le_trans h2 h3⟩
  ·rw [List.mem_singleton.mp hx];exact ⟨Rat.le_trans h1 h2,h3⟩
 | a::b::c::l,h,_,x,hx=>by
  obtain ⟨h1,h2,h3,_⟩:=h.1
  rcases List.mem_cons.mp hx with rfl | hx
  ·exact ⟨h1,Rat.le_trans h2 h3⟩
  ·exact zKs h.2 (by simp) x hx
theorem zIJ:∀ (r:List Int) (a:Int),∀ x∈rj r a,∃ k:Int,x=(k:Rat)
 | [],a,x,h=>⟨a,List.mem_singleton.mp h⟩
 | c::r,a,x,h=>by
  rcases List.mem_cons.mp h with rfl | h
  ·exact ⟨a,rfl⟩
  ·exact zIJ r (a+c) x h
theorem zII:∀ (r:List Int) (a:Int),(rj r a).length=r.length+1/\(rj r a).getLast?=some ((a+r.sum:Int):Rat)
 | [],a=>⟨rfl,by show some (a:Rat)=_;rw [List.sum_nil,Int.add_zero]⟩
 | c::r,a=>by
  obtain ⟨h1,h2⟩:=zII r (a+c)
  refine ⟨by rw [rj,List.length_cons,h1,List.length_cons],?_⟩
  obtain ⟨t,et⟩:=zBC r (a+c)
  rw [rj,et,List.getLast?_cons_cons,<-et,h2,List.sum_cons,Int.add_assoc]
theorem zJs {ws cs:List Int} (h:Wt ws cs) (hc:Cl cs) {ls:List Rat} (so:ls.Pairwise (·<=·)) (pm:ls.Perm ((List.range cs.length).map (lv ws cs))):∀ x∈(0::ls).map (QQ ws cs),∃ B:Int,0 < B/\B<=10^6/\Dn B x:=by
 have gd:∀ (t:Rat) (B:Int),Dn B t->Dn B (QQ ws cs t):=fun t B hB=>by
  have all:∀ l:List Nat,Dn B (gT (gets (cR cs) (cR ws) t) l):=by
   intro l
   induction l with
   | nil=>exact Dn.zero B
   | cons i l ih=>
    rw [bA]
    refine Dn.add (Dn.mn ?_ (Dn.int _ _)) ih
    obtain ⟨k,hk⟩:=hB
    refine ⟨ws.getD i 0 * k,?_⟩
    rw [Rat.intCast_mul,<-hk]
    show cR ws i * t * _=cR ws i * _
    grind
  exact all _
 intro x hx
 obtain ⟨t,ht,rfl⟩:=List.mem_map.mp hx
 rcases List.mem_cons.mp ht with rfl | ht
 ·exact ⟨1,by decide,by decide,gd 0 1 (Dn.zero 1)⟩
 ·obtain ⟨i,hi,rfl⟩:=List.mem_map.mp (pm.mem_iff.mp ht)
  have hi':=List.mem_range.mp hi
  have w:=h.at hi'
  exact ⟨ws.getD i 0,by omega,w.2,gd _ _ (zJj h hc hi').2⟩
theorem zFG (w:Wy):aW.lookup w.s=some w.con.s:=by
 cases w
 ·exact zFq
 ·exact yU
 ·exact zDp
 ·exact xI
 ·exact zDm
 ·exact wW
theorem zFz (w:Wy):dF [.str w.s]=.ok (.v (.str w.con.s)):=by
 have e:tR aW (.str w.s)=.ok (.str w.con.s):=by show zKK (aW.lookup w.s)=_;rw [zFG];rfl
 unfold dF
 walk_at "ev"
 rw [sL (zFG w)]
 walk_at "ev"
 rw [e]
 walk_at "ev"
theorem wT:∀ {l:List Rat} {e x:Rat},l.Pairwise (·<=·)->l.getLast?=some e->x∈l->x<=e
 | [],_,_,_,h,_=>by cases h
 | [a],e,x,_,h,hx=>by rw [List.mem_singleton.mp hx];cases h;exact Rat.le_refl
 | a::b::r,e,x,hp,h,hx=>by
  obtain ⟨p1,p2⟩:=List.pairwise_cons.mp hp
  rw [List.getLast?_cons_cons] at h
  rcases List.mem_cons.mp hx with rfl | hx
  ·exact Rat.le_trans (p1 b List.mem_cons_self) (wT p2 h List.mem_cons_self)
  ·exact wT p2 h hx
theorem zHq {ws cs:List Int} (h:Wt ws cs) (hc:Cl cs) {ls:List Rat} (so:ls.Pairwise (·<=·)) (pm:ls.Perm ((List.range cs.length).map (lv ws cs))) (z0:QQ ws cs 0=0):JL .even ws cs ((0::ls).map (QQ ws cs)):=by
 have hm:∀ i,i < cs.length->lv ws cs i∈ls:=fun i hi=>pm.mem_iff.mpr (List.mem_map.mpr ⟨i,List.mem_range.mpr hi,rfl⟩)
 have h0:∀ x∈ls,0<=x:=fun x hx=>by
  obtain ⟨i,hi,rfl⟩:=List.mem_map.mp (pm.mem_iff.mp hx)
  exact zGd h hc (List.mem_range.mp hi)
 refine ⟨zJN h hc so hm h0,by rw [List.map_cons,z0];rfl,?_⟩
 rw [List.getLast?_map]
 obtain ⟨e,he⟩:∃ e,(0::ls).getLast?=some e:=⟨_,List.getLast?_eq_some_getLast (by simp)⟩
 rw [he]
 have so':(0::ls).Pairwise (·<=·):=List.pairwise_cons.mpr ⟨h0,so⟩
 refine congrArg some ?_
 unfold QQ
 rw [dS (g:=cR cs) fun i hi=>zFg h (List.mem_range.mp hi) (wT so' he (List.mem_cons_of_mem _ (hm i (List.mem_range.mp hi))))]
 exact nU cs
theorem zIl {w:Wy} {ws cs:List Int} (hw:w.due ws cs) (hc:Cl cs) {l:List Rat} (h:JL w ws cs l):JL w.con ws cs (l.reverse.map fun x=>(cs.sum:Rat) - x):=by
 refine ⟨zGJ (fun a b k=>zIa hw hc k) h.cn,?_,?_⟩
 ·rw [List.head?_map,List.head?_reverse,h.la]
  show some ((cs.sum:Rat) - (cs.sum:Rat))=some 0
  rw [show (cs.sum:Rat) - (cs.sum:Rat)=0 by grind]
 ·rw [List.getLast?_map,List.getLast?_reverse,h.hd]
  show some ((cs.sum:Rat) - 0)=_
  rw [show (cs.sum:Rat) - 0=(cs.sum:Rat) by grind]
theorem zKd {cs:List Int} (hc:Cl cs) {l:List Rat} (h:JL .even (ones cs) cs l):JL .half [] cs (l.map (· * hf)++(l.map (· * hf)).reverse.map fun x=>(cs.sum:Rat) - x):=by
 have c1:Cn (Jt .half [] cs) (l.map (· * hf)):=zFZ (fun a b k=>zKF hc k) h.cn
 have c2:Cn (Jt .half [] cs) ((l.map (· * hf)).reverse.map fun x=>(cs.sum:Rat) - x):=zGJ (fun a b k=>zIa (w:=.half) (ws:=[]) rfl hc k) c1
 have s0:(0:Rat)<=(cs.sum:Rat):=by exact_mod_cast hc.sum.1
 have hh:hf+hf=1:=by rw [oV];grind
 have h0:(0:Rat)<=hf:=by rw [oV];grind
 have m0:=Rat.mul_nonneg s0 h0
 refine ⟨zEG c1 c2 fun x y hx hy=>?_,?_,?_⟩
 ·rw [List.getLast?_map,h.la] at hx
  rw [List.head?_map,List.head?_reverse,List.getLast?_map,h.la] at hy
  cases hx
  cases hy
  have e:(cs.sum:Rat) - (cs.sum:Rat) * hf=(cs.sum:Rat) * hf:=by
   generalize (cs.sum:Rat)=S at *
   generalize hf=H at *
   grind
  show Jt .half [] cs ((cs.sum:Rat) * hf) ((cs.sum:Rat) - (cs.sum:Rat) * hf)
  rw [e]
  refine ⟨m0,Rat.le_refl,by grind,fun i hi x x1 x2=>?_⟩
  have:x=(cs.sum:Rat) * hf:=by grind
  subst this
  grind
 ·cases l with
  | nil=>cases h.hd
  | cons a l=>
   cases h.hd
   show some ((0:Rat) * hf)=some 0
   rw [Rat.zero_mul]
 ·have ne:((l.map (· * hf)).reverse.map fun x=>(cs.sum:Rat) - x).getLast?=some (cs.sum:Rat):=by
   rw [List.getLast?_map,List.getLast?_reverse,List.head?_map,h.hd]
   show some ((cs.sum:Rat) - 0 * hf)=_
   rw [show (cs.sum:Rat) - 0 * hf=(cs.sum:Rat) by grind]
  rw [List.getLast?_append,ne]
  rfl
theorem zKb {w:Wy} {ws cs:List Int} (hc:Cl cs) {l:List Rat} (h:JL w ws cs l) (h2:2<=l.length) (d:Jd cs l):∀ x∈l,Sz 300 x:=fun x hx=>by
 obtain ⟨b0,b1⟩:=zKs h.cn h2 x hx
 obtain ⟨B,B0,B1,dn⟩:=d.2 x hx
 exact zNc dn B0 (by omega) b0 b1 hc.sum.2
theorem zJm {w:Wy} {ws cs:List Int} {l:List Rat} (h:JL w ws cs l):∃ t,l=0::t:=by
 cases l with
 | nil=>cases h.hd
 | cons a t=>cases h.hd;exact ⟨t,rfl⟩
section
variable {n:Nat} {ws cs:List Int} {wd cd e:D}
theorem zLv (sc:Sq cd cs) (hc:Cl cs):bG (n+1) [.str (Str.ofString "row"),e,cd]=.ok (.f ((rj cs 0).map dq)):=by
 show bZ (bG n) _=_
 unfold bZ
 walk_at "ev"
 rw [sc.sum]
 walk_at "ev"
 rw [cC]
 walk_at "ev"
 rw [zAt sc hc]
 walk_at "ev"
theorem zGe (sw:Sq wd ws) (sc:Sq cd cs) (h:Wt ws cs) (hc:Cl cs):∃ ls:List Rat,bG (n+1) [.str (Str.ofString "even"),wd,cd]=.ok (.f (((0::ls).map (QQ ws cs)).map dq))/\ls.Pairwise (·<=·)/\ls.Perm ((List.range cs.length).map (lv ws cs))/\QQ ws cs 0=0:=by
 obtain ⟨ls,e1,e2,e3,e4⟩:=pF sw sc h hc
 refine ⟨ls,?_,e2,e3,e4⟩
 show bZ (bG n) _=_
 unfold bZ
 walk_at "ev"
 rw [sc.sum]
 walk_at "ev"
 rw [cC]
 walk_at "ev"
 rw [zNZ]
 walk_at "ev"
 rw [e1]
 walk_at "ev"
theorem zMA (sc:Sq cd cs):bG (n+1) [.str (Str.ofString "part"),e,cd]=.ok (.f ([0,(cs.sum:Rat)].map dq)):=by
 show bZ (bG n) _=_
 unfold bZ
 walk_at "ev"
 rw [sc.sum]
 walk_at "ev"
 rw [cC]
 walk_at "ev"
 rw [zOa]
 walk_at "ev"
 rw [zNY]
 walk_at "ev"
theorem zLC (sc:Sq cd cs) (hc:Cl cs):∃ ls:List Rat,bG (n+1) [.str (Str.ofString "half"),e,cd]=.ok (.f ((((0::ls).map (QQ (ones cs) cs)).map (· * hf)++(((0::ls).map (QQ (ones cs) cs)).map (· * hf)).reverse.map fun x=>(cs.sum:Rat) - x).map dq))/\ls.Pairwise (·<=·)/\ls.Perm ((List.range cs.length).map (lv (ones cs) cs))/\QQ (ones cs) cs 0=0:=by
 obtain ⟨ls,e1,e2,e3,e4⟩:=pF (wd:=.lst ((ones cs).map D.int)) (.inl rfl) sc (hG cs) hc
 have hi:=hc.hi
 have sm:=hc.sum
 have W:=hG cs
 have jl:=zHq W hc e2 e3 e4
 have ll:((0::ls).map (QQ (ones cs) cs)).length=cs.length+1:=by rw [List.length_map,List.length_cons,e3.length_eq,List.length_map,List.length_range]
 have bd:=zKs jl.cn (by rw [ll];have:=hc.lo;omega)
 have dn:=zJs W hc e2 e3
 refine ⟨ls,?_,e2,e3,e4⟩
 generalize (0::ls).map (QQ (ones cs) cs)=l at *
 have zl:∀ x∈l,Sz 134 x:=fun x hx=>by
  obtain ⟨B,B0,B1,d⟩:=dn x hx
  exact d.sz (a:=104) (b:=30) B0 (by omega) (bd x hx).1 (bd x hx).2 sm.2
 have eo:(ones cs).map D.int=List.replicate cs.length (.int 1):=by unfold ones;rw [List.map_replicate]
 rw [eo] at e1
 have hh:=zJw
 unfold d_HALF at hh
 show bZ (bG n) _=_
 unfold bZ
 walk_at "ev"
 rw [sc.sum]
 walk_at "ev"
 rw [cC]
 walk_at "ev"
 rw [zMU]
 walk_at "ev"
 rw [zNd]
 walk_at "ev"
 rw [zNl]
 walk_at "ev"
 rw [sc.len]
 walk_at "ev"
 rw [zDw (by omega)]
 walk_at "ev"
 rw [e1]
 walk_at "ev"
 rw [eQ (u:=dq) (g:=fun x=>dq (x * hf)) (by omega) (fun x hx=>by
  walk_at "ev"
  rw [hh,mT (zl x hx) zEg (by decide)]
  walk_at "ev")]
 walk_at "ev"
 have lm:l.map (fun x=>dq (x * hf))=(l.map (· * hf)).map dq:=by rw [List.map_map];rfl
 rw [lm,pJ (S:=cs.sum) (by rw [List.length_map];omega) (fun x hx=>by
  obtain ⟨y,hy,rfl⟩:=List.mem_map.mp hx
  exact ((zl y hy).mul zEg).mono (by decide)) (by omega)]
 walk_at "ev"
 rw [if_pos (by simp only [List.length_reverse,List.length_map];omega),List.map_append]
 walk_at "ev"
end
def SzQ (a b:Nat) (p:Pt):Prop:=Sz a p.1/\Sz b p.2
theorem zBb {a b c:Pt} {n m:Nat} (ha:SzQ n m a) (hb:SzQ n m b) (hc:SzQ n m c) (h:2 * n+2 * m+2<=8999):gC [dp a,dp b,dp c]=.ok (.v (.bl (btw a b c))):=by
 unfold gC
 walk_at "ev"
 rw [eD hb.2 ha.2 (by omega)]
 walk_at "ev"
 rw [eD hc.2 hb.2 (by omega)]
 walk_at "ev"
 rw [eD hb.1 ha.1 (by omega)]
 walk_at "ev"
 rw [eD hc.1 hb.1 (by omega)]
 walk_at "ev"
 rw [mT (hb.2.sub ha.2) (hc.1.sub hb.1) (by omega)]
 walk_at "ev"
 rw [mT (hc.2.sub hb.2) (hb.1.sub ha.1) (by omega)]
 walk_at "ev"
 rfl
theorem zAk {d:D} {ps:List Pt} {n m:Nat} (hd:d=.lst (ps.map dp)∨d=.tup (ps.map dp)) (hl:ps.length<=100000) (hs:∀ p∈ps,SzQ n m p) (hn:2 * n+2 * m+2<=8999) (hk:Ok ps):gE [d]=.ok (.v .non):=by
 obtain ⟨hh,hp⟩:=hk
 have ln:kM [d]=.ok (.int (ps.length:Int)):=by rcases hd with rfl | rfl<;>simp [bLen_l,bLen_t]
 have ix:∀ (i:Int) (k:Nat) (a:Pt),i=(k:Int)->ps[k]?=some a->oIx d (.int i)=.ok (dp a):=by
  intro i k a hi ha
  subst hi
  rcases hd with rfl | rfl
  ·exact kO (by omega) (by simpa using ha)
  ·exact fM (by omega) (by simpa using ha)
 clear hd
 have hpos:0 < ps.length:=by cases ps with
  | nil=>cases hh
  | cons a r=>exact Nat.succ_pos _
 have h0:ps[0]?=some (0,0):=by rw [<-List.head?_eq_getElem?];exact hh
 unfold gE
 walk_at "ev"
 rw [ln]
 walk_at "ev"
 rw [decide_eq_false (by omega)]
 walk_at "ev"
 rw [ix 0 0 _ rfl h0]
 walk_at "ev"
 rw [ln]
 walk_at "ev"
 rw [xG (by omega) (by omega) (by omega) (by omega)]
 walk_at "ev"
 refine gZ (Q:=fun r=>r=Res.ok (Rt.v D.non)) (fun i ρ=>∃ a b c,ρ=[.val d,a,b,c]) ⟨_,_,_,rfl⟩ ?_ ?_
 ·rintro i e ρ hd ⟨a,b,c,rfl⟩
  obtain ⟨hi,rfl⟩:=zAm hd
  have h1:ps[i]?=some ps[i]:=List.getElem?_eq_getElem _
  have h2:ps[i+1]?=some ps[i+1]:=List.getElem?_eq_getElem _
  have z1:=hs _ (List.mem_of_getElem? h1)
  have z2:=hs _ (List.mem_of_getElem? h2)
  have za:=qL hp (Nat.lt_succ_self i) h1 h2
  generalize ps[i]=u at h1 z1 za
  generalize ps[i+1]=v at h2 z2 za
  walk_at "ev"
  rw [ix _ i _ (by omega) h1]
  walk_at "ev"
  rw [ix _ (i+1) _ (by omega) h2]
  walk_at "ev"
  rw [sW z1.1 z2.1 (by omega)]
  walk_at "ev"
  rw [decide_eq_true za.1]
  walk_at "ev"
  rw [sW z2.2 z1.2 (by omega)]
  walk_at "ev"
  rw [decide_eq_false (by rw [Rat.not_lt];exact za.2)]
  walk_at "ev"
  exact ⟨_,rfl,_,_,_,rfl⟩
 ·rintro ρ' ⟨a,b,c,rfl⟩
  rfl
theorem zFs {d:D} {ps:List Pt} {n m:Nat} (hd:d=.lst (ps.map dp)∨d=.tup (ps.map dp)) (hl:ps.length<=100000) (hs:∀ p∈ps,SzQ n m p) (hn:2 * n+2 * m+2<=8999) (hk:Ok ps):kT [d]=.ok (.v (.tup ((mM ps).map dp))):=by
 have sq:zIO d=.ok (ps.map dp):=by rcases hd with rfl | rfl<;>rfl
 unfold kT
 walk_at "ev"
 rw [zAk hd hl hs hn hk]
 walk_at "ev"
 rw [sq]
 walk_at "ev"
 refine gZ (Q:=fun r=>r.bind fin=.ok (.v (.tup ((mM ps).map dp)))) (fun i ρ=>∃ a,ρ=[.val d,.own (((ps.take i).foldl push []).reverse.map dp),a]/\(∀ p∈(ps.take i).foldl push [],SzQ n m p)/\((ps.take i).foldl push []).length<=i) ⟨_,rfl,fun p hp=>by (rw [List.take_zero] at hp;cases hp),by rw [List.take_zero];exact Nat.le_refl _⟩ ?_ ?_
 ·rintro i e ρ hd ⟨a,rfl,hz,hlen⟩
  rw [List.getElem?_map] at hd
  cases hq:ps[i]? with
  | none=>rw [hq] at hd;cases hd
  | some p=>
   rw [hq] at hd
   cases hd
   have hi:i < ps.length:=(List.getElem?_eq_some_iff.mp hq).1
   have zp:=hs _ (List.mem_of_getElem? hq)
   rw [zDU hq,List.foldl_append,List.foldl_cons,List.foldl_nil]
   generalize (ps.take i).foldl push []=s at hz hlen
   generalize hK:(rO:Sv)=K
   walk_at "ev"
   by_cases hc:1 < s.length
   case neg=>
    rw [List.length_reverse,decide_eq_false (by omega)]
    subst hK
    walk_at "ev"
    rw [if_pos (by rw [List.length_reverse];omega),zDY hc]
    exact ⟨_,rfl,.val (dp p),by simp,by intro q hq;rcases List.mem_cons.mp hq with rfl | hq;exact zp;exact hz q hq,by simp;omega⟩
   match s,hz,hlen,hc with
   | [],_,_,hc=>exact absurd hc (by decide)
   | [b],_,_,hc=>exact absurd hc (by simp)
   | b::a::s,hz,hlen,_=>
    have za:=hz a (List.mem_cons_of_mem _ List.mem_cons_self)
    have zb:=hz b List.mem_cons_self
    have zs:∀ q∈s,SzQ n m q:=fun q hq=>hz q (List.mem_cons_of_mem _ (List.mem_cons_of_mem _ hq))
    have e1:((b::a::s).reverse)[(b::a::s).reverse.length - 1]?=some b:=by simp
    have e2:((b::a::s).reverse)[(b::a::s).reverse.length - 2]?=some a:=by simp
    rw [List.length_cons,List.length_cons] at hlen
    have hll:(b::a::s).reverse.length=s.length+2:=by simp
    rw [hll]
    rw [decide_eq_true (by omega)]
    walk_at "ev"
    rw [zBM (i:=-2) (k:=2) rfl (by decide) (by rw [hll];omega) e2]
    walk_at "ev"
    rw [zBM (i:=-1) (k:=1) rfl (by decide) (by rw [hll];omega) e1]
    walk_at "ev"
    rw [zBb za zb zp hn]
    walk_at "ev"
    cases hb:btw a b p with
    | false=>
     subst hK
     walk_at "ev"
     rw [hll,if_pos (by omega)]
     refine ⟨_,rfl,.val (dp p),?_,?_,?_⟩
     ·rw [push,hb]
      simp
     ·rw [push,hb]
      intro q hq
      rcases List.mem_cons.mp hq with rfl | hq
      ·exact zp
      ·exact hz q hq
     ·rw [push,hb]
      simp;omega
    | true=>
     subst hK
     walk_at "ev"
     rw [hll,if_neg (by omega)]
     walk_at "ev"
     rw [if_pos (by simp;omega)]
     refine ⟨_,rfl,.val (dp p),?_,?_,?_⟩
     ·rw [push,hb]
      simp
     ·rw [push,hb]
      intro q hq
      rcases List.mem_cons.mp hq with rfl | hq
      ·exact zp
      ·exact hz q (List.mem_cons_of_mem _ hq)
     ·rw [push,hb]
      simp;omega
 ·rintro ρ' ⟨a,rfl,_,_⟩
  rw [List.length_map,List.take_length]
  walk_at "ev"
  rfl
theorem zMk {w:Wy} {ws cs:List Int} {wd cd:D} {l:List Rat} (hw:w=.back∨w=.lack) (sc:Sq cd cs) (hc:Cl cs) (hl:l.length<=30) (hz:∀ x∈l,Sz 300 x) (e:bG 1 [.str w.con.s,wd,cd]=.ok (.f (l.map dq))):bG 2 [.str w.s,wd,cd]=.ok (.f ((l.reverse.map fun x=>(cs.sum:Rat) - x).map dq)):=by
 have sm:=hc.sum
 have c:=zFz w
 show bZ (bG 1) _=_
 unfold bZ
 walk_at "ev"
 rw [sc.sum]
 walk_at "ev"
 rw [cC]
 walk_at "ev"
 rcases hw with rfl | rfl
 ·rw [show Wy.back.s=Str.ofString "back" from rfl,zNW]
  walk_at "ev"
  rw [zNX]
  walk_at "ev"
  rw [zNU]
  walk_at "ev"
  rw [zOc]
  walk_at "ev"
  rw [show Str.ofString "back" = Wy.back.s from rfl,c]
  walk_at "ev"
  rw [e]
  walk_at "ev"
  rw [pJ (by omega) hz (by omega)]
  walk_at "ev"
 ·rw [show Wy.lack.s=Str.ofString "lack" from rfl,zNM]
  walk_at "ev"
  rw [zOe]
  walk_at "ev"
  rw [zOg]
  walk_at "ev"
  rw [zNQ]
  walk_at "ev"
  rw [show Str.ofString "lack" = Wy.lack.s from rfl,c]
  walk_at "ev"
  rw [e]
  walk_at "ev"
  rw [pJ (by omega) hz (by omega)]
  walk_at "ev"
theorem zIq {cs:List Int} {l:List Rat} (h:Jd cs l):Jd cs (l.reverse.map fun x=>(cs.sum:Rat) - x):=by
 refine ⟨by rw [List.length_map,List.length_reverse];exact h.1,fun x hx=>?_⟩
 obtain ⟨y,hy,rfl⟩:=List.mem_map.mp hx
 obtain ⟨B,b0,b1,d⟩:=h.2 y (List.mem_reverse.mp hy)
 exact ⟨B,b0,b1,(Dn.int B cs.sum).sub d⟩
theorem zHE {w:Wy} {ws cs:List Int} {wd cd:D} (sw:Sq wd ws) (sc:Sq cd cs) (hw:w.due ws cs) (hc:Cl cs):∃ l:List Rat,bG 2 [.str w.s,wd,cd]=.ok (.f (l.map dq))/\JL w ws cs l/\Jd cs l/\2<=l.length:=by
 have hi:=hc.hi
 have lo:=hc.lo
 have row:JL .row [] cs (rj cs 0)/\Jd cs (rj cs 0)/\2<=(rj cs 0).length:=by
  obtain ⟨l1,l2⟩:=zII cs 0
  refine ⟨⟨zMe hc,?_,by rw [l2,Int.zero_add]⟩,⟨by omega,fun x hx=>?_⟩,by omega⟩
  ·obtain ⟨t,et⟩:=zBC cs 0
   rw [et];rfl
  ·obtain ⟨k,rfl⟩:=zIJ cs 0 x hx
   exact ⟨1,by decide,by decide,Dn.int 1 k⟩
 have evn:∀ ls:List Rat,Wt ws cs->ls.Pairwise (·<=·)->ls.Perm ((List.range cs.length).map (lv ws cs))->QQ ws cs 0=0->JL .even ws cs ((0::ls).map (QQ ws cs))/\Jd cs ((0::ls).map (QQ ws cs))/\2<=((0::ls).map (QQ ws cs)).length:=fun ls W e2 e3 e4=>by
  have ll:((0::ls).map (QQ ws cs)).length=cs.length+1:=by rw [List.length_map,List.length_cons,e3.length_eq,List.length_map,List.length_range]
  refine ⟨zHq W hc e2 e3 e4,⟨by omega,fun x hx=>?_⟩,by omega⟩
  obtain ⟨B,b0,b1,d⟩:=zJs W hc e2 e3 x hx
  exact ⟨B,b0,by omega,d⟩
 cases w with
 | row=>
  have e:ws=[]:=hw
  subst e
  exact ⟨_,zLv (n:=1) (e:=wd) sc hc,row⟩
 | part=>
  have e:ws=[]:=hw
  subst e
  refine ⟨_,zMA (n:=1) (e:=wd) sc,⟨zJM hc,rfl,rfl⟩,⟨by show 2<=30;decide,fun x hx=>?_⟩,Nat.le_refl 2⟩
  rcases List.mem_cons.mp hx with rfl | hx
  ·exact ⟨1,by decide,by decide,Dn.zero 1⟩
  ·rw [List.mem_singleton.mp hx];exact ⟨1,by decide,by decide,Dn.int 1 _⟩
 | even=>
  obtain ⟨ls,e1,e2,e3,e4⟩:=zGe (n:=1) sw sc hw hc
  exact ⟨_,e1,evn ls hw e2 e3 e4⟩
 | back=>
  have e:ws=[]:=hw
  subst e
  have k:=zMk (w:=.back) (ws:=[]) (.inl rfl) sc hc row.2.1.1 (zKb hc row.1 row.2.2 row.2.1) (zLv (n:=0) (e:=wd) sc hc)
  exact ⟨_,k,zIl (w:=.row) rfl hc row.1,zIq row.2.1,by rw [List.length_map,List.length_reverse];exact row.2.2⟩
 | lack=>
  obtain ⟨ls,e1,e2,e3,e4⟩:=zGe (n:=0) sw sc hw hc
  obtain ⟨r1,r2,r3⟩:=evn ls hw e2 e3 e4
  have k:=zMk (w:=.lack) (ws:=ws) (.inr rfl) sc hc r2.1 (zKb hc r1 r3 r2) e1
  exact ⟨_,k,zIl (w:=.even) hw hc r1,zIq r2,by rw [List.length_map,List.length_reverse];exact r3⟩
 | half=>
  have e:ws=[]:=hw
  subst e
  obtain ⟨ls,e1,e2,e3,e4⟩:=zLC (n:=1) (e:=wd) sc hc
  have W:=hG cs
  have ll:((0::ls).map (QQ (ones cs) cs)).length=cs.length+1:=by rw [List.length_map,List.length_cons,e3.length_eq,List.length_map,List.length_range]
  have jl:=zHq W hc e2 e3 e4
  have dn:=zJs W hc e2 e3
  generalize (0::ls).map (QQ (ones cs) cs)=l at *
  refine ⟨_,e1,zKd hc jl,⟨?_,fun x hx=>?_⟩,?_⟩
  ·simp only [List.length_append,List.length_map,List.length_reverse];omega
  ·have early:∀ y∈l.map (· * hf),∃ B:Int,0 < B/\B<=2 * 10^6/\Dn B y:=fun y hy=>by
    obtain ⟨z,hz,rfl⟩:=List.mem_map.mp hy
    obtain ⟨B,b0,b1,d⟩:=dn z hz
    exact ⟨B * 2,by omega,by omega,zLV d⟩
   rcases List.mem_append.mp hx with hx | hx
   ·exact early x hx
   ·obtain ⟨y,hy,rfl⟩:=List.mem_map.mp hx
    obtain ⟨B,b0,b1,d⟩:=early y (List.mem_reverse.mp hy)
    exact ⟨B,b0,b1,(Dn.int B cs.sum).sub d⟩
  ·simp only [List.length_append,List.length_map,List.length_reverse];omega
theorem yV {α:Type}:∀ l:List α,l.zip l=l.map fun x=>(x,x)
 | []=>rfl
 | a::l=>by rw [List.zip_cons_cons,yV l,List.map_cons]
theorem sG {w:Wy} {ws cs:List Int} {wd cd:D} (sw:Sq wd ws) (sc:Sq cd cs) (hw:w.due ws cs) (hc:Cl cs):∃ J:List Rat,dP [.str w.s,wd,cd]=.ok (.f ((List.range cs.length).map fun i=>.tup ((wln w ws cs J i).map dp)))/\JS w ws cs J/\J.length<=30/\∀ x∈J,Sz 300 x/\∀ i,i < cs.length->Sz 670 (FF w ws cs x i):=by
 obtain ⟨l,e1,jl,jd,l2⟩:=zHE sw sc hw hc
 have zl:=zKb hc jl l2 jd
 obtain ⟨t,rfl⟩:=zJm jl
 have js:=jl.js
 have hi:=hc.hi
 have lt:=jd.1
 rw [List.length_cons] at lt
 have e2:=pT (l:=t) (by omega) zl
 have sub:=zCR t 0
 have ln:(0::ddR 0 t).length<=30:=by rw [List.length_cons];have:=sub.length_le;omega
 have zj:∀ x∈0::ddR 0 t,Sz 300 x:=fun x hx=>zl x (by
  rcases List.mem_cons.mp hx with rfl | hx
  ·exact List.mem_cons_self
  ·exact List.mem_cons_of_mem _ (sub.subset hx))
 generalize 0::ddR 0 t=J at *
 have bd:=js.bd
 have rd:∀ q∈J,aP 2 [.str w.s,wd,cd,dq q]=.ok (.f (((List.range cs.length).map (FF w ws cs q)).map dq))/\∀ i,i < cs.length->Sz 670 (FF w ws cs q i):=fun q hq=>by
  have ha:Haul 300 q cs.sum:=⟨(bd q hq).1,(bd q hq).2,zj q hq⟩
  obtain ⟨f,ef,af⟩:=zEY sw sc (by decide) hw hc ha
  have df:=zMh hw hc ha af
  have eq:∀ i,i < cs.length->f i=FF w ws cs q i:=fun i hi=>zEx hw hc (bd q hq).1 (bd q hq).2 af hi
  refine ⟨by rw [ef,List.map_congr_left (g:=FF w ws cs q) fun i hi=>eq i (List.mem_range.mp hi)],fun i hi=>by rw [<-eq i hi];exact (df.bd i hi).2.2⟩
 refine ⟨J,?_,js,ln,fun x hx=>⟨zj x hx,(rd x hx).2⟩⟩
 unfold dP
 walk_at "ev"
 rw [zHt sw sc hw hc]
 walk_at "ev"
 rw [e1]
 walk_at "ev"
 rw [List.map_cons] at e2
 rw [e2]
 walk_at "ev"
 rw [eQ (u:=dq) (g:=fun q=>D.lst (((List.range cs.length).map (FF w ws cs q)).map dq)) (by omega) (fun q hq=>by
  walk_at "ev"
  rw [(rd q hq).1]
  walk_at "ev")]
 walk_at "ev"
 rw [sc.len]
 walk_at "ev"
 rw [yW (by omega) (by omega)]
 walk_at "ev"
 rw [show rng 0 ((cs.length:Int)).toNat 1=(List.range cs.length).map fun j:Nat=>D.int (j:Int) by unfold rng;rw [Int.toNat_natCast];exact List.map_congr_left fun j _=>by rw [show (0:Int)+(j:Int) * 1=(j:Int) by omega]]
 rw [eQ (u:=fun j:Nat=>D.int (j:Int)) (g:=fun i=>D.tup ((wln w ws cs J i).map dp)) (by rw [List.length_range];omega) (fun i hi=>by
  have hi':=List.mem_range.mp hi
  have fl:lM [.lst (J.map dq),.lst (J.map fun q=>D.lst (((List.range cs.length).map (FF w ws cs q)).map dq)),.int (i:Int)]=.ok (.v (.tup ((wln w ws cs J i).map dp))):=by
   obtain ⟨ok,la⟩:=zCF hw hc js hi'
   unfold lM
   walk_at "ev"
   rw [lD rfl rfl]
   walk_at "ev"
   rw [jK (u:=dq) (v:=fun q=>D.lst (((List.range cs.length).map (FF w ws cs q)).map dq)) (g:=fun x y=>dp (x,FF w ws cs y i)) (by omega) (fun p hp=>by
    have e:oIx (.lst (((List.range cs.length).map (FF w ws cs p.2)).map dq)) (.int (i:Int))=.ok (dq (FF w ws cs p.2 i)):=by
     rw [List.map_map]
     exact kO (Int.natCast_nonneg i) (show (List.range cs.length)[i]?=some i from List.getElem?_range hi')
    walk_at "ev"
    rw [e]
    walk_at "ev")]
   walk_at "ev"
   rw [yV,List.map_map,show (J.map ((fun p:Rat×Rat=>dp (p.1,FF w ws cs p.2 i)) ∘ fun x=>(x,x)))=(jpt w ws cs J i).map dp by unfold jpt;rw [List.map_map];rfl]
   rw [zFs (n:=300) (m:=670) (.inl rfl) (by unfold jpt;rw [List.length_map];omega) (fun p hp=>by
    unfold jpt at hp
    obtain ⟨q,hq,rfl⟩:=List.mem_map.mp hp
    exact ⟨zj q hq,(rd q hq).2 i hi'⟩) (by decide) ok]
   walk_at "ev"
   rfl
  walk_at "ev"
  rw [fl]
  walk_at "ev")]
 walk_at "ev"
theorem jM {t b:Int} {n:Nat} (hb0:b≠0) (hn:b.natAbs < 2^n) (h:n<=8999):cH [.int t,.int b]=.ok (.v (dq (Rat.divInt t b))):=by
 have hd:kJ (dv t b)=true:=rK (zKW hb0) (Nat.lt_of_le_of_lt (zLf hb0) hn) h
 unfold cH
 walk_at "ev"
 refine zIu (fun ρ=>∃ (x y:Int) (r:Sl),ρ=[.val (.int t),.val (.int b),.val (.int x),.val (.int y),r]/\0<=x/\0<=y/\Int.gcd x y=Int.gcd t b) (fun ρ=>(slI 3 ρ).toNat)
  (fun r=>(r.bind (zEk qH)).bind fin=.ok (.v (dq (Rat.divInt t b)))) ⟨_,_,_,rfl,by omega,by omega,by simp [Int.gcd]⟩ ?_
 rintro ρ ⟨x,y,r,rfl,hx,hy,hg⟩
 by_cases c:y=0
 ·subst c
  have e2:x=(Int.gcd t b:Int):=by
   rw [Int.gcd_zero_right] at hg
   omega
  subst e2
  refine .inl ⟨rfl,?_⟩
  walk_at "ev"
  by_cases c:b < 0
  ·have e:0 - (Int.gcd t b:Int)=dv t b:=by unfold dv;rw [if_pos c];omega
   rw [decide_eq_true c]
   walk_at "ev"
   rw [e,oDiv_i hd]
   walk_at "ev"
   rw [oDiv_i hd]
   walk_at "ev"
   rw [wI hb0,vY hb0]
   rfl
  ·have e:(Int.gcd t b:Int)=dv t b:=by unfold dv;rw [if_neg c]
   rw [decide_eq_false c]
   walk_at "ev"
   rw [e,oDiv_i hd]
   walk_at "ev"
   rw [oDiv_i hd]
   walk_at "ev"
   rw [wI hb0,vY hb0]
   rfl
 ·have hp:0 < y:=by omega
  refine .inr ⟨?_,[.val (.int t),.val (.int b),.val (.int y),.val (.int (x % y)),.val (.int (x % y))],?_,⟨y,x % y,_,rfl,hy,Int.emod_nonneg _ c,(zDc hx hp).trans hg⟩,?_⟩
  ·walk_at "ev"
   rw [decide_eq_true hp]
  ·walk_at "ev"
   rw [oMod_i c,fmod_pos _ hp]
   walk_at "ev"
  ·have:=Int.emod_lt_of_pos x hp
   show (x % y).toNat < y.toNat
   omega
theorem pL {p q:Rat} {m n:Nat} (hp:Sz m p) (hq:Sz n q) (h:m+n<=8999):dQ [dq p,dq q]=.ok (.v (dq (p+q))):=by
 unfold dQ
 walk_at "ev"
 rw [oMul_i (bM hp.1 hq.d (by omega))]
 walk_at "ev"
 rw [oMul_i (bM hq.1 hp.d (by omega))]
 walk_at "ev"
 rw [oMul_i (bM hp.d hq.d (by omega))]
 walk_at "ev"
 rw [jM (Int.mul_ne_zero (cW p) (cW q)) (dX hp.d hq.d) h,zFM]
 walk_at "ev"
theorem eE {p q:Rat} {m n:Nat} (hp:Sz m p) (hq:Sz n q) (h:m+n<=8999):bY [dq p,dq q]=.ok (.v (dq (p - q))):=by
 unfold bY
 walk_at "ev"
 rw [oMul_i (bM hp.1 hq.d (by omega))]
 walk_at "ev"
 rw [oMul_i (bM hq.1 hp.d (by omega))]
 walk_at "ev"
 rw [oMul_i (bM hp.d hq.d (by omega))]
 walk_at "ev"
 rw [jM (Int.mul_ne_zero (cW p) (cW q)) (dX hp.d hq.d) h,zGq]
 walk_at "ev"
theorem fQ {p q:Rat} {m n:Nat} (hp:Sz m p) (hq:Sz n q) (h:m+n<=8999):bP [dq p,dq q]=.ok (.v (dq (p * q))):=by
 unfold bP
 walk_at "ev"
 rw [oMul_i (bM hp.1 hq.1 (by omega))]
 walk_at "ev"
 rw [oMul_i (bM hp.d hq.d (by omega))]
 walk_at "ev"
 rw [jM (Int.mul_ne_zero (cW p) (cW q)) (dX hp.d hq.d) h,zGa]
 walk_at "ev"
theorem lT {p q:Rat} {m n:Nat} (hp:Sz m p) (hq:Sz n q) (h:m+n<=99999):dD [dq p,dq q]=.ok (.v (.bl (decide (p < q)))):=by
 unfold dD
 walk_at "ev"
 rw [oMul_i (bM hp.1 hq.d (by omega))]
 walk_at "ev"
 rw [oMul_i (bM hq.1 hp.d (by omega))]
 walk_at "ev"
 simp only [lt_iff]
theorem jI {q:Rat} {n:Nat} (hq:Sz n q) (h:n<=8999):cE [dq q]=.ok (.v (.bl true)):=by
 unfold cE
 walk_at "ev"
 show ((((Res.ok [D.int q.num,D.int (q.den:Int)]).bind _).bind _).bind _)=_
 walk_at "ev"
 refine xP (Q:=fun r=>r.bind fin=.ok (.v (.bl true))) (fun ρ=>∃ a,ρ=[.val (dq q),a]) ⟨_,rfl⟩ ?_ ?_
 ·rintro d ρ hd ⟨a,rfl⟩
  have hi:∃ i,d=.int i:=by
   rcases List.mem_cons.mp hd with rfl | hd
   ·exact ⟨_,rfl⟩
   ·rcases List.mem_cons.mp hd with rfl | hd
    ·exact ⟨_,rfl⟩
    ·cases hd
  obtain ⟨i,rfl⟩:=hi
  walk_at "ev"
  exact ⟨_,rfl,_,rfl⟩
 ·rintro ρ' ⟨a,rfl⟩
  walk_at "ev"
  rw [decide_eq_true (jD q)]
  walk_at "ev"
  rw [jM (cW q) hq.d h,Rat.num_divInt_den]
  walk_at "ev"
theorem zAw {ps:List Pt} {n m:Nat} {x:Rat} {e:Pt} (hl:ps.length<=100000) (hs:∀ p∈ps,SzP n p) (hx:Sz m x) (hn:8 * n+2 * m<=8000) (hp:ps.Pairwise asc) (he:ps.getLast?=some e) (h0:∀ p,ps[0]?=some p->p.1<=x) (h1:x<=e.1):
  fP [.tup (ps.map dp),dq x]=.ok (.v (dq (dB ps x))):=by
 have hpos:0 < ps.length:=by cases ps with
  | nil=>cases he
  | cons a r=>exact Nat.succ_pos _
 have hla:ps[ps.length - 1]?=some e:=by rw [<-List.getLast?_eq_getElem?];exact he
 unfold fP
 walk_at "ev"
 rw [yW (by omega) (by omega)]
 walk_at "ev"
 rw [Int.toNat_natCast]
 refine zGo (Q:=fun r=>r.bind fin=.ok (.v (dq (dB ps x)))) (fun i ρ=>∃ a b c d,ρ=[.val (.tup (ps.map dp)),.val (dq x),a,b,c,d]/\∀ j p,j < i->ps[j]?=some p->p.1 < x) ⟨_,_,_,_,rfl,fun j p h=>absurd h (by omega)⟩ ?_ ?_
 ·rintro i d ρ hd ⟨a,b,c,d',rfl,hj⟩
  obtain ⟨hi,rfl⟩:=zAm hd
  have hq:ps[i]?=some ps[i]:=List.getElem?_eq_getElem hi
  have zq:=hs _ (List.mem_of_getElem? hq)
  generalize ps[i]=q at hq zq
  have hq':ps[(0+(i:Int) * 1).toNat]?=some q:=by rw [show (0+(i:Int) * 1).toNat=i by omega];exact hq
  walk_at "ev"
  rw [fM (by omega) hq']
  walk_at "ev"
  by_cases c1:q.1=x
  ·rw [decide_eq_true c1]
   walk_at "ev"
   rw [fM (by omega) hq']
   walk_at "ev"
   refine .inr ⟨_,rfl,?_⟩
   rw [<-c1,fR hp hq]
  ·rw [decide_eq_false c1]
   walk_at "ev"
   by_cases c2:i=0
   ·subst c2
    have h00:=h0 q hq
    rw [decide_eq_false (by omega)]
    walk_at "ev"
    refine .inl ⟨_,rfl,_,_,_,_,rfl,fun j p hj hpj=>?_⟩
    have:j=0:=by omega
    subst this
    rw [hq] at hpj
    cases hpj
    grind
   ·rw [decide_eq_true (by omega)]
    walk_at "ev"
    rw [fM (by omega) hq']
    walk_at "ev"
    rw [lT hx zq.1 (by omega)]
    walk_at "ev"
    have hp1:ps[i - 1]?=some ps[i - 1]:=List.getElem?_eq_getElem _
    have zp:=hs _ (List.mem_of_getElem? hp1)
    generalize ps[i - 1]=p at hp1 zp
    have lp:=hj _ p (show i - 1 < i by omega) hp1
    have hp1':ps[(0+(i:Int) * 1 - 1).toNat]?=some p:=by rw [show (0+(i:Int) * 1 - 1).toNat=i - 1 by omega];exact hp1
    by_cases c3:x < q.1
    ·have pos:0 < q.1 - p.1:=by grind
     have z2:=zq.1.sub zp.1
     rw [decide_eq_true c3]
     walk_at "ev"
     rw [fM (by omega) hq']
     walk_at "ev"
     rw [fM (by omega) hp1']
     walk_at "ev"
     rw [eE zq.1 zp.1 (by omega)]
     walk_at "ev"
     rw [fM (by omega) hq']
     walk_at "ev"
     rw [fM (by omega) hp1']
     walk_at "ev"
     rw [eE zq.2 zp.2 (by omega)]
     walk_at "ev"
     rw [fM (by omega) hp1']
     walk_at "ev"
     rw [eE hx zp.1 (by omega)]
     walk_at "ev"
     have z1:=hx.sub zp.1
     have z3:=z1.mul (z2.inv pos)
     rw [zMn pos,fQ z1 (z2.inv pos) (by omega)]
     walk_at "ev"
     rw [fM (by omega) hp1']
     walk_at "ev"
     rw [fQ z3 (zq.2.sub zp.2) (by omega)]
     walk_at "ev"
     rw [pL zp.2 (z3.mul (zq.2.sub zp.2)) (by omega)]
     walk_at "ev"
     refine .inr ⟨_,rfl,?_⟩
     rw [kQ hp hp1 (by rw [show i - 1+1=i by omega];exact hq) (Rat.le_of_lt lp) (Rat.le_of_lt c3)]
     rfl
    ·rw [decide_eq_false c3]
     walk_at "ev"
     refine .inl ⟨_,rfl,_,_,_,_,rfl,fun j p' hj' hpj=>?_⟩
     rcases Nat.lt_or_eq_of_le (show j<=i by omega) with l | l
     ·exact hj j p' l hpj
     ·subst l
      rw [hq] at hpj
      cases hpj
      grind
 ·rintro ρ' ⟨a,b,c,d,rfl,hj⟩
  rw [zIG] at hj
  have:=hj _ e (show ps.length - 1 < ps.length by omega) hla
  exact absurd h1 (by grind)
theorem zBG {ps:List Pt} {n m:Nat} {x:Rat} {e:Pt} (hl:ps.length<=100000) (hs:∀ p∈ps,SzP n p) (hx:Sz m x) (hn:8 * n+2 * m<=8000) (hk:Ok ps) (he:ps.getLast?=some e) (h0:0<=x) (h1:x<=e.1):
  fP [.tup (ps.map dp),dq x]=.ok (.v (dq (dB ps x))):=
 zAw hl hs hx hn hk.2 he (fun p hp=>by rw [<-List.head?_eq_getElem?,hk.1] at hp;cases hp;exact h0) h1
theorem zBh {ps:List Pt} (h0:0 < ps.length) {n:Nat} (hl:ps.length<=100000) (hs:∀ p∈ps,SzP n p) (hn:n<=2000) (v:D) (hv:v=.lst (ps.map dp)∨v=.tup (ps.map dp)):fY [v]=.ok (.v (.tup ((kH ps).map dp))):=by
 have f0:ps[0]?=some ps[0]:=List.getElem?_eq_getElem _
 have ln:kM [v]=.ok (.int (ps.length:Int)):=by rcases hv with rfl | rfl<;>simp [bLen_l,bLen_t]
 have ix:∀ (j:Int) (k:Nat) (a:Pt),j=(k:Int)->ps[k]?=some a->oIx v (.int j)=.ok (dp a):=by
  intro j k a hj ha
  subst hj
  rcases hv with rfl | rfl
  ·exact kO (by omega) (by simpa using ha)
  ·exact fM (by omega) (by simpa using ha)
 clear hv
 unfold fY
 walk_at "ev"
 rw [ix 0 0 _ rfl f0]
 walk_at "ev"
 rw [ln]
 walk_at "ev"
 rw [xG (by omega) (by omega) (by omega) (by omega)]
 walk_at "ev"
 refine gZ (Q:=fun r=>r.bind fin=.ok (.v (.tup ((kH ps).map dp))))
  (fun i ρ=>∃ (t:List Pt) (p:Pt) (a b c d e f:Sl),ρ=[.val v,.own (t.map dp),a,b,c,d,e,f]/\ps[i]?=some p/\t++few p (ps.drop (i+1))=kH ps/\t.length<=i+1)
  ⟨[ps[0]],ps[0],_,_,_,_,_,_,rfl,f0,?_,Nat.le_refl _⟩ ?_ ?_
 ·cases ps with
  | nil=>cases f0
  | cons a r=>rfl
 ·rintro i d ρ hd ⟨t,p,a,b,c,d2,e,f,rfl,hp,ht,hlen⟩
  obtain ⟨hi,rfl⟩:=zAm hd
  have h1:ps[i+1]?=some ps[i+1]:=List.getElem?_eq_getElem _
  have z0:=hs _ (List.mem_of_getElem? hp)
  have z1:=hs _ (List.mem_of_getElem? h1)
  rw [List.drop_eq_getElem_cons (show i+1 < ps.length by omega)] at ht
  generalize ps[i+1]=q at h1 z1 ht
  have rest:∀ (s:Bool) (b c d e:Sl),(∀ t',t'=(if s=true then t else t++[q])->t'++few q (ps.drop (i+1+1))=kH ps)->∃ ρ2,eV [.val v,.own (t.map dp),.val (.int (1+(i:Int) * 1)),.val (.bl s),b,c,d,e]=.ok (.nx ρ2)/\
    ∃ (t:List Pt) (p:Pt) (a b c d e f:Sl),ρ2=[.val v,.own (t.map dp),a,b,c,d,e,f]/\ps[i+1]?=some p/\t++few p (ps.drop (i+1+1))=kH ps/\t.length<=i+1+1:=by
   intro s b c d e hh
   cases s with
   | true=>
    walk_at "ev"
    exact ⟨_,rfl,t,q,_,_,_,_,_,_,rfl,h1,hh _ rfl,by omega⟩
   | false=>
    walk_at "ev"
    rw [ix _ (i+1) _ (by omega) h1]
    walk_at "ev"
    rw [if_pos (by omega)]
    exact ⟨_,rfl,t++[q],q,_,_,_,_,_,_,by rw [List.map_append];rfl,h1,hh _ rfl,by simp;omega⟩
  generalize hK:(eV:Sv)=K at rest
  walk_at "ev"
  rw [ln]
  walk_at "ev"
  subst hK
  generalize hK:(eV:Sv)=K at rest ⊢
  by_cases c1:1+(i:Int) * 1+1 < (ps.length:Int)
  ·have h2:ps[i+2]?=some ps[i+2]:=List.getElem?_eq_getElem _
   have z2:=hs _ (List.mem_of_getElem? h2)
   rw [List.drop_eq_getElem_cons (show i+1+1 < ps.length by omega)] at ht
   have hdr:=List.drop_eq_getElem_cons (show i+1+1 < ps.length by omega)
   generalize ps[i+2]=r at h2 z2 ht hdr
   rw [decide_eq_true c1]
   walk_at "ev"
   rw [ix _ (i+1) _ (by omega) h1]
   walk_at "ev"
   rw [ix _ i _ (by omega) hp]
   walk_at "ev"
   rw [eE z1.1 z0.1 (by omega)]
   walk_at "ev"
   rw [ix _ (i+1) _ (by omega) h1]
   walk_at "ev"
   rw [ix _ i _ (by omega) hp]
   walk_at "ev"
   rw [eE z1.2 z0.2 (by omega)]
   walk_at "ev"
   rw [ix _ (i+2) _ (by omega) h2]
   walk_at "ev"
   rw [ix _ (i+1) _ (by omega) h1]
   walk_at "ev"
   rw [eE z2.1 z1.1 (by omega)]
   walk_at "ev"
   rw [ix _ (i+2) _ (by omega) h2]
   walk_at "ev"
   rw [ix _ (i+1) _ (by omega) h1]
   walk_at "ev"
   rw [eE z2.2 z1.2 (by omega)]
   walk_at "ev"
   rw [fQ (z1.2.sub z0.2) (z2.1.sub z1.1) (by omega)]
   walk_at "ev"
   rw [fQ (z2.2.sub z1.2) (z1.1.sub z0.1) (by omega)]
   walk_at "ev"
   refine rest _ _ _ _ _ ?_
   rintro t' rfl
   rw [hdr]
   rw [few] at ht
   unfold btw at ht
   by_cases c2:decide ((q.2 - p.2) * (r.1 - q.1)=(r.2 - q.2) * (q.1 - p.1))=true
   ·rw [if_pos c2] at ht ⊢
    exact ht
   ·rw [if_neg c2] at ht ⊢
    rw [List.append_assoc]
    exact ht
  ·rw [decide_eq_false c1]
   walk_at "ev"
   refine rest _ _ _ _ _ ?_
   rintro t' rfl
   rw [List.drop_eq_nil_of_le (by omega)] at ht ⊢
   rw [few,List.append_nil]
   exact ht
 ·rintro ρ' ⟨t,p,a,b,c,d2,e,f,rfl,hp,ht,hlen⟩
  rw [zIG] at ht
  rw [List.drop_eq_nil_of_le (by omega),few,List.append_nil] at ht
  walk_at "ev"
  rw [ht]
theorem zDS {ps:List Pt} {n:Nat} (h:zHD ps) (hl:ps.length<=100000) (hs:∀ p∈ps,SzP n p) (hn:n<=2000):jJ [.tup (ps.map dp)]=.ok (.v (.bl true)):=by
 have hpos:0 < ps.length:=by
  have:=h.1.1
  cases ps with
  | nil=>cases this
  | cons a r=>exact Nat.succ_pos _
 have h0:ps[0]?=some (0,0):=by rw [<-List.head?_eq_getElem?];exact h.1.1
 have ix:∀ (j:Int) (k:Nat) (a:Pt),j=(k:Int)->ps[k]?=some a->oIx (.tup (ps.map dp)) (.int j)=.ok (dp a):=by
  intro j k a hj ha
  subst hj
  exact fM (by omega) (by simpa using ha)
 unfold jJ
 walk_at "ev"
 rw [decide_eq_false (by omega)]
 walk_at "ev"
 rw [ix 0 0 _ rfl h0]
 walk_at "ev"
 rw [show (.tup [.tup [.int 0,.int 1],.tup [.int 0,.int 1]]:D)=dp (0,0) from rfl]
 walk_at "ev"
 refine xP (Q:=fun r=>r.bind fin=.ok (.v (.bl true))) (fun ρ=>∃ a b,ρ=[.val (.tup (ps.map dp)),a,b]) ⟨_,_,rfl⟩ ?_ ?_
 ·rintro d ρ hd ⟨a,b,rfl⟩
  obtain ⟨p,hp,rfl⟩:=List.mem_map.mp hd
  have zp:=hs p hp
  walk_at "ev"
  rw [jI zp.1 (by omega)]
  walk_at "ev"
  rw [jI zp.2 (by omega)]
  walk_at "ev"
  exact ⟨_,rfl,_,_,rfl⟩
 ·rintro ρ' ⟨a,b,rfl⟩
  walk_at "ev"
  rw [xG (by omega) (by omega) (by omega) (by omega)]
  walk_at "ev"
  refine gZ (Q:=fun r=>r.bind fin=.ok (.v (.bl true))) (fun i ρ=>∃ a b,ρ=[.val (.tup (ps.map dp)),a,b]) ⟨_,_,rfl⟩ ?_ ?_
  ·rintro i e ρ hd ⟨a,b,rfl⟩
   obtain ⟨hi,rfl⟩:=zAm hd
   have h1:ps[i]?=some ps[i]:=List.getElem?_eq_getElem _
   have h2:ps[i+1]?=some ps[i+1]:=List.getElem?_eq_getElem _
   have z1:=hs _ (List.mem_of_getElem? h1)
   have z2:=hs _ (List.mem_of_getElem? h2)
   have za:=qL h.1.2 (Nat.lt_succ_self i) h1 h2
   generalize ps[i]=u at h1 z1 za
   generalize ps[i+1]=v at h2 z2 za
   walk_at "ev"
   rw [ix _ i _ (by omega) h1]
   walk_at "ev"
   rw [ix _ (i+1) _ (by omega) h2]
   walk_at "ev"
   rw [lT z1.1 z2.1 (by omega),decide_eq_true za.1]
   walk_at "ev"
   rw [ix _ (i+1) _ (by omega) h2]
   walk_at "ev"
   rw [ix _ i _ (by omega) h1]
   walk_at "ev"
   rw [lT z2.2 z1.2 (by omega),decide_eq_false (by rw [Rat.not_lt];exact za.2)]
   walk_at "ev"
   exact ⟨_,rfl,_,_,rfl⟩
  ·rintro ρ' ⟨a,b,rfl⟩
   walk_at "ev"
   rw [zBh hpos (by omega) hs hn _ (.inr rfl),zBZ h.2]
   walk_at "ev"
   rw [zFC (zKe _)]
   walk_at "ev"
theorem pB (ns:List Int) (k:Int) (h:0<=k):dR [.lst (ns.map D.int),.int k]=.ok (.v (.int (ns.getD k.toNat 0))):=by
 unfold dR
 walk_at "ev"
 by_cases c:k < (ns.length:Int)
 ·rw [decide_eq_true c]
  walk_at "ev"
  have hk:k.toNat < ns.length:=by omega
  rw [kO h (List.getElem?_eq_getElem hk),List.getD_eq_getElem?_getD,List.getElem?_eq_getElem hk]
  rfl
 ·rw [decide_eq_false c]
  walk_at "ev"
  rw [List.getD_eq_getElem?_getD,List.getElem?_eq_none (by omega)]
  rfl
theorem zHP {ps:List Pt} {e:Pt} {n:Nat} (hl:ps.length<=100000) (hs:∀ p∈ps,SzP n p) (hn:n<=4000) (he:ps.getLast?=some e):lW [.tup (ps.map dp)]=.ok (.v (.tup ((trn ps e).map dp))):=by
 have hpos:0 < ps.length:=by cases ps with
  | nil=>cases he
  | cons a r=>exact Nat.succ_pos _
 have ze:=hs e (List.mem_of_getLast? he)
 unfold lW
 walk_at "ev"
 rw [zED (i:=-1) (k:=1) rfl (by decide) hpos (by rw [<-List.getLast?_eq_getElem?];exact he)]
 walk_at "ev"
 rw [<-List.map_reverse,eQ (u:=dp) (g:=fun p=>dp (e.1 - p.1,e.2 - p.2)) (by rw [List.length_reverse];omega) (fun p hp=>by
  have zp:=hs p (List.mem_reverse.mp hp)
  walk_at "ev"
  rw [eD ze.1 zp.1 (by omega)]
  walk_at "ev"
  rw [eD ze.2 zp.2 (by omega)]
  walk_at "ev")]
 walk_at "ev"
 unfold trn
 rw [List.map_map]
 rfl
theorem zGE (cells:List Int) (plan:Int) (hl:cells.length<=100):∃ cs:List Int,fX [.lst (cells.map D.int),.int plan]=.ok (.f (cs.map D.int))/\cs.length=cells.length/\∀ c∈cs,0<=c/\c < 10^30:=by
 unfold fX
 walk_at "ev"
 refine gZ (Q:=fun r=>∃ cs:List Int,r.bind fin=.ok (.f (cs.map D.int))/\cs.length=cells.length/\∀ c∈cs,0<=c/\c < 10^30) (k:=zEk mC) (fun i ρ=>∃ (cs:List Int) (a b:Sl),ρ=[.val (.lst (cells.map D.int)),.val (.int plan),.own (cs.map D.int),a,b]/\cs.length=i/\∀ c∈cs,0<=c/\c < 10^30) ⟨[],_,_,rfl,rfl,fun c h=>by cases h⟩ ?_ ?_
 ·rintro i d ρ hd ⟨cs,a,b,rfl,hl',hc⟩
  have hi:i < cells.length:=by have:=(List.getElem?_eq_some_iff.mp hd).1;rwa [List.length_map] at this
  obtain ⟨cell,hcm,rfl⟩:=List.mem_map.mp (List.mem_of_getElem? hd)
  obtain ⟨j,ej,hj⟩:∃ j:Int,ofO (atD [.int 0,.int 0,.int 1,.int 2] (plan % 4))=.ok (.int j)/\(j=0∨j=1∨j=2):=by
   rcases (show plan % 4=0∨plan % 4=1∨plan % 4=2∨plan % 4=3 by omega) with h | h | h | h<;>rw [h]
   ·exact ⟨0,rfl,.inl rfl⟩
   ·exact ⟨0,rfl,.inl rfl⟩
   ·exact ⟨1,rfl,.inr (.inl rfl)⟩
   ·exact ⟨2,rfl,.inr (.inr rfl)⟩
  generalize hm:(cell * 48271+17) % 2147483647=mix
  obtain ⟨c,c0,c1,ce⟩:∃ c:Int,0<=c/\c < 10^30/\ofO (atD [.int (mix / 7 % 13),.int (mix / 97 % 4),.int (cell % 10^30)] j)=.ok (.int c):=by
   have a:=Int.emod_nonneg cell (show (10:Int)^30≠0 by decide)
   have b:=Int.emod_lt_of_pos cell (show (0:Int) < 10^30 by decide)
   rcases hj with rfl | rfl | rfl
   ·exact ⟨mix / 7 % 13,by omega,by omega,rfl⟩
   ·exact ⟨mix / 97 % 4,by omega,by omega,rfl⟩
   ·exact ⟨cell % 10^30,a,b,rfl⟩
  refine ⟨[.val (.lst (cells.map D.int)),.val (.int plan),.own ((cs++[c]).map D.int),.val (.int cell),.val (.int mix)],?_,cs++[c],_,_,rfl,by rw [List.length_append,hl'];rfl,fun z hz=>?_⟩
  ·walk_at "ev"
   rw [hm,zKC,ej]
   walk_at "ev"
   rw [zKC,ce]
   walk_at "ev"
   rw [if_pos (by omega),List.map_append]
   rfl
  ·rcases List.mem_append.mp hz with h | h
   ·exact hc z h
   ·rw [List.mem_singleton.mp h];exact ⟨c0,c1⟩
 ·rintro ρ ⟨cs,a,b,rfl,hl',hc⟩
  rw [List.length_map] at hl'
  exact ⟨cs,rfl,hl',hc⟩
theorem zDH (cells:List Int) (plan:Int) (hl:cells.length<=100):∃ ws:List Int,eZ [.lst (cells.map D.int),.int plan]=.ok (.f (ws.map D.int))/\ws.length=cells.length/\∀ c∈ws,1<=c/\c<=10^6:=by
 unfold eZ
 walk_at "ev"
 refine gZ (Q:=fun r=>∃ cs:List Int,r.bind fin=.ok (.f (cs.map D.int))/\cs.length=cells.length/\∀ c∈cs,1<=c/\c<=10^6) (k:=zEk lN) (fun i ρ=>∃ (cs:List Int) (a b:Sl),ρ=[.val (.lst (cells.map D.int)),.val (.int plan),.own (cs.map D.int),a,b]/\cs.length=i/\∀ c∈cs,1<=c/\c<=10^6) ⟨[],_,_,rfl,rfl,fun c h=>by cases h⟩ ?_ ?_
 ·rintro i d ρ hd ⟨cs,a,b,rfl,hl',hc⟩
  have hi:i < cells.length:=by have:=(List.getElem?_eq_some_iff.mp hd).1;rwa [List.length_map] at this
  obtain ⟨cell,hcm,rfl⟩:=List.mem_map.mp (List.mem_of_getElem? hd)
  generalize hm:(cell * 69697+19) % 2147483647=mix
  obtain ⟨c,c0,c1,ce⟩:∃ c:Int,0<=c/\c < 10^6/\ofO (atD [.int (mix / 7 % 5),.int (mix / 13 % 10^6)] (plan / 4 % 3 / 2))=.ok (.int c):=by
   have a:=Int.emod_nonneg (mix / 13) (show (10:Int)^6≠0 by decide)
   have b:=Int.emod_lt_of_pos (mix / 13) (show (0:Int) < 10^6 by decide)
   rcases (show plan / 4 % 3 / 2=0∨plan / 4 % 3 / 2=1 by omega) with h | h<;>rw [h]
   ·exact ⟨mix / 7 % 5,by omega,by omega,rfl⟩
   ·exact ⟨mix / 13 % 10^6,a,b,rfl⟩
  refine ⟨[.val (.lst (cells.map D.int)),.val (.int plan),.own ((cs++[1+c]).map D.int),.val (.int cell),.val (.int mix)],?_,cs++[1+c],_,_,rfl,by rw [List.length_append,hl'];rfl,fun z hz=>?_⟩
  ·walk_at "ev"
   rw [hm,oPow_i zOl]
   walk_at "ev"
   rw [zKC,ce]
   walk_at "ev"
   rw [if_pos (by omega),List.map_append]
   rfl
  ·rcases List.mem_append.mp hz with h | h
   ·exact hc z h
   ·rw [List.mem_singleton.mp h];exact ⟨by omega,by omega⟩
 ·rintro ρ ⟨cs,a,b,rfl,hl',hc⟩
  rw [List.length_map] at hl'
  exact ⟨cs,rfl,hl',hc⟩
theorem zFa (L:List (List Pt)):dep (.lst (L.map fun ps=>D.tup (ps.map dp)))<=50:=by
 have:depS (L.map fun ps=>D.tup (ps.map dp))<=4:=zBL fun d hd=>by
  obtain ⟨ps,_,rfl⟩:=List.mem_map.mp hd
  rw [dep]
  have:depS (ps.map dp)<=3:=zBL fun e he=>by
   obtain ⟨p,_,rfl⟩:=List.mem_map.mp he
   exact Nat.le_trans (Nat.le_of_eq (dep_dp p)) (by decide)
  omega
 rw [dep]
 omega
theorem zIh (f:Nat->Rat) (k:Nat):((List.range (k+1)).map f).sum=((List.range k).map f).sum+f k:=by
 rw [List.range_succ,List.map_append]
 have:∀ (l m:List Rat),(l++m).sum=l.sum+m.sum:=by
  intro l m
  induction l with
  | nil=>rw [List.nil_append,List.sum_nil,Rat.zero_add]
  | cons a l ih=>rw [List.cons_append,List.sum_cons,List.sum_cons,ih];grind
 rw [this]
 show _+(f k+0)=_
 rw [Rat.add_zero]
structure Lev (t:Rat):Prop where
 nn:0<=t
 up:t<=((10^30:Int):Rat)
 dn:∃ B:Int,0 < B/\B < 2^42/\Dn B t
theorem Lev.sz {t:Rat} (h:Lev t):Sz 142 t:=by
 obtain ⟨B,b0,b1,d⟩:=h.dn
 exact d.sz (a:=100) (b:=42) b0 b1 h.nn h.up (by decide)
theorem zMi {ws cs:List Int} {t:Rat} {B:Int} (hB:Dn B t) (i:Nat):Dn B (gets (cR cs) (cR ws) t i):=by
 refine Dn.mn ?_ (Dn.int _ _)
 obtain ⟨k,hk⟩:=hB
 refine ⟨ws.getD i 0 * k,?_⟩
 rw [Rat.intCast_mul,<-hk]
 show cR ws i * t * _=cR ws i * _
 grind
theorem zEn {f:Nat->Rat} {B:Int} (h:∀ i,Dn B (f i)):∀ l:List Nat,Dn B (gT f l)
 | []=>Dn.zero B
 | i::l=>by rw [bA];exact (h i).add (zEn h l)
theorem zFF {f:Nat->Rat}:∀ {l:List Nat},(∀ i∈l,0<=f i)->0<=gT f l
 | [],_=>Rat.le_refl
 | i::l,h=>by
  have a:=h i List.mem_cons_self
  have b:=zFF (f:=f) (l:=l) fun j hj=>h j (List.mem_cons_of_mem _ hj)
  rw [bA];grind
theorem zKZ {cs:List Int} (hc:Cl cs) {i:Nat} (hi:i < cs.length):0<=cR cs i/\cs.getD i 0 < 10^30:=
 ⟨Rat.intCast_nonneg.mpr (hc.nn _ (List.mem_of_getElem? (bQ hi))),hc.up _ (List.mem_of_getElem? (bQ hi))⟩
theorem Lev.gets {ws cs:List Int} (h:Wt ws cs) (hc:Cl cs) {t:Rat} (lt:Lev t) {i:Nat} (hi:i < cs.length):Sz 142 (gets (cR cs) (cR ws) t i):=by
 obtain ⟨B,b0,b1,d⟩:=lt.dn
 obtain ⟨g0,g1⟩:=jV h hc lt.nn hi
 exact (zMi d i).sz (a:=100) (b:=42) b0 b1 g0 g1 (Int.lt_trans (zKZ hc hi).2 (show (10:Int)^30 < 2^100 by decide))
theorem Lev.qq {ws cs:List Int} (h:Wt ws cs) (hc:Cl cs) {t:Rat} (lt:Lev t):0<=QQ ws cs t/\QQ ws cs t<=(cs.sum:Rat)/\Sz 146 (QQ ws cs t):=by
 obtain ⟨B,b0,b1,d⟩:=lt.dn
 have g:=fun i (hi:i∈List.range cs.length)=>jV h hc lt.nn (List.mem_range.mp hi)
 have a:0<=QQ ws cs t:=zFF fun i hi=>(g i hi).1
 have b:QQ ws cs t<=(cs.sum:Rat):=by
  rw [<-nU]
  exact mQ fun i hi=>(g i hi).2
 exact ⟨a,b,(zEn (zMi d) _).sz (a:=104) (b:=42) b0 b1 a b hc.sum.2⟩
theorem Lev.ff {ws cs:List Int} (h:Wt ws cs) (hc:Cl cs) {t:Rat} (lt:Lev t) {i:Nat} (hi:i < cs.length):FF .even ws cs (QQ ws cs t) i=Lw.gets (cR cs) (cR ws) t i:=by
 obtain ⟨a,b,_⟩:=lt.qq h hc
 exact (zEx (M:=142) (w:=.even) (f:=Lw.gets (cR cs) (cR ws) t) h hc a b ⟨t,⟨lt.nn,rfl,fun j hj=>lt.gets h hc hj⟩,fun j _=>rfl⟩ hi).symm
theorem zEr {a b:Rat} {m n:Nat} (za:Sz m a) (zb:Sz n b) (h:n+m<=99999):lR [dq a,dq b]=.ok (.v (dq (mn b a))):=by
 unfold lR
 walk_at "ev"
 rw [lT zb za h]
 unfold mn
 by_cases c:b < a
 ·rw [decide_eq_true c,if_pos c]
  walk_at "ev"
 ·rw [decide_eq_false c,if_neg c]
  walk_at "ev"
theorem zFK {ws cs:List Int} (h:ws.length=cs.length):ws.zip cs=(List.range cs.length).map fun i=>(ws.getD i 0,cs.getD i 0):=by
 refine List.ext_getElem (by rw [List.length_zip,List.length_map,List.length_range];omega) fun i h1 h2=>?_
 have hi:i < cs.length:=by rw [List.length_map,List.length_range] at h2;exact h2
 rw [List.getElem_zip,List.getElem_map,List.getElem_range,List.getD_eq_getElem?_getD,List.getD_eq_getElem?_getD,List.getElem?_eq_getElem (by omega),List.getElem?_eq_getElem hi]
 rfl
theorem nZ {ws cs:List Int} (h:Wt ws cs) (hc:Cl cs) {t:Rat} (lt:Lev t):dU [.lst (ws.map D.int),.lst (cs.map D.int),dq t]=.ok (.f ((evs ws cs t).map dq)):=by
 have hi:=hc.hi
 have hw:=h.len
 have z:=lt.sz
 unfold dU
 walk_at "ev"
 rw [lD rfl rfl]
 walk_at "ev"
 rw [jK (u:=D.int) (v:=D.int) (g:=fun w c=>dq (mn ((w:Rat) * t) (c:Rat))) (by omega) (fun p hp=>by
  have h1:=(List.of_mem_zip hp).1
  have h2:=(List.of_mem_zip hp).2
  have w1:=h.lo _ h1
  have w2:=h.up _ h1
  have c1:=hc.nn _ h2
  have c2:=hc.up _ h2
  have zw:Sz 20 (p.1:Rat):=cJ (by omega) (by decide)
  have zc:Sz 100 (p.2:Rat):=cJ (by omega) (by decide)
  walk_at "ev"
  rw [zEC,zEC,fQ zw z (by decide)]
  walk_at "ev"
  rw [zEr zc (zw.mul z) (by decide)]
  walk_at "ev")]
 walk_at "ev"
 rw [zFK hw]
 unfold evs
 rw [List.map_map,List.map_map]
 rfl
theorem zBF {f:Nat->Rat} {n:Nat} (hn:n<=12) (hz:∀ i,i < n->Sz 142 (f i)):dZ [.lst (((List.range n).map f).map dq)]=.ok (.v (dq ((List.range n).map f).sum)):=by
 unfold dZ
 walk_at "ev"
 refine gZ (Q:=fun r=>r.bind fin=.ok (.v (dq ((List.range n).map f).sum))) (k:=zEk oI) (fun k ρ=>∃ a:Sl,ρ=[.val (.lst (((List.range n).map f).map dq)),.val (dq ((List.range k).map f).sum),a]/\Sz (143 * k+1) ((List.range k).map f).sum) ⟨_,rfl,by show Sz 1 (0:Rat);exact ⟨by decide,by decide⟩⟩ ?_ ?_
 ·rintro k d ρ hd ⟨a,rfl,zs⟩
  have hk:k < n:=by have:=(List.getElem?_eq_some_iff.mp hd).1;rwa [List.length_map,List.length_map,List.length_range] at this
  have ed:d=dq (f k):=by
   rw [List.map_map,List.getElem?_map,List.getElem?_range hk] at hd
   exact (Option.some.inj hd).symm
  subst ed
  refine ⟨_,?_,.val (dq (f k)),rfl,by rw [zIh];exact (zs.add (hz k hk)).mono (by omega)⟩
  walk_at "ev"
  rw [pL zs (hz k hk) (by omega),<-zIh]
  walk_at "ev"
 ·rintro ρ ⟨a,rfl,_⟩
  rw [List.length_map,List.length_map,List.length_range]
  rfl
theorem rZ {α β:Type} {u:α->D} {v:β->D}:∀ (l:List α) (m:List β),iY (l.map u) (m.map v)=(l.zip m).map fun p=>.tup [u p.1,v p.2]
 | [],_=>by simp [iY]
 | _::_,[]=>by simp [iY]
 | a::l,b::m=>by rw [List.map_cons,List.map_cons,List.zip_cons_cons,List.map_cons,<-rZ l m];rfl
def zGP (t:Rat):Prop:=0<=t/\t<=((10^30:Int):Rat)/\∃ B:Int,0 < B/\B<=10^6/\Dn B t
theorem zGP.lev {t:Rat} (h:zGP t):Lev t:=by
 obtain ⟨a,b,B,b0,b1,d⟩:=h
 exact ⟨a,b,B,b0,by omega,d⟩
theorem zEJ:zGP 0:=⟨by decide,by decide,1,by decide,by decide,Dn.zero 1⟩
theorem zJZ {ws cs:List Int} (h:Wt ws cs) (hc:Cl cs) {i:Nat} (hi:i < cs.length):zGP (lv ws cs i):=by
 have w:=h.at hi
 have n:=zGd h hc hi
 have m:=zR h hi
 have c:cR cs i<=((10^30:Int):Rat):=Rat.intCast_le_intCast.mpr (Int.le_of_lt (zKZ hc hi).2)
 have w1:(1:Rat)<=cR ws i:=Rat.intCast_le_intCast.mpr w.1
 have k:=Rat.mul_le_mul_of_nonneg_right w1 n
 exact ⟨n,by grind,ws.getD i 0,by omega,w.2,(zJj h hc hi).2⟩
theorem zAb {ws cs:List Int} (h:Wt ws cs) (hc:Cl cs):∃ L:List Rat,fV [.lst (ws.map D.int),.lst (cs.map D.int)]=.ok (.f (L.map dq))/\L.length<=13/\(∀ t∈L,zGP t)/\0∈L/\∀ i,i < cs.length->lv ws cs i∈L:=by
 have hi:=hc.hi
 have hw:=h.len
 unfold fV
 walk_at "ev"
 rw [lD rfl rfl]
 walk_at "ev"
 rw [rZ,zFK hw,List.map_map]
 refine gZ (Q:=fun r=>∃ L:List Rat,r.bind fin=.ok (.f (L.map dq))/\L.length<=13/\(∀ t∈L,zGP t)/\0∈L/\∀ i,i < cs.length->lv ws cs i∈L) (k:=zEk mD) (fun k ρ=>∃ (L:List Rat) (a b c:Sl),ρ=[.val (.lst (ws.map D.int)),.val (.lst (cs.map D.int)),.own (L.map dq),a,b,c]/\L.length<=k+1/\(∀ t∈L,zGP t)/\0∈L/\∀ i,i < k->lv ws cs i∈L) ⟨[0],_,_,_,rfl,Nat.le_refl 1,fun t ht=>by rw [List.mem_singleton.mp ht];exact zEJ,List.mem_singleton.mpr rfl,fun i h=>by omega⟩ ?_ ?_
 ·rintro k d ρ hd ⟨L,a,b,c,rfl,hl,hL,h0,hm⟩
  have hk:k < cs.length:=by have:=(List.getElem?_eq_some_iff.mp hd).1;rwa [List.length_map,List.length_range] at this
  have ed:d=.tup [.int (ws.getD k 0),.int (cs.getD k 0)]:=by
   rw [List.getElem?_map,List.getElem?_range hk] at hd
   exact (Option.some.inj hd).symm
  subst ed
  have w:=h.at hk
  have el:Rat.divInt (cs.getD k 0) (ws.getD k 0)=lv ws cs k:=by rw [Rat.divInt_eq_div];rfl
  have fm:=jM (t:=cs.getD k 0) (b:=ws.getD k 0) (n:=20) (by omega) (by omega) (by decide)
  rw [el] at fm
  by_cases z:lv ws cs k∈L
  ·refine ⟨[.val (.lst (ws.map D.int)),.val (.lst (cs.map D.int)),.own (L.map dq),.val (.int (ws.getD k 0)),.val (.int (cs.getD k 0)),.val (dq (lv ws cs k))],?_,L,_,_,_,rfl,by omega,hL,h0,fun i hi=>?_⟩
   ·walk_at "ev"
    rw [fm]
    walk_at "ev"
    rw [tG,decide_eq_true z]
    walk_at "ev"
   ·rcases Nat.lt_succ_iff_lt_or_eq.mp hi with hi | rfl
    ·exact hm i hi
    ·exact z
  ·refine ⟨[.val (.lst (ws.map D.int)),.val (.lst (cs.map D.int)),.own ((L++[lv ws cs k]).map dq),.val (.int (ws.getD k 0)),.val (.int (cs.getD k 0)),.val (dq (lv ws cs k))],?_,L++[lv ws cs k],_,_,_,rfl,by rw [List.length_append,List.length_singleton];omega,fun t ht=>?_,List.mem_append_left _ h0,fun i hi=>?_⟩
   ·walk_at "ev"
    rw [fm]
    walk_at "ev"
    rw [tG,decide_eq_false z]
    walk_at "ev"
    rw [if_pos (by omega),List.map_append]
    rfl
   ·rcases List.mem_append.mp ht with ht | ht
    ·exact hL t ht
    ·rw [List.mem_singleton.mp ht];exact zJZ h hc hk
   ·rcases Nat.lt_succ_iff_lt_or_eq.mp hi with hi | rfl
    ·exact List.mem_append_left _ (hm i hi)
    ·exact List.mem_append_right _ (List.mem_singleton.mpr rfl)
 ·rintro ρ ⟨L,a,b,c,rfl,hl,hL,h0,hm⟩
  rw [List.length_map,List.length_range] at hl hm
  exact ⟨L,rfl,by omega,hL,h0,hm⟩
theorem zHa {ws cs:List Int} (h:Wt ws cs) (hc:Cl cs) {J:List Rat} (js:JS .even ws cs J) {i:Nat} (hi:i < cs.length):∀ p∈wln .even ws cs J i,∃ t,p.1=QQ ws cs t/\(t=0∨∃ k,k < cs.length/\t=lv ws cs k):=by
 obtain ⟨ls,_,e2,e3,e4⟩:=zGe (n:=1) (wd:=.lst (ws.map D.int)) (cd:=.lst (cs.map D.int)) (.inl rfl) (.inl rfl) h hc
 have jl:=zHq h hc e2 e3 e4
 rw [List.map_cons,e4] at jl
 have js':=jl.js
 intro p hp
 rw [zJb (w:=.even) h hc js js' hi] at hp
 obtain ⟨_,_,m,_⟩:=qI (w:=.even) h hc js' hi
 rcases List.mem_cons.mp (m p hp).1 with e | m1
 ·exact ⟨0,by rw [e,e4],.inl rfl⟩
 ·obtain ⟨t,ht,e⟩:=List.mem_map.mp ((zCR _ _).subset m1)
  obtain ⟨k,hk,rfl⟩:=List.mem_map.mp (e3.mem_iff.mp ht)
  exact ⟨_,e.symm,.inr ⟨k,List.mem_range.mp hk,rfl⟩⟩
theorem zKP (cs:List Int):cs.map D.int=(List.range cs.length).map fun i=>D.int (cs.getD i 0):=by
 refine List.ext_getElem (by rw [List.length_map,List.length_map,List.length_range]) fun i h1 h2=>?_
 have hi:i < cs.length:=by rw [List.length_map] at h1;exact h1
 rw [List.getElem_map,List.getElem_map,List.getElem_range,List.getD_eq_getElem?_getD,List.getElem?_eq_getElem hi]
 rfl
structure Ls (cs:List Int) (f:Nat->List Pt):Prop where
 ln:∀ i,i < cs.length->zHD (f i)/\(f i).getLast?=some ((cs.sum:Rat),cR cs i)
 le:∀ i,i < cs.length->(f i).length<=30
 sz:∀ i,i < cs.length->∀ p∈f i,SzP 670 p
def lnD (cs:List Int) (f:Nat->List Pt):List D:=(List.range cs.length).map fun i=>D.tup ((f i).map dp)
theorem mI {cs:List Int} (hc:Cl cs) {f:Nat->List Pt} (h:Ls cs f):dG [.lst (lnD cs f),.lst (cs.map D.int)]=.ok (.v (.bl true)):=by
 have hi:=hc.hi
 have ll:(lnD cs f).length=cs.length:=by unfold lnD;rw [List.length_map,List.length_range]
 unfold dG
 walk_at "ev"
 rw [ll]
 walk_at "ev"
 rw [lD rfl rfl]
 walk_at "ev"
 have ep:iY (lnD cs f) (cs.map D.int)=(List.range cs.length).map fun i=>D.tup [D.tup ((f i).map dp),D.int (cs.getD i 0)]:=by
  unfold lnD
  rw [show iY ((List.range cs.length).map fun i=>D.tup ((f i).map dp)) (cs.map D.int)=iY ((List.range cs.length).map fun i=>D.tup ((f i).map dp)) ((List.range cs.length).map fun i=>D.int (cs.getD i 0)) by rw [<-zKP],rZ,yV,List.map_map]
  rfl
 rw [ep]
 refine gZ (Q:=fun r=>r.bind fin=.ok (.v (.bl true))) (k:=zEk kG) (fun k ρ=>∃ (a b:Sl),ρ=[.val (.lst (lnD cs f)),.val (.lst (cs.map D.int)),a,b]) ⟨_,_,rfl⟩ ?_ ?_
 ·rintro k d ρ hd ⟨a,b,rfl⟩
  have hk:k < cs.length:=by have:=(List.getElem?_eq_some_iff.mp hd).1;rwa [List.length_map,List.length_range] at this
  have ed:d=.tup [D.tup ((f k).map dp),D.int (cs.getD k 0)]:=by
   rw [List.getElem?_map,List.getElem?_range hk] at hd
   exact (Option.some.inj hd).symm
  subst ed
  obtain ⟨ln,la⟩:=h.ln k hk
  have l0:1<=(f k).length:=by
   cases e:f k with
   | nil=>rw [e] at la;cases la
   | cons a r=>exact Nat.succ_pos _
  have lx:oIx (.tup ((f k).map dp)) (.int (-1))=.ok (dp ((cs.sum:Rat),cR cs k)):=zED (i:=-1) (k:=1) rfl (by decide) l0 (by rw [<-List.getLast?_eq_getElem?];exact la)
  refine ⟨_,?_,.val (.tup ((f k).map dp)),.val (.int (cs.getD k 0)),rfl⟩
  walk_at "ev"
  rw [zDS ln (by have:=h.le k hk;omega) (h.sz k hk) (by decide)]
  walk_at "ev"
  rw [lx]
  walk_at "ev"
  rw [show D.tup [.tup [.int cs.sum,.int 1],.tup [.int (cs.getD k 0),.int 1]]=dp ((cs.sum:Rat),cR cs k) from rfl,oNe_dp,decide_eq_true rfl]
  walk_at "ev"
 ·rintro ρ ⟨a,b,rfl⟩
  rfl
theorem zJr {s t:Rat} (hs:zGP s) (ht:zGP t):Lev (hf * (s+t)):=by
 obtain ⟨s0,s1,B,b0,b1,d⟩:=hs
 obtain ⟨t0,t1,C,c0,c1,e⟩:=ht
 have hh:=oV
 have bc:B * C<=10^6 * 10^6:=Int.mul_le_mul b1 c1 (by omega) (by decide)
 have b2:0 < B * C:=Int.mul_pos b0 c0
 refine ⟨by rw [hh];grind,by rw [hh];grind,B * C * 2,by omega,by omega,?_⟩
 rw [Rat.mul_comm]
 exact zLV ((d.mul C).add (by rw [Int.mul_comm];exact e.mul B))
theorem qV {ws cs:List Int} (h:Wt ws cs) (hc:Cl cs) {f:Nat->List Pt} (hf':Ls cs f) (hp:∀ i,i < cs.length->∀ p∈f i,∃ t,p.1=QQ ws cs t/\(t=0∨∃ k,k < cs.length/\t=lv ws cs k)) (hv:∀ i,i < cs.length->∀ x,0<=x->x<=(cs.sum:Rat)->dB (f i) x=FF .even ws cs x i):cZ [.lst (lnD cs f),.lst (ws.map D.int),.lst (cs.map D.int)]=.ok (.v (.bl true)):=by
 have hi:=hc.hi
 obtain ⟨L,eL,lL,hL,h0,hm⟩:=zAb h hc
 have hh:=zJw
 unfold d_HALF at hh
 have ixl:∀ i:Nat,i < cs.length->oIx (.lst (lnD cs f)) (.int (i:Int))=.ok (.tup ((f i).map dp)):=fun i hi'=>kO (Int.natCast_nonneg i) (show (List.range cs.length)[i]?=some i from List.getElem?_range hi')
 have tot:∀ t,Lev t->dZ [.lst ((evs ws cs t).map dq)]=.ok (.v (dq (QQ ws cs t))):=fun t lt=>zBF (n:=cs.length) (f:=gets (cR cs) (cR ws) t) (by omega) (fun i hi'=>lt.gets h hc hi')
 have la:∀ j,j < L.length->L[j]?=some (L.getD j 0):=fun j hj=>by rw [List.getD_eq_getElem?_getD,List.getElem?_eq_getElem hj];rfl
 have lm:∀ j,j < L.length->zGP (L.getD j 0):=fun j hj=>hL _ (List.mem_of_getElem? (la j hj))
 have l1:1<=L.length:=List.length_pos_of_mem h0
 let H:List Rat:=(List.range (L.length - 1)).map fun j=>hf * (L.getD j 0+L.getD (j+1) 0)
 have hH:∀ t∈L++H,Lev t:=fun t ht=>by
  rcases List.mem_append.mp ht with ht | ht
  ·exact (hL t ht).lev
  ·obtain ⟨j,hj,rfl⟩:=List.mem_map.mp ht
   have hj':=List.mem_range.mp hj
   exact zJr (lm j (by omega)) (lm (j+1) (by omega))
 unfold cZ iO iJ
 generalize hK:(eS:Sv)=K
 walk_at "ev"
 rw [eL]
 walk_at "ev"
 rw [eQ (u:=dq) (g:=fun t=>dq (QQ ws cs t)) (by omega) (fun t ht=>by
  walk_at "ev"
  rw [nZ h hc (hL t ht).lev]
  walk_at "ev"
  rw [tot t (hL t ht).lev]
  walk_at "ev")]
 walk_at "ev"
 rw [show (L.map fun t=>dq (QQ ws cs t))=(L.map (QQ ws cs)).map dq by rw [List.map_map];rfl]
 generalize hF:L.map (QQ ws cs)=F
 refine gZ (Q:=fun r=>r.bind fin=.ok (.v (.bl true))) (k:=zEk K) (fun k ρ=>∃ (a b:Sl),ρ=[.val (.lst (lnD cs f)),.val (.lst (ws.map D.int)),.val (.lst (cs.map D.int)),.val (.lst (L.map dq)),.val (.lst (F.map dq)),a,b,.un,.un,.un,.un,.un]) ⟨_,_,rfl⟩ ?_ ?_
 ·rintro k d ρ hd ⟨a,b,rfl⟩
  have hk:k < cs.length:=by have:=(List.getElem?_eq_some_iff.mp hd).1;unfold lnD at this;rwa [List.length_map,List.length_range] at this
  have ed:d=D.tup ((f k).map dp):=by
   unfold lnD at hd
   rw [List.getElem?_map,List.getElem?_range hk] at hd
   exact (Option.some.inj hd).symm
  subst ed
  obtain ⟨ρ',e,b',rfl⟩:=zCM (g:=gName 6) (b:=iN) (ds:=(f k).map dp) (ρ:=[.val (.lst (lnD cs f)),.val (.lst (ws.map D.int)),.val (.lst (cs.map D.int)),.val (.lst (L.map dq)),.val (.lst (F.map dq)),.val (.tup ((f k).map dp)),b,.un,.un,.un,.un,.un]) (fun ρ=>∃ b:Sl,ρ=[.val (.lst (lnD cs f)),.val (.lst (ws.map D.int)),.val (.lst (cs.map D.int)),.val (.lst (L.map dq)),.val (.lst (F.map dq)),.val (.tup ((f k).map dp)),b,.un,.un,.un,.un,.un]) ⟨_,rfl⟩ (by
   rintro d ρ hd ⟨b,rfl⟩
   obtain ⟨p,hpm,rfl⟩:=List.mem_map.mp hd
   have mF:p.1∈F:=by
    obtain ⟨t,et,ht⟩:=hp k hk p hpm
    rw [<-hF,et]
    refine List.mem_map_of_mem ?_
    rcases ht with rfl | ⟨j,hj,rfl⟩
    ·exact h0
    ·exact hm j hj
   refine ⟨_,_,rfl,.inl ?_,.val (dp p),rfl⟩
   walk_at "ev"
   rw [tG,decide_eq_true mF]
   walk_at "ev")
  refine ⟨_,?_,.val (.tup ((f k).map dp)),b',rfl⟩
  walk_at "ev"
  rw [e]
 ·rintro ρ ⟨a,b,rfl⟩
  subst hK
  unfold eS
  generalize hK:(iQ:Sv)=K
  walk_at "ev"
  rw [xG (by decide) (by decide) (by omega) (by omega),show rng 1 ((L.length:Int) - 1).toNat 1=(List.range (L.length - 1)).map fun j:Nat=>D.int (1+(j:Int)) by unfold rng;rw [show ((L.length:Int) - 1).toNat=L.length - 1 by omega];exact List.map_congr_left fun j _=>by rw [show (1:Int)+(j:Int) * 1=1+(j:Int) by omega]]
  walk_at "ev"
  rw [eQ (u:=fun j:Nat=>D.int (1+(j:Int))) (g:=fun j=>dq (hf * (L.getD j 0+L.getD (j+1) 0))) (by rw [List.length_range];omega) (fun j hj=>by
   have hj':=List.mem_range.mp hj
   have x1:oIx (.lst (L.map dq)) (.int (1+(j:Int) - 1))=.ok (dq (L.getD j 0)):=kO (by omega) (by rw [show (1+(j:Int) - 1).toNat=j by omega];exact la j (by omega))
   have x2:oIx (.lst (L.map dq)) (.int (1+(j:Int)))=.ok (dq (L.getD (j+1) 0)):=kO (by omega) (by rw [show (1+(j:Int)).toNat=j+1 by omega];exact la (j+1) (by omega))
   have z1:=(lm j (by omega)).lev.sz
   have z2:=(lm (j+1) (by omega)).lev.sz
   walk_at "ev"
   rw [x1]
   walk_at "ev"
   rw [x2]
   walk_at "ev"
   rw [pL z1 z2 (by decide)]
   walk_at "ev"
   rw [hh,fQ zEg (z1.add z2) (by decide)]
   walk_at "ev")]
  walk_at "ev"
  rw [show ((List.range (L.length - 1)).map fun j=>dq (hf * (L.getD j 0+L.getD (j+1) 0)))=H.map dq by show _=(List.map _ _).map dq;rw [List.map_map];rfl]
  rw [<-List.map_append,if_pos (by rw [List.length_range];omega)]
  generalize L++H=G at hH ⊢
  walk_at "ev"
  subst hK
  refine gZ (Q:=fun r=>r.bind fin=.ok (.v (.bl true))) (k:=zEk iB) (fun k ρ=>∃ (a5 a6 a8 a9 a10 a11:Sl),ρ=[.val (.lst (lnD cs f)),.val (.lst (ws.map D.int)),.val (.lst (cs.map D.int)),.val (.lst (L.map dq)),.val (.lst (F.map dq)),a5,a6,.val (.lst (H.map dq)),a8,a9,a10,a11]) ⟨_,_,_,_,_,_,rfl⟩ ?_ ?_
  ·rintro k d ρ hd ⟨a5,a6,a8,a9,a10,a11,rfl⟩
   obtain ⟨t,ht,rfl⟩:=List.mem_map.mp (List.mem_of_getElem? hd)
   have lt:=hH t ht
   obtain ⟨q0,q1,qz⟩:=lt.qq h hc
   obtain ⟨ρ',e,b',rfl⟩:=zCM (g:=gName 11) (b:=iD) (ds:=rng 0 cs.length 1) (ρ:=[.val (.lst (lnD cs f)),.val (.lst (ws.map D.int)),.val (.lst (cs.map D.int)),.val (.lst (L.map dq)),.val (.lst (F.map dq)),a5,a6,.val (.lst (H.map dq)),.val (dq t),.val (.lst ((evs ws cs t).map dq)),.val (dq (QQ ws cs t)),a11]) (fun ρ=>∃ b:Sl,ρ=[.val (.lst (lnD cs f)),.val (.lst (ws.map D.int)),.val (.lst (cs.map D.int)),.val (.lst (L.map dq)),.val (.lst (F.map dq)),a5,a6,.val (.lst (H.map dq)),.val (dq t),.val (.lst ((evs ws cs t).map dq)),.val (dq (QQ ws cs t)),b]) ⟨_,rfl⟩ (by
    rintro d ρ hd ⟨b,rfl⟩
    obtain ⟨j,hjd⟩:=List.mem_iff_getElem?.mp hd
    obtain ⟨hj,rfl⟩:=zAm hjd
    rw [show (0:Int)+(j:Int) * 1=(j:Int) by omega]
    obtain ⟨ln,la'⟩:=hf'.ln j hj
    have fv:=zBG (by have:=hf'.le j hj;omega) (hf'.sz j hj) qz (by decide) ln.1 la' q0 q1
    rw [hv j hj _ q0 q1,lt.ff h hc hj] at fv
    have xe:oIx (.lst ((evs ws cs t).map dq)) (.int (j:Int))=.ok (dq (gets (cR cs) (cR ws) t j)):=by
     unfold evs
     rw [List.map_map]
     exact kO (Int.natCast_nonneg j) (show (List.range cs.length)[j]?=some j from List.getElem?_range hj)
    refine ⟨_,_,rfl,.inl ?_,.val (.int (j:Int)),rfl⟩
    walk_at "ev"
    rw [ixl j hj]
    walk_at "ev"
    rw [fv]
    walk_at "ev"
    rw [xe]
    walk_at "ev")
   refine ⟨_,?_,a5,a6,.val (dq t),.val (.lst ((evs ws cs t).map dq)),.val (dq (QQ ws cs t)),b',rfl⟩
   walk_at "ev"
   rw [nZ h hc lt]
   walk_at "ev"
   rw [tot t lt]
   walk_at "ev"
   rw [yW (by omega) (by omega),Int.toNat_natCast]
   walk_at "ev"
   rw [e]
  ·rintro ρ ⟨a5,a6,a8,a9,a10,a11,rfl⟩
   rfl
theorem zEV {w:Wy} {ws cs J:_} (hw:w.due ws cs) (hc:Cl cs) (js:JS w ws cs J) (lJ:J.length<=30) (zJ:∀ x∈J,Sz 300 x/\∀ i,i < cs.length->Sz 670 (FF w ws cs x i)):Ls cs (wln w ws cs J):=by
 refine ⟨fun i hi=>?_,fun i hi=>?_,fun i hi p hp=>?_⟩
 ·obtain ⟨a,b,_,_⟩:=qI hw hc js hi
  exact ⟨a,b⟩
 ·obtain ⟨ok,la⟩:=zCF hw hc js hi
  have h1:=(wF ok.2).length_le
  have h2:(jpt w ws cs J i).length=J.length:=by unfold jpt;rw [List.length_map]
  show (mM (jpt w ws cs J i)).length<=30
  omega
 ·obtain ⟨_,_,m,_⟩:=qI hw hc js hi
  obtain ⟨m1,m2⟩:=m p hp
  obtain ⟨z1,z2⟩:=zJ p.1 m1
  exact ⟨z1.mono (by decide),by rw [m2];exact z2 i hi⟩
theorem zHQ {ns ws cs:List Int} {plan:Int} (h:Wt ws cs) (hc:Cl cs):(zM [.val (.lst (ns.map D.int)),.val (.int plan),.val (.lst (cs.map D.int)),.val (.lst (ws.map D.int)),.un,.un,.un]).bind fin=.ok (.v (.bl true)):=by
 have hi:=hc.hi
 obtain ⟨J,eJ,js,lJ,zJ⟩:=sG (w:=.even) (wd:=.lst (ws.map D.int)) (cd:=.lst (cs.map D.int)) (.inl rfl) (.inl rfl) h hc
 obtain ⟨J',eJ',js',lJ',zJ'⟩:=sG (w:=.lack) (wd:=.lst (ws.map D.int)) (cd:=.lst (cs.map D.int)) (.inl rfl) (.inl rfl) h hc
 have ls:=zEV (w:=.even) h hc js lJ zJ
 have ls':=zEV (w:=.lack) h hc js' lJ' zJ'
 have tl:∀ i,i < cs.length->wln .lack ws cs J' i=trn (wln .even ws cs J i) ((cs.sum:Rat),cR cs i):=fun i hi'=>zKG (w:=.even) h hc js js' hi'
 have a1:=mI hc ls
 have a2:=mI hc ls'
 have a3:=qV h hc ls (fun i hi'=>zHa h hc js hi') (fun i hi'=>(qI (w:=.even) h hc js hi').2.2.2)
 have e1:dP [.str (Str.ofString "even"),.lst (ws.map D.int),.lst (cs.map D.int)]=.ok (.f (lnD cs (wln .even ws cs J))):=eJ
 have e2:dP [.str (Str.ofString "lack"),.lst (ws.map D.int),.lst (cs.map D.int)]=.ok (.f (lnD cs (wln .lack ws cs J'))):=eJ'
 have dl:dep (.lst (lnD cs (wln .lack ws cs J')))<=50:=by
  have:=zFa ((List.range cs.length).map fun i=>wln .lack ws cs J' i)
  rw [List.map_map] at this
  exact this
 have cp:∀ ρ:Rho,zHu lZ (aV lW (aE (aJ 7) aNil)) ([.val (.lst (ns.map D.int)),.val (.int plan),.val (.lst (cs.map D.int)),.val (.lst (ws.map D.int)),.val (.lst [.lst (ws.map D.int),.lst (cs.map D.int)]),.val (.lst (lnD cs (wln .even ws cs J))),.val (.lst (lnD cs (wln .lack ws cs J')))]) (lnD cs (wln .even ws cs J))=.ok (lnD cs (wln .lack ws cs J')):=fun _=>by
  unfold lnD
  exact eQ (u:=fun i=>D.tup ((wln .even ws cs J i).map dp)) (g:=fun i=>D.tup ((wln .lack ws cs J' i).map dp)) (by rw [List.length_range];omega) (fun i hi'=>by
   have hii:=List.mem_range.mp hi'
   walk_at "ev"
   rw [zHP (by have:=ls.le i hii;omega) (ls.sz i hii) (by decide) (ls.ln i hii).2,<-tl i hii]
   walk_at "ev")
 unfold zM
 walk_at "ev"
 rw [show oIx (.lst [.lst (ws.map D.int),.lst (cs.map D.int)]) (.int 0)=.ok (.lst (ws.map D.int)) from rfl]
 walk_at "ev"
 rw [show oIx (.lst [.lst (ws.map D.int),.lst (cs.map D.int)]) (.int 1)=.ok (.lst (cs.map D.int)) from rfl]
 walk_at "ev"
 rw [e1]
 walk_at "ev"
 rw [a1]
 walk_at "ev"
 rw [a3]
 walk_at "ev"
 rw [show oIx (.lst [.lst (ws.map D.int),.lst (cs.map D.int)]) (.int 0)=.ok (.lst (ws.map D.int)) from rfl]
 walk_at "ev"
 rw [show oIx (.lst [.lst (ws.map D.int),.lst (cs.map D.int)]) (.int 1)=.ok (.lst (cs.map D.int)) from rfl]
 walk_at "ev"
 rw [e2]
 walk_at "ev"
 rw [cp []]
 walk_at "ev"
 rw [zJy dl]
 walk_at "ev"
 rw [zFC (by
  have:=yF ws
  have:=yF cs
  rw [dep,depS,depS,depS]
  omega)]
 walk_at "ev"
 rw [a2]
 walk_at "ev"
theorem law_true:∀ ns:List Int,ns.length<=63->zKv [.lst (ns.map D.int)]=.ok (.v (.bl true)):=by
 intro ns hl
 generalize hp:ns.getD 0 0=plan
 obtain ⟨cs0,e0,l0,h0⟩:=zGE ((ns.drop 1).take 6) plan (by rw [List.length_take];omega)
 have l6:cs0.length<=6:=by rw [l0,List.length_take];omega
 have p5:0<=plan % 5/\plan % 5 < 5:=⟨Int.emod_nonneg _ (by decide),Int.emod_lt_of_pos _ (by decide)⟩
 have tail:∀ cs:List Int,Cl cs->(wM [.val (.lst (ns.map D.int)),.val (.int plan),.val (.lst (cs.map D.int)),.un,.un,.un,.un]).bind fin=.ok (.v (.bl true)):=fun cs hc=>by
  have hi:=hc.hi
  obtain ⟨ws,ew,lw,hws⟩:=zDH ((List.range cs.length).map fun j=>ns.getD (7+j) 0) plan (by rw [List.length_map,List.length_range];omega)
  rw [List.length_map,List.length_range] at lw
  have go:=@zHQ ns ws cs plan ⟨lw,fun c h=>(hws c h).1,fun c h=>(hws c h).2⟩ hc
  unfold wM
  generalize hK:(zM:Sv)=K at go ⊢
  walk_at "ev"
  rw [yW (by omega) (by omega)]
  walk_at "ev"
  rw [show rng 0 ((cs.length:Int)).toNat 1=(List.range cs.length).map fun j:Nat=>D.int (j:Int) by unfold rng;rw [Int.toNat_natCast];exact List.map_congr_left fun j _=>by rw [show (0:Int)+(j:Int) * 1=(j:Int) by omega]]
  rw [eQ (u:=fun j:Nat=>D.int (j:Int)) (g:=fun j=>D.int (ns.getD (7+j) 0)) (by rw [List.length_range];omega) (fun j hj=>by
   walk_at "ev"
   rw [pB ns _ (by omega),show (7+(j:Int)).toNat=7+j by omega]
   walk_at "ev")]
  walk_at "ev"
  rw [show ((List.range cs.length).map fun j=>D.int (ns.getD (7+j) 0))=((List.range cs.length).map fun j=>ns.getD (7+j) 0).map D.int by rw [List.map_map];rfl,ew]
  walk_at "ev"
  exact go
 unfold zKv zEq zFV
 generalize hK:(wM:Sv)=K at tail ⊢
 walk_at "ev"
 rw [pB ns 0 (by decide)]
 walk_at "ev"
 rw [hp,zFt (by decide) (by decide),<-List.map_drop,<-List.map_take]
 rw [show ((1:Int).toNat)=1 from rfl,show ((7:Int).toNat - 1)=6 from rfl,e0]
 walk_at "ev"
 by_cases z:cs0=[]
 ·subst z
  rw [show oEq (.lst (([]:List Int).map D.int)) (.lst [])=.ok (.bl true) from rfl]
  walk_at "ev"
  exact tail [plan % 5] ⟨fun c h=>by rw [List.mem_singleton.mp h];exact p5.1,fun c h=>by rw [List.mem_singleton.mp h];omega,Nat.le_refl 1,by show 1<=12;decide⟩
 ·rw [show oEq (.lst (cs0.map D.int)) (.lst [])=.ok (.bl false) by
   unfold oEq
   rw [if_pos (Nat.le_trans (yF cs0) (by decide))]
   obtain ⟨a,r,rfl⟩:=List.exists_cons_of_ne_nil z
   rfl]
  walk_at "ev"
  exact tail cs0 ⟨fun c h=>(h0 c h).1,fun c h=>(h0 c h).2,List.length_pos_iff.mpr z,by omega⟩
end Lw
namespace Lw
open PySem PySem.Spec PyProof.Rows L2 L3
def top (i:Nat):Stmt:=PySem.Challenge.pw_catchhall_k20_even_and_lacking_lines.main.body.getD i (.Pass ⟨0,0,0,0⟩)
abbrev gI:Stmt:=top 9
theorem cG:FnScope ["one", "two", "rest"] ["one", "two"] (aK gI):=⟨rfl,rfl,rfl,by decide +kernel,rfl,by decide +kernel,by decide +kernel⟩
abbrev zFU:Stmt:=top 10
theorem zBO:FnScope ["top", "bottom", "divisor"] ["top", "bottom"] (aK zFU):=⟨rfl,rfl,rfl,by decide +kernel,rfl,by decide +kernel,by decide +kernel⟩
abbrev zBq:Stmt:=top 11
theorem zHi:FnScope ["number"] ["number"] (aK zBq):=⟨rfl,rfl,rfl,by decide +kernel,rfl,by decide +kernel,by decide +kernel⟩
abbrev zEF:Stmt:=top 12
theorem zJG:FnScope ["one", "two"] ["one", "two"] (aK zEF):=⟨rfl,rfl,rfl,by decide +kernel,rfl,by decide +kernel,by decide +kernel⟩
abbrev zCj:Stmt:=top 13
theorem zHj:FnScope ["one", "two"] ["one", "two"] (aK zCj):=⟨rfl,rfl,rfl,by decide +kernel,rfl,by decide +kernel,by decide +kernel⟩
abbrev zCk:Stmt:=top 14
theorem zHM:FnScope ["one", "two"] ["one", "two"] (aK zCk):=⟨rfl,rfl,rfl,by decide +kernel,rfl,by decide +kernel,by decide +kernel⟩
abbrev zFd:Stmt:=top 15
theorem zJE:FnScope ["one", "two"] ["one", "two"] (aK zFd):=⟨rfl,rfl,rfl,by decide +kernel,rfl,by decide +kernel,by decide +kernel⟩
abbrev zFv:Stmt:=top 16
theorem zJn:FnScope ["one", "two"] ["one", "two"] (aK zFv):=⟨rfl,rfl,rfl,by decide +kernel,rfl,by decide +kernel,by decide +kernel⟩
abbrev zB:Stmt:=top 17
theorem zGu:FnScope ["one", "two"] ["one", "two"] (aK zB):=⟨rfl,rfl,rfl,by decide +kernel,rfl,by decide +kernel,by decide +kernel⟩
abbrev gK:Stmt:=top 18
theorem oT:FnScope ["some", "bottom", "each"] ["some"] (aK gK):=⟨rfl,rfl,rfl,by decide +kernel,rfl,by decide +kernel,by decide +kernel⟩
abbrev tL:Stmt:=top 22
theorem qD:FnScope ["points", "kept", "point"] ["points"] (aK tL):=⟨rfl,rfl,rfl,by decide +kernel,rfl,by decide +kernel,by decide +kernel⟩
abbrev lG:Stmt:=top 23
theorem gM:FnScope ["points", "spot", "ahead", "point"] ["points"] (aK lG):=⟨rfl,rfl,rfl,by decide +kernel,rfl,by decide +kernel,by decide +kernel⟩
abbrev lB:Stmt:=top 24
theorem fA:FnScope ["ahead", "point", "later", "rise", "later_rise", "run", "later_run"] ["ahead", "point", "later"] (aK lB):=⟨rfl,rfl,rfl,by decide +kernel,rfl,by decide +kernel,by decide +kernel⟩
abbrev rM:Stmt:=top 25
theorem rN:FnScope ["line", "end"] ["line"] (aK rM):=⟨rfl,rfl,rfl,by decide +kernel,rfl,by decide +kernel,by decide +kernel⟩
abbrev wY:Stmt:=top 30
theorem zFy:FnScope ["way", "weights", "claims"] ["way", "weights", "claims"] (aK wY):=⟨rfl,rfl,rfl,by decide +kernel,rfl,by decide +kernel,by decide +kernel⟩
abbrev lF:Stmt:=top 31
theorem xO:FnScope ["way"] ["way"] (aK lF):=⟨rfl,rfl,rfl,by decide +kernel,rfl,by decide +kernel,by decide +kernel⟩
abbrev iE:Stmt:=top 32
theorem kE:FnScope ["claims", "claim"] ["claims"] (aK iE):=⟨rfl,rfl,rfl,by decide +kernel,rfl,by decide +kernel,by decide +kernel⟩
abbrev gG:Stmt:=top 33
theorem fL:FnScope ["way", "weights", "many", "due", "weight"] ["way", "weights", "many"] (aK gG):=⟨rfl,rfl,rfl,by decide +kernel,rfl,by decide +kernel,by decide +kernel⟩
abbrev jC:Stmt:=top 34
theorem tK:FnScope ["way"] ["way"] (aK jC):=⟨rfl,rfl,rfl,by decide +kernel,rfl,by decide +kernel,by decide +kernel⟩
abbrev dN:Stmt:=top 35
theorem dY:FnScope ["way", "weights", "claims", "catch", "most", "lacking"] ["way", "weights", "claims", "catch"] (aK dN):=⟨rfl,rfl,rfl,by decide +kernel,rfl,by decide +kernel,by decide +kernel⟩
abbrev mZ:Stmt:=top 36
theorem eI:FnScope ["claims", "catch", "left", "amounts", "claim", "amount"] ["claims", "catch"] (aK mZ):=⟨rfl,rfl,rfl,by decide +kernel,rfl,by decide +kernel,by decide +kernel⟩
abbrev kU:Stmt:=top 37
theorem cM:FnScope ["weights", "claims", "catch", "left", "weight", "amounts", "spot", "by_weight"] ["weights", "claims", "catch"] (aK kU):=⟨rfl,rfl,rfl,by decide +kernel,rfl,by decide +kernel,by decide +kernel⟩
abbrev jR:Stmt:=top 38
theorem zAN:FnScope ["weights", "claims"] ["weights", "claims"] (aK jR):=⟨rfl,rfl,rfl,by decide +kernel,rfl,by decide +kernel,by decide +kernel⟩
abbrev iK:Stmt:=top 39
theorem gN:FnScope ["claims", "catch", "most", "part"] ["claims", "catch"] (aK iK):=⟨rfl,rfl,rfl,by decide +kernel,rfl,by decide +kernel,by decide +kernel⟩
abbrev iS:Stmt:=top 40
theorem kC:FnScope ["claims", "catch", "ones"] ["claims", "catch"] (aK iS):=⟨rfl,rfl,rfl,by decide +kernel,rfl,by decide +kernel,by decide +kernel⟩
abbrev iF:Stmt:=top 42
theorem gB:FnScope ["way", "weights", "claims", "joints", "dealings"] ["way", "weights", "claims"] (aK iF):=⟨rfl,rfl,rfl,by decide +kernel,rfl,by decide +kernel,by decide +kernel⟩
abbrev pA:Stmt:=top 43
theorem zDT:FnScope ["joints", "dealings", "spot"] ["joints", "dealings", "spot"] (aK pA):=⟨rfl,rfl,rfl,by decide +kernel,rfl,by decide +kernel,by decide +kernel⟩
abbrev iA:Stmt:=top 44
theorem fZ:FnScope ["way", "weights", "claims", "most", "early"] ["way", "weights", "claims"] (aK iA):=⟨rfl,rfl,rfl,by decide +kernel,rfl,by decide +kernel,by decide +kernel⟩
abbrev lQ:Stmt:=top 45
theorem eY:FnScope ["claims", "filled", "joints", "claim"] ["claims"] (aK lQ):=⟨rfl,rfl,rfl,by decide +kernel,rfl,by decide +kernel,by decide +kernel⟩
abbrev jQ:Stmt:=top 46
theorem cD:FnScope ["weights", "claims", "filled", "weight", "levels", "joints", "spot"] ["weights", "claims"] (aK jQ):=⟨rfl,rfl,rfl,by decide +kernel,rfl,by decide +kernel,by decide +kernel⟩
abbrev lX:Stmt:=top 47
theorem sB:FnScope ["joints", "most"] ["joints", "most"] (aK lX):=⟨rfl,rfl,rfl,by decide +kernel,rfl,by decide +kernel,by decide +kernel⟩
abbrev fO:Stmt:=top 48
theorem fE:FnScope ["joints", "kept", "joint"] ["joints"] (aK fO):=⟨rfl,rfl,rfl,by decide +kernel,rfl,by decide +kernel,by decide +kernel⟩
abbrev kB:Stmt:=top 50
theorem vF:FnScope ["script", "k"] ["script", "k"] (aK kB):=⟨rfl,rfl,rfl,by decide +kernel,rfl,by decide +kernel,by decide +kernel⟩
abbrev pZ:Stmt:=top 51
theorem eA:FnScope ["top", "bottom", "one", "other", "rest"] ["top", "bottom"] (aK pZ):=⟨rfl,rfl,rfl,by decide +kernel,rfl,by decide +kernel,by decide +kernel⟩
abbrev pM:Stmt:=top 52
theorem zCn:FnScope ["one", "two"] ["one", "two"] (aK pM):=⟨rfl,rfl,rfl,by decide +kernel,rfl,by decide +kernel,by decide +kernel⟩
abbrev mO:Stmt:=top 53
theorem zAo:FnScope ["one", "two"] ["one", "two"] (aK mO):=⟨rfl,rfl,rfl,by decide +kernel,rfl,by decide +kernel,by decide +kernel⟩
abbrev mY:Stmt:=top 54
theorem zQ:FnScope ["one", "two"] ["one", "two"] (aK mY):=⟨rfl,rfl,rfl,by decide +kernel,rfl,by decide +kernel,by decide +kernel⟩
abbrev pP:Stmt:=top 55
theorem zCh:FnScope ["one", "two"] ["one", "two"] (aK pP):=⟨rfl,rfl,rfl,by decide +kernel,rfl,by decide +kernel,by decide +kernel⟩
abbrev fJ:Stmt:=top 56
theorem iP:FnScope ["found", "number"] ["found"] (aK fJ):=⟨rfl,rfl,rfl,by decide +kernel,rfl,by decide +kernel,by decide +kernel⟩
abbrev lO:Stmt:=top 57
theorem cA:FnScope ["points", "told", "k", "straight", "run", "rise", "more", "up"] ["points"] (aK lO):=⟨rfl,rfl,rfl,by decide +kernel,rfl,by decide +kernel,by decide +kernel⟩
abbrev mV:Stmt:=top 58
theorem fU:FnScope ["line", "x", "k", "run", "rise", "part"] ["line", "x"] (aK mV):=⟨rfl,rfl,rfl,by decide +kernel,rfl,by decide +kernel,by decide +kernel⟩
abbrev qE:Stmt:=top 59
theorem nG:FnScope ["found", "point", "k"] ["found"] (aK qE):=⟨rfl,rfl,rfl,by decide +kernel,rfl,by decide +kernel,by decide +kernel⟩
abbrev iX:Stmt:=top 60
theorem hU:FnScope ["found", "claims", "line", "claim"] ["found", "claims"] (aK iX):=⟨rfl,rfl,rfl,by decide +kernel,rfl,by decide +kernel,by decide +kernel⟩
abbrev lP:Stmt:=top 61
theorem gW:FnScope ["cells", "plan", "claims", "cell", "mix"] ["cells", "plan"] (aK lP):=⟨rfl,rfl,rfl,by decide +kernel,rfl,by decide +kernel,by decide +kernel⟩
abbrev jU:Stmt:=top 62
theorem fS:FnScope ["cells", "plan", "weights", "cell", "mix"] ["cells", "plan"] (aK jU):=⟨rfl,rfl,rfl,by decide +kernel,rfl,by decide +kernel,by decide +kernel⟩
abbrev rP:Stmt:=top 63
theorem zDA:FnScope ["one", "two"] ["one", "two"] (aK rP):=⟨rfl,rfl,rfl,by decide +kernel,rfl,by decide +kernel,by decide +kernel⟩
abbrev mU:Stmt:=top 64
theorem iU:FnScope ["some", "found", "one"] ["some"] (aK mU):=⟨rfl,rfl,rfl,by decide +kernel,rfl,by decide +kernel,by decide +kernel⟩
abbrev lI:Stmt:=top 65
theorem eR:FnScope ["weights", "claims", "levels", "weight", "claim", "level"] ["weights", "claims"] (aK lI):=⟨rfl,rfl,rfl,by decide +kernel,rfl,by decide +kernel,by decide +kernel⟩
abbrev gP:Stmt:=top 66
theorem uW:FnScope ["weights", "claims", "level"] ["weights", "claims", "level"] (aK gP):=⟨rfl,rfl,rfl,by decide +kernel,rfl,by decide +kernel,by decide +kernel⟩
abbrev cX:Stmt:=top 67
theorem aX:FnScope ["found", "weights", "claims", "levels", "full_at", "line", "point", "halves", "level", "got", "much", "k"] ["found", "weights", "claims"] (aK cX):=⟨rfl,rfl,rfl,by decide +kernel,rfl,by decide +kernel,by decide +kernel⟩
abbrev qA:Stmt:=top 68
theorem mK:FnScope ["script", "plan", "claims", "weights", "handed", "found", "lacks"] ["script"] (aK qA):=⟨rfl,rfl,rfl,by decide +kernel,rfl,by decide +kernel,by decide +kernel⟩
structure Bt (mg:Str->Option Value):Prop where
 abs:mg "abs" = none
 sorted:mg "sorted" = none
 range:mg "range" = none
 len:mg "len" = none
 tuple:mg "tuple" = none
 reversed:mg "reversed" = none
 sum:mg "sum" = none
 zip:mg "zip" = none
 isinstance:mg "isinstance" = none
 bool:mg "bool" = none
 int:mg "int" = none
 list:mg "list" = none
structure Kt (K:PySem.W.Frag):Prop where
 bool:Kit K "bool"
 int:Kit K "int"
 list:Kit K "list"
 tuple:Kit K "tuple"
structure Ct (K:PySem.W.Frag) (mg:Str->Option Value):Prop where
 ACROSS:∃ v u,mg "ACROSS" = some u/\cS v u/\IsD K (fun _=>none) v d_ACROSS
 HALF:∃ v u,mg "HALF" = some u/\cS v u/\IsD K (fun _=>none) v d_HALF
 NOUGHT:∃ v u,mg "NOUGHT" = some u/\cS v u/\IsD K (fun _=>none) v gU
 UP:∃ v u,mg "UP" = some u/\cS v u/\IsD K (fun _=>none) v d_UP
 WEIGHTED:∃ v u,mg "WEIGHTED" = some u/\cS v u/\IsD K (fun _=>none) v d_WEIGHTED
 CONTRARY:∃ a,IsTab K mg "CONTRARY" aW a
structure Rt (K:PySem.W.Frag) (mg:Str->Option Value):Prop where
 BadClaim:∃ C,Err K mg "BadClaim" C
 BadLine:∃ C,Err K mg "BadLine" C
 BadWay:∃ C,Err K mg "BadWay" C
 BadWeights:∃ C,Err K mg "BadWeights" C
 NoFraction:∃ C,Err K mg "NoFraction" C
structure Et (K:PySem.W.Frag) (mg:Str->Option Value):Prop where
theorem zNC {K:PySem.W.Frag} {h:Heap} {mg:Str->Option Value} {t0 t1 t2 t3 t4 t5 t6 t7:Tok} {pHALF0:Addr} {o_pHALF0:Option Addr} {n_pHALF0:Nat} {s_pHALF0:Array (Option Value)} {pNOUGHT1:Addr} {o_pNOUGHT1:Option Addr} {n_pNOUGHT1:Nat} {s_pNOUGHT1:Array (Option Value)} {pWEIGHTED2:Addr} {o_pWEIGHTED2:Option Addr} {n_pWEIGHTED2:Nat} {s_pWEIGHTED2:Array (Option Value)} {a_CONTRARY:Addr} (X:K.In h) (G:h.Ns mainGlobals mg) (n_ACROSS:PySem.W.nsIn K mainGlobals "ACROSS" = some (some (.int (0) t0))) (n_HALF:PySem.W.nsIn K mainGlobals "HALF" = some (some (.ref pHALF0))) (pHALF0_l:K.lookup pHALF0=some ⟨.type "tuple", o_pHALF0,.seq #[.int (1) t1,.int (2) t2] n_pHALF0,s_pHALF0⟩) (n_NOUGHT:PySem.W.nsIn K mainGlobals "NOUGHT" = some (some (.ref pNOUGHT1))) (pNOUGHT1_l:K.lookup pNOUGHT1=some ⟨.type "tuple", o_pNOUGHT1,.seq #[.int (0) t3,.int (1) t4] n_pNOUGHT1,s_pNOUGHT1⟩) (n_UP:PySem.W.nsIn K mainGlobals "UP" = some (some (.int (1) t5))) (n_WEIGHTED:PySem.W.nsIn K mainGlobals "WEIGHTED" = some (some (.ref pWEIGHTED2))) (pWEIGHTED2_l:K.lookup pWEIGHTED2=some ⟨.type "tuple", o_pWEIGHTED2,.seq #[.str "even" t6,.str "lack" t7] n_pWEIGHTED2,s_pWEIGHTED2⟩) (n_CONTRARY:PySem.W.nsIn K mainGlobals "CONTRARY" = some (some (.ref a_CONTRARY))) (aW:PyProof.Rows.KTD.tabLook (PyProof.Rows.KTD.datLooks fun a=>K.lookup a) (fun a=>K.lookup a) a_CONTRARY (zHG Lw.aW)=true):Ct K mg:=⟨⟨.int (0),_,PySem.W.mg_of X G n_ACROSS,⟨_,rfl⟩,(.int _)⟩,⟨.ref pHALF0,_,PySem.W.mg_of X G n_HALF,rfl,(.tup (.inr ⟨_,_,_,pHALF0_l,rfl,rfl,Nat.le_of_ble_eq_true rfl,(.cons (show cS (.int (1)) _ from ⟨_,rfl⟩) (.cons (show cS (.int (2)) _ from ⟨_,rfl⟩) .nil))⟩) (.cons (.int _) (.cons (.int _) .nil)))⟩,⟨.ref pNOUGHT1,_,PySem.W.mg_of X G n_NOUGHT,rfl,(.tup (.inr ⟨_,_,_,pNOUGHT1_l,rfl,rfl,Nat.le_of_ble_eq_true rfl,(.cons (show cS (.int (0)) _ from ⟨_,rfl⟩) (.cons (show cS (.int (1)) _ from ⟨_,rfl⟩) .nil))⟩) (.cons (.int _) (.cons (.int _) .nil)))⟩,⟨.int (1),_,PySem.W.mg_of X G n_UP,⟨_,rfl⟩,(.int _)⟩,⟨.ref pWEIGHTED2,_,PySem.W.mg_of X G n_WEIGHTED,rfl,(.tup (.inr ⟨_,_,_,pWEIGHTED2_l,rfl,rfl,Nat.le_of_ble_eq_true rfl,(.cons (show cS (.str "even") _ from ⟨_,rfl⟩) (.cons (show cS (.str "lack") _ from ⟨_,rfl⟩) .nil))⟩) (.cons (.str _) (.cons (.str _) .nil)))⟩,⟨a_CONTRARY,PySem.W.mg_of X G n_CONTRARY,fun h X=>PyProof.Rows.KTD.text_of_look X aW⟩⟩
theorem zNu {K:PySem.W.Frag} {h:Heap} {mg:Str->Option Value} {C_BadClaim:Addr} {C_BadLine:Addr} {C_BadWay:Addr} {C_BadWeights:Addr} {C_NoFraction:Addr} (X:K.In h) (G:h.Ns mainGlobals mg) (n_BadClaim:PySem.W.nsIn K mainGlobals "BadClaim" = some (some (.ref C_BadClaim))) (x_BadClaim:PySem.W.excIn K C_BadClaim [.type "ValueError", .type "Exception", .type "BaseException", .type "object"] "ValueError.__new__" = true) (n_BadLine:PySem.W.nsIn K mainGlobals "BadLine" = some (some (.ref C_BadLine))) (x_BadLine:PySem.W.excIn K C_BadLine [.type "ValueError", .type "Exception", .type "BaseException", .type "object"] "ValueError.__new__" = true) (n_BadWay:PySem.W.nsIn K mainGlobals "BadWay" = some (some (.ref C_BadWay))) (x_BadWay:PySem.W.excIn K C_BadWay [.type "ValueError", .type "Exception", .type "BaseException", .type "object"] "ValueError.__new__" = true) (n_BadWeights:PySem.W.nsIn K mainGlobals "BadWeights" = some (some (.ref C_BadWeights))) (x_BadWeights:PySem.W.excIn K C_BadWeights [.type "ValueError", .type "Exception", .type "BaseException", .type "object"] "ValueError.__new__" = true) (n_NoFraction:PySem.W.nsIn K mainGlobals "NoFraction" = some (some (.ref C_NoFraction))) (x_NoFraction:PySem.W.excIn K C_NoFraction [.type "ValueError", .type "Exception", .type "BaseException", .type "object"] "ValueError.__new__" = true):Rt K mg:=⟨zAC X G n_BadClaim x_BadClaim PySem.F.excBase_ValueError,zAC X G n_BadLine x_BadLine PySem.F.excBase_ValueError,zAC X G n_BadWay x_BadWay PySem.F.excBase_ValueError,zAC X G n_BadWeights x_BadWeights PySem.F.excBase_ValueError,zAC X G n_NoFraction x_NoFraction PySem.F.excBase_ValueError⟩
theorem zNg {K:PySem.W.Frag} {h:Heap} {mg:Str->Option Value} (X:K.In h) (G:h.Ns mainGlobals mg):Et K mg:=⟨⟩
section
variable {P:Program} {w:World} {K:PySem.W.Frag} {mg:Str->Option Value} {base:Heap} {k:Nat} {f:Addr} {fd:FuncData}
theorem pO (F:Fn K mg "common_divisor" gI ["one", "two"] f fd) (B:Bt mg) (KT:Kt K) (C:Ct K mg) (R:Rt K mg) (ET:Et K mg)  : CanM P w K mg base (k+1) "common_divisor" ["one", "two"] cY:=
  aT F cG fun cdv A outer s H E G W WR=>(aI (bJ (i:=0) cG.nd rfl (Or.inl rfl) (aY rE zCW rfl B.abs boot_abs (aA (aB 0 (pv 0)) aF aD)))
 (aI (bJ (i:=1) cG.nd rfl (Or.inl rfl) (aY rE zCW rfl B.abs boot_abs (aA (aB 1 (pv 1)) aF aD)))
 (aI (zEp W.own (tst (neA W.u) zGL (aB 1 (pv 1)) (aS aH fun _=>.int _) (bK _)) (aI (bJ (i:=2) cG.nd rfl (Or.inl rfl) (bD gJ qX (aB 0 (pv 0)) (aB 1 (pv 1))))
 (aI (bJ (i:=0) cG.nd rfl (Or.inl rfl) (aB 1 (pv 1)))
 (aM (bJ (i:=1) cG.nd rfl (Or.inl rfl) (aB 2 (pv 2)))))))
 (aM (cK (aB 0 (pv 0)))))))
theorem zHc (F:Fn K mg "whole" zBq ["number"] f fd) (B:Bt mg) (KT:Kt K) (C:Ct K mg) (R:Rt K mg) (ET:Et K mg)  : CanM P w K mg base (k+1) "whole" ["number"] bV:=
 aT F zHi fun cdv A outer s H E G W WR=>(aM (cK (fI (aA (aB 0 (pv 0)) (aA (aS aH fun _=>.int _) aF bO) aD))))
theorem zKD (F:Fn K mg "less" zFv ["one", "two"] f fd) (B:Bt mg) (KT:Kt K) (C:Ct K mg) (R:Rt K mg) (ET:Et K mg)  : CanM P w K mg base (k+1) "less" ["one", "two"] jN:=
 aT F zJn fun cdv A outer s H E G W WR=>(aM (cK (qJ xB zHL (bD bU gF (aO aG bE (aB 0 (pv 0)) (aS aH fun _=>.int _) (fun _ _=>rfl)) (aO aG bE (aB 1 (pv 1)) (aS aH fun _=>.int _) (fun _ _=>rfl))) (bD bU gF (aO aG bE (aB 1 (pv 1)) (aS aH fun _=>.int _) (fun _ _=>rfl)) (aO aG bE (aB 0 (pv 0)) (aS aH fun _=>.int _) (fun _ _=>rfl))) (bK _))))
theorem zFR:RankDef gK:=⟨rfl,rfl,rfl,rfl,rfl,fun _ _ _=>⟨_,_,rfl,rfl,rfl⟩⟩
theorem zGB (F:Fn K mg "ranked" gK ["some"] f fd) (B:Bt mg) (KT:Kt K) (C:Ct K mg) (R:Rt K mg) (ET:Et K mg) {T:Addr} (hT:nX K mg T) (hB:BMn base mg):CanR P w K mg base (k+1) iM:=
 zKj F oT zFR hT hB B.sorted B.range B.len rfl fun cdv A outer s H E G W WR=>⟨(bJ (i:=1) oT.nd rfl (Or.inr rfl) (aS aH fun _=>.int _)),(iI W.own W.calm (jG (aB 0 (pv 0))) (cT (i:=2) oT.nd rfl (Or.inl rfl)) bI (aM (bJ (i:=1) oT.nd rfl (Or.inr rfl) (bD bU gF (aB 1 (pv 1)) (aO aG bE (aB 2 (pv 2)) (aS aH fun _=>.int _) (fun _ _=>rfl))))))⟩
theorem xW (F:Fn K mg "refuse_way" lF ["way"] f fd) (B:Bt mg) (KT:Kt K) (C:Ct K mg) (R:Rt K mg) (ET:Et K mg)  : CanM P w K mg base (k+1) "refuse_way" ["way"] dO:=
 aT F xO fun cdv A outer s H E G W WR=>(aM (iZ (zHW C.CONTRARY.choose_spec rfl (aB 0 (pv 0)) (by with_unfolding_all rfl)) (aM (jF W WR R.BadWay rfl (aA (aS eH fun _=>.str _) aF bO))) bL))
theorem qQ (F:Fn K mg "refuse_claims" iE ["claims"] f fd) (B:Bt mg) (KT:Kt K) (C:Ct K mg) (R:Rt K mg) (ET:Et K mg)  : CanM P w K mg base (k+1) "refuse_claims" ["claims"] dM:=
  aT F kE fun cdv A outer s H E G W WR=>(aI (iZ (tst (eqA W.u) wL (aY aR dH rfl B.len PySem.boot_len (aA (aB 0 (pv 0)) aF aD)) (aS aH fun _=>.int _) (bK _)) (aM (jF W WR R.BadClaim rfl (aA (aS eH fun _=>.str _) aF bO))) bL)
 (aM (iI W.own W.calm (jG (aB 0 (pv 0))) (cT (i:=1) kE.nd rfl (Or.inl rfl)) bI (aM (iZ (tst xB zHL (aB 1 (pv 1)) (aS aH fun _=>.int _) (bK _)) (aM (jF W WR R.BadClaim rfl (aA (aS eH fun _=>.str _) aF bO))) bL)))))
theorem qB (F:Fn K mg "refuse_weights" gG ["way", "weights", "many"] f fd) (B:Bt mg) (KT:Kt K) (C:Ct K mg) (R:Rt K mg) (ET:Et K mg)  : CanM P w K mg base (k+1) "refuse_weights" ["way", "weights", "many"] bN:=
  aT F fL fun cdv A outer s H E G W WR=>(aI (bJ (i:=3) fL.nd rfl (Or.inl rfl) (zKT (tst (inA W.u) zOL (aB 0 (pv 0)) (bW rfl C.WEIGHTED) (by with_unfolding_all rfl)) (aB 2 (pv 2)) (aS aH fun _=>.int _)))
 (aI (iZ (tst (neA W.u) zGL (aY aR dH rfl B.len PySem.boot_len (aA (aB 1 (pv 1)) aF aD)) (aB 3 (pv 3)) (bK _)) (aM (jF W WR R.BadWeights rfl (aA (aS eH fun _=>.str _) aF bO))) bL)
 (aM (iI W.own W.calm (jG (aB 1 (pv 1))) (cT (i:=4) fL.nd rfl (Or.inl rfl)) bI (aM (iZ (PWd.pt (zEi (tst xB zHL (aB 4 (pv 4)) (aS aH fun _=>.int _) (bK _)) (rQ (tst zGw zLb (aB 4 (pv 4)) (bD zCa zJX (aS aH fun _=>.int _) (aS aH fun _=>.int _)) (bK _))))) (aM (jF W WR R.BadWeights rfl (aA (aS eH fun _=>.str _) aF bO))) bL))))))
theorem vO (F:Fn K mg "_law_cell_at" kB ["script", "k"] f fd) (B:Bt mg) (KT:Kt K) (C:Ct K mg) (R:Rt K mg) (ET:Et K mg)  : CanM P w K mg base (k+1) "_law_cell_at" ["script", "k"] dR:=
  aT F vF fun cdv A outer s H E G W WR=>(aI (iZ (tst xB zHL (aB 1 (pv 1)) (aY aR dH rfl B.len PySem.boot_len (aA (aB 0 (pv 0)) aF aD)) (bK _)) (aM (cK (aO aG bE (aB 0 (pv 0)) (aB 1 (pv 1)) (fun _ _=>rfl)))) bL)
 (aM (cK (aS aH fun _=>.int _))))
theorem zBY (F:Fn K mg "_law_made" pZ ["top", "bottom"] f fd) (B:Bt mg) (KT:Kt K) (C:Ct K mg) (R:Rt K mg) (ET:Et K mg)  : CanM P w K mg base (k+1) "_law_made" ["top", "bottom"] cH:=
  aT F eA fun cdv A outer s H E G W WR=>(aI (bJ (i:=2) eA.nd rfl (Or.inl rfl) (aY rE zCW rfl B.abs boot_abs (aA (aB 0 (pv 0)) aF aD)))
 (aI (bJ (i:=3) eA.nd rfl (Or.inl rfl) (aY rE zCW rfl B.abs boot_abs (aA (aB 1 (pv 1)) aF aD)))
 (aI (zEp W.own (tst zGw zLb (aB 3 (pv 3)) (aS aH fun _=>.int _) (bK _)) (aI (bJ (i:=4) eA.nd rfl (Or.inl rfl) (bD gJ qX (aB 2 (pv 2)) (aB 3 (pv 3))))
 (aI (bJ (i:=2) eA.nd rfl (Or.inl rfl) (aB 3 (pv 3)))
 (aM (bJ (i:=3) eA.nd rfl (Or.inl rfl) (aB 4 (pv 4)))))))
 (aI (iZ (tst xB zHL (aB 1 (pv 1)) (aS aH fun _=>.int _) (bK _)) (aM (bJ (i:=2) eA.nd rfl (Or.inl rfl) (bD jO pS (aS aH fun _=>.int _) (aB 2 (pv 2))))) bL)
 (aM (cK (fI (aA (bD iG vK (aB 0 (pv 0)) (aB 2 (pv 2))) (aA (bD iG vK (aB 1 (pv 1)) (aB 2 (pv 2))) aF bH) bH))))))))
theorem zBy (F:Fn K mg "_law_less" pP ["one", "two"] f fd) (B:Bt mg) (KT:Kt K) (C:Ct K mg) (R:Rt K mg) (ET:Et K mg)  : CanM P w K mg base (k+1) "_law_less" ["one", "two"] dD:=
 aT F zCh fun cdv A outer s H E G W WR=>(aM (cK (qJ xB zHL (bD bU gF (aO aG bE (aB 0 (pv 0)) (aS aH fun _=>.int _) (fun _ _=>rfl)) (aO aG bE (aB 1 (pv 1)) (aS aH fun _=>.int _) (fun _ _=>rfl))) (bD bU gF (aO aG bE (aB 1 (pv 1)) (aS aH fun _=>.int _) (fun _ _=>rfl)) (aO aG bE (aB 0 (pv 0)) (aS aH fun _=>.int _) (fun _ _=>rfl))) (bK _))))
theorem yY (F:Fn K mg "_law_claims" lP ["cells", "plan"] f fd) (B:Bt mg) (KT:Kt K) (C:Ct K mg) (R:Rt K mg) (ET:Et K mg)  : CanM P w K mg base (k+1) "_law_claims" ["cells", "plan"] fX:=
  aT F gW fun cdv A outer s H E G W WR=>(aI (uV (i:=2) gW.nd rfl (Or.inl rfl) (eN aF))
 (aI (iI W.own W.calm (jG (aB 0 (pv 0))) (cT (i:=3) gW.nd rfl (Or.inl rfl)) bI (aI (bJ (i:=4) gW.nd rfl (Or.inl rfl) (bD gJ qX (bD jZ xV (bD bU gF (aB 3 (pv 3)) (aS aH fun _=>.int _)) (aS aH fun _=>.int _)) (aS aH fun _=>.int _)))
 (aM (xS (i:=2) (pv 2) (aO aG bE (PEf.d (eN (aA (bD gJ qX (bD iG vK (aB 4 (pv 4)) (aS aH fun _=>.int _)) (aS aH fun _=>.int _)) (aA (bD gJ qX (bD iG vK (aB 4 (pv 4)) (aS aH fun _=>.int _)) (aS aH fun _=>.int _)) (aA (bD gJ qX (aB 3 (pv 3)) (bD zCa zJX (aS aH fun _=>.int _) (aS aH fun _=>.int _))) aF bH) bH) bH))) (aO aG bE (PEf.d (eN (aA (aS aH fun _=>.int _) (aA (aS aH fun _=>.int _) (aA (aS aH fun _=>.int _) (aA (aS aH fun _=>.int _) aF bO) bO) bO) bO))) (bD gJ qX (aB 1 (pv 1)) (aS aH fun _=>.int _)) (fun _ _=>rfl)) (fun _ _=>rfl))))))
 (aM (iT 2 (pv 2)))))
theorem vD (F:Fn K mg "_law_weights" jU ["cells", "plan"] f fd) (B:Bt mg) (KT:Kt K) (C:Ct K mg) (R:Rt K mg) (ET:Et K mg)  : CanM P w K mg base (k+1) "_law_weights" ["cells", "plan"] eZ:=
  aT F fS fun cdv A outer s H E G W WR=>(aI (uV (i:=2) fS.nd rfl (Or.inl rfl) (eN aF))
 (aI (iI W.own W.calm (jG (aB 0 (pv 0))) (cT (i:=3) fS.nd rfl (Or.inl rfl)) bI (aI (bJ (i:=4) fS.nd rfl (Or.inl rfl) (bD gJ qX (bD jZ xV (bD bU gF (aB 3 (pv 3)) (aS aH fun _=>.int _)) (aS aH fun _=>.int _)) (aS aH fun _=>.int _)))
 (aM (xS (i:=2) (pv 2) (bD jZ xV (aS aH fun _=>.int _) (aO aG bE (PEf.d (eN (aA (bD gJ qX (bD iG vK (aB 4 (pv 4)) (aS aH fun _=>.int _)) (aS aH fun _=>.int _)) (aA (bD gJ qX (bD iG vK (aB 4 (pv 4)) (aS aH fun _=>.int _)) (bD zCa zJX (aS aH fun _=>.int _) (aS aH fun _=>.int _))) aF bH) bH))) (bD iG vK (bD gJ qX (bD iG vK (aB 1 (pv 1)) (aS aH fun _=>.int _)) (aS aH fun _=>.int _)) (aS aH fun _=>.int _)) (fun _ _=>rfl)))))))
 (aM (iT 2 (pv 2)))))
theorem zJz (F:Fn K mg "made" zFU ["top", "bottom"] f fd) (B:Bt mg) (KT:Kt K) (C:Ct K mg) (R:Rt K mg) (ET:Et K mg) (c_common_divisor:CanM P w K mg base k "common_divisor" ["one", "two"] cY):CanM P w K mg base (k+1) "made" ["top", "bottom"] iH:=
  aT F zBO fun cdv A outer s H E G W WR=>(aI (iZ (tst (eqA W.u) wL (aB 1 (pv 1)) (aS aH fun _=>.int _) (bK _)) (aM (jF W WR R.NoFraction rfl (aA (aS eH fun _=>.str _) aF bO))) bL)
 (aI (bJ (i:=2) zBO.nd rfl (Or.inl rfl) (aL W c_common_divisor rfl (aA (aB 0 (pv 0)) (aA (aB 1 (pv 1)) aF aD) aD)))
 (aI (iZ (tst xB zHL (aB 1 (pv 1)) (aS aH fun _=>.int _) (bK _)) (aM (bJ (i:=2) zBO.nd rfl (Or.inl rfl) (sO (aB 2 (pv 2))))) bL)
 (aM (cK (fI (aA (bD iG vK (aB 0 (pv 0)) (aB 2 (pv 2))) (aA (bD iG vK (aB 1 (pv 1)) (aB 2 (pv 2))) aF bH) bH)))))))
theorem zEI (F:Fn K mg "lesser" zB ["one", "two"] f fd) (B:Bt mg) (KT:Kt K) (C:Ct K mg) (R:Rt K mg) (ET:Et K mg) (c_less:CanM P w K mg base k "less" ["one", "two"] jN):CanM P w K mg base (k+1) "lesser" ["one", "two"] jY:=
 aT F zGu fun cdv A outer s H E G W WR=>(aM (cK (zKT (sT (aL W c_less rfl (aA (aB 0 (pv 0)) (aA (aB 1 (pv 1)) aF aD) aD))) (aB 0 (pv 0)) (aB 1 (pv 1)))))
theorem yA (F:Fn K mg "refuse_bad" lG ["points"] f fd) (B:Bt mg) (KT:Kt K) (C:Ct K mg) (R:Rt K mg) (ET:Et K mg) (c_less:CanM P w K mg base k "less" ["one", "two"] jN):CanM P w K mg base (k+1) "refuse_bad" ["points"] gE:=
  aT F gM fun cdv A outer s H E G W WR=>(aI (iZ (tst (eqA W.u) wL (aY aR dH rfl B.len PySem.boot_len (aA (aB 0 (pv 0)) aF aD)) (aS aH fun _=>.int _) (bK _)) (aM (jF W WR R.BadLine rfl (aA (aS eH fun _=>.str _) aF bO))) bL)
 (aI (iZ (tst (neA W.u) zGL (aO aG bE (aB 0 (pv 0)) (aS aH fun _=>.int _) (fun _ _=>rfl)) (fI (aA (bW rfl C.NOUGHT) (aA (bW rfl C.NOUGHT) aF aD) aD)) (bK _)) (aM (jF W WR R.BadLine rfl (aA (aS eH fun _=>.str _) aF bO))) bL)
 (aM (iI W.own W.calm (zCD rfl B.range (aA (aS aH fun _=>.int _) (aA (aY aR dH rfl B.len PySem.boot_len (aA (aB 0 (pv 0)) aF aD)) aF aQ) bO)) (cT (i:=1) gM.nd rfl (Or.inl rfl)) bI (aI (bJ (i:=2) gM.nd rfl (Or.inl rfl) (aO aG bE (aB 0 (pv 0)) (bD jO pS (aB 1 (pv 1)) (aS aH fun _=>.int _)) (fun _ _=>rfl)))
 (aI (bJ (i:=3) gM.nd rfl (Or.inl rfl) (aO aG bE (aB 0 (pv 0)) (aB 1 (pv 1)) (fun _ _=>rfl)))
 (aI (iZ (zBP (sT (aL W c_less rfl (aA (aO aG bE (aB 2 (pv 2)) (bW rfl C.ACROSS) (fun _ _=>rfl)) (aA (aO aG bE (aB 3 (pv 3)) (bW rfl C.ACROSS) (fun _ _=>rfl)) aF aN) aN)))) (aM (jF W WR R.BadLine rfl (aA (aS eH fun _=>.str _) aF bO))) bL)
 (aM (iZ (sT (aL W c_less rfl (aA (aO aG bE (aB 3 (pv 3)) (bW rfl C.UP) (fun _ _=>rfl)) (aA (aO aG bE (aB 2 (pv 2)) (bW rfl C.UP) (fun _ _=>rfl)) aF aN) aN))) (aM (jF W WR R.BadLine rfl (aA (aS eH fun _=>.str _) aF bO))) bL)))))))))
theorem zEA (F:Fn K mg "looked" wY ["way", "weights", "claims"] f fd) (B:Bt mg) (KT:Kt K) (C:Ct K mg) (R:Rt K mg) (ET:Et K mg) (c_refuse_way:CanM P w K mg base k "refuse_way" ["way"] dO) (c_refuse_claims:CanM P w K mg base k "refuse_claims" ["claims"] dM) (c_refuse_weights:CanM P w K mg base k "refuse_weights" ["way", "weights", "many"] bN):CanM P w K mg base (k+1) "looked" ["way", "weights", "claims"] nT:=
  aT F zFy fun cdv A outer s H E G W WR=>(aI (wE (aL W c_refuse_way rfl (aA (aB 0 (pv 0)) aF aD)))
 (aI (wE (aL W c_refuse_claims rfl (aA (aB 2 (pv 2)) aF aD)))
 (aM (wE (aL W c_refuse_weights rfl (aA (aB 0 (pv 0)) (aA (aB 1 (pv 1)) (aA (aY aR dH rfl B.len PySem.boot_len (aA (aB 2 (pv 2)) aF aD)) aF aQ) aD) aD))))))
theorem tJ (F:Fn K mg "contrary_way" jC ["way"] f fd) (B:Bt mg) (KT:Kt K) (C:Ct K mg) (R:Rt K mg) (ET:Et K mg) (c_refuse_way:CanM P w K mg base k "refuse_way" ["way"] dO):CanM P w K mg base (k+1) "contrary_way" ["way"] dF:=
  aT F tK fun cdv A outer s H E G W WR=>(aI (wE (aL W c_refuse_way rfl (aA (aB 0 (pv 0)) aF aD)))
 (aM (cK (zIU C.CONTRARY.choose_spec rfl (aB 0 (pv 0)) (fun _ _=>rfl)))))
theorem zE (F:Fn K mg "row_joints" lQ ["claims"] f fd) (B:Bt mg) (KT:Kt K) (C:Ct K mg) (R:Rt K mg) (ET:Et K mg) (c_whole:CanM P w K mg base k "whole" ["number"] bV):CanM P w K mg base (k+1) "row_joints" ["claims"] eM:=
  aT F eY fun cdv A outer s H E G W WR=>(aI (bJ (i:=1) eY.nd rfl (Or.inl rfl) (aS aH fun _=>.int _))
 (aI (uV (i:=2) eY.nd rfl (Or.inl rfl) (eN (aA (bW rfl C.NOUGHT) aF aD)))
 (aI (iI W.own W.calm (jG (aB 0 (pv 0))) (cT (i:=3) eY.nd rfl (Or.inl rfl)) bI (aI (zHZ (i:=1) eY.nd rfl (Or.inl rfl) (aB 3 (pv 3)) zIs zGn zDa)
 (aM (xS (i:=2) (pv 2) (aL W c_whole rfl (aA (aB 1 (pv 1)) aF aD))))))
 (aM (iT 2 (pv 2))))))
theorem oP (F:Fn K mg "without_doubles" fO ["joints"] f fd) (B:Bt mg) (KT:Kt K) (C:Ct K mg) (R:Rt K mg) (ET:Et K mg) (c_less:CanM P w K mg base k "less" ["one", "two"] jN):CanM P w K mg base (k+1) "without_doubles" ["joints"] cP:=
  aT F fE fun cdv A outer s H E G W WR=>(aI (uV (i:=1) fE.nd rfl (Or.inl rfl) (zCY (aB 0 (pv 0)) zJp (zBE (aS aH fun _=>.int _))))
 (aI (iI W.own W.calm (jG (aB 0 (pv 0))) (cT (i:=2) fE.nd rfl (Or.inl rfl)) bI (aM (iZ (PTd.frz (sT (aL W c_less rfl (aA (aO aG bE (aB 1 (pv 1)) (sO (aS aH fun _=>.int _)) (fun _ _=>rfl)) (aA (aB 2 (pv 2)) aF aD) aN)))) (aM (xS (i:=1) (pv 1) (aB 2 (pv 2)))) bL)))
 (aM (iT 1 (pv 1)))))
theorem zCl (F:Fn K mg "_law_plus" pM ["one", "two"] f fd) (B:Bt mg) (KT:Kt K) (C:Ct K mg) (R:Rt K mg) (ET:Et K mg) (c_law_made:CanM P w K mg base k "_law_made" ["top", "bottom"] cH):CanM P w K mg base (k+1) "_law_plus" ["one", "two"] dQ:=
 aT F zCn fun cdv A outer s H E G W WR=>(aM (cK (aL W c_law_made rfl (aA (bD jZ xV (bD bU gF (aO aG bE (aB 0 (pv 0)) (aS aH fun _=>.int _) (fun _ _=>rfl)) (aO aG bE (aB 1 (pv 1)) (aS aH fun _=>.int _) (fun _ _=>rfl))) (bD bU gF (aO aG bE (aB 1 (pv 1)) (aS aH fun _=>.int _) (fun _ _=>rfl)) (aO aG bE (aB 0 (pv 0)) (aS aH fun _=>.int _) (fun _ _=>rfl)))) (aA (bD bU gF (aO aG bE (aB 0 (pv 0)) (aS aH fun _=>.int _) (fun _ _=>rfl)) (aO aG bE (aB 1 (pv 1)) (aS aH fun _=>.int _) (fun _ _=>rfl))) aF bH) bH))))
theorem zAE (F:Fn K mg "_law_minus" mO ["one", "two"] f fd) (B:Bt mg) (KT:Kt K) (C:Ct K mg) (R:Rt K mg) (ET:Et K mg) (c_law_made:CanM P w K mg base k "_law_made" ["top", "bottom"] cH):CanM P w K mg base (k+1) "_law_minus" ["one", "two"] bY:=
 aT F zAo fun cdv A outer s H E G W WR=>(aM (cK (aL W c_law_made rfl (aA (bD jO pS (bD bU gF (aO aG bE (aB 0 (pv 0)) (aS aH fun _=>.int _) (fun _ _=>rfl)) (aO aG bE (aB 1 (pv 1)) (aS aH fun _=>.int _) (fun _ _=>rfl))) (bD bU gF (aO aG bE (aB 1 (pv 1)) (aS aH fun _=>.int _) (fun _ _=>rfl)) (aO aG bE (aB 0 (pv 0)) (aS aH fun _=>.int _) (fun _ _=>rfl)))) (aA (bD bU gF (aO aG bE (aB 0 (pv 0)) (aS aH fun _=>.int _) (fun _ _=>rfl)) (aO aG bE (aB 1 (pv 1)) (aS aH fun _=>.int _) (fun _ _=>rfl))) aF bH) bH))))
theorem zBk (F:Fn K mg "_law_times" mY ["one", "two"] f fd) (B:Bt mg) (KT:Kt K) (C:Ct K mg) (R:Rt K mg) (ET:Et K mg) (c_law_made:CanM P w K mg base k "_law_made" ["top", "bottom"] cH):CanM P w K mg base (k+1) "_law_times" ["one", "two"] bP:=
 aT F zQ fun cdv A outer s H E G W WR=>(aM (cK (aL W c_law_made rfl (aA (bD bU gF (aO aG bE (aB 0 (pv 0)) (aS aH fun _=>.int _) (fun _ _=>rfl)) (aO aG bE (aB 1 (pv 1)) (aS aH fun _=>.int _) (fun _ _=>rfl))) (aA (bD bU gF (aO aG bE (aB 0 (pv 0)) (aS aH fun _=>.int _) (fun _ _=>rfl)) (aO aG bE (aB 1 (pv 1)) (aS aH fun _=>.int _) (fun _ _=>rfl))) aF bH) bH))))
theorem oU (F:Fn K mg "_law_is_fraction" fJ ["found"] f fd) (B:Bt mg) (KT:Kt K) (C:Ct K mg) (R:Rt K mg) (ET:Et K mg) (c_law_made:CanM P w K mg base k "_law_made" ["top", "bottom"] cH):CanM P w K mg base (k+1) "_law_is_fraction" ["found"] cE:=
  aT F iP fun cdv A outer s H E G W WR=>(aI (iZ (PWd.pt (zEi (zBP (sT (sM KT.tuple rfl B.isinstance (aB 0 (pv 0)) (nN (v:=.ty "tuple") rfl B.tuple boot_tuple rfl)))) (rQ (tst (neA W.u) zGL (aY aR dH rfl B.len PySem.boot_len (aA (aB 0 (pv 0)) aF aD)) (aS aH fun _=>.int _) (bK _))))) (aM (cK (aS nK fun _=>.bl _))) bL)
 (aI (iI W.own W.calm (jG (aB 0 (pv 0))) (cT (i:=1) iP.nd rfl (Or.inl rfl)) bI (aM (iZ (PWd.pt (zEi (zBP (sT (sM KT.int rfl B.isinstance (aB 1 (pv 1)) (nN (v:=.ty "int") rfl B.int boot_int rfl)))) (rQ (sT (sM KT.bool rfl B.isinstance (aB 1 (pv 1)) (nN (v:=.ty "bool") rfl B.bool boot_bool rfl)))))) (aM (cK (aS nK fun _=>.bl _))) bL)))
 (aM (cK (zIK (qJ zGw zLb (aO aG bE (aB 0 (pv 0)) (aS aH fun _=>.int _) (fun _ _=>rfl)) (aS aH fun _=>.int _) (bK _)) (zIv (qJ (eqA W.u) wL (aL W c_law_made rfl (aA (aO aG bE (aB 0 (pv 0)) (aS aH fun _=>.int _) (fun _ _=>rfl)) (aA (aO aG bE (aB 0 (pv 0)) (aS aH fun _=>.int _) (fun _ _=>rfl)) aF aN) aN)) (aB 0 (pv 0)) (bK _))))))))
theorem zEb (F:Fn K mg "_law_min" rP ["one", "two"] f fd) (B:Bt mg) (KT:Kt K) (C:Ct K mg) (R:Rt K mg) (ET:Et K mg) (c_law_less:CanM P w K mg base k "_law_less" ["one", "two"] dD):CanM P w K mg base (k+1) "_law_min" ["one", "two"] lR:=
  aT F zDA fun cdv A outer s H E G W WR=>(aI (iZ (sT (aL W c_law_less rfl (aA (aB 1 (pv 1)) (aA (aB 0 (pv 0)) aF aD) aD))) (aM (cK (aB 1 (pv 1)))) bL)
 (aM (cK (aB 0 (pv 0)))))
theorem wV (F:Fn K mg "_law_levels" lI ["weights", "claims"] f fd) (B:Bt mg) (KT:Kt K) (C:Ct K mg) (R:Rt K mg) (ET:Et K mg) (c_law_made:CanM P w K mg base k "_law_made" ["top", "bottom"] cH):CanM P w K mg base (k+1) "_law_levels" ["weights", "claims"] fV:=
  aT F eR fun cdv A outer s H E G W WR=>(aI (uV (i:=2) eR.nd rfl (Or.inl rfl) (eN (aA (fI (aA (aS aH fun _=>.int _) (aA (aS aH fun _=>.int _) aF bO) bO)) aF gO)))
 (aI (iI W.own W.calm (zDI rfl B.zip (aA (aB 0 (pv 0)) (aA (aB 1 (pv 1)) aF aD) aD)) (zLO W.calm (yL (cT (i:=3) eR.nd rfl (Or.inl rfl)) (yL (cT (i:=4) eR.nd rfl (Or.inl rfl)) zIn)) (wK (wK zIP))) (zFh (rB bI (rB bI zFT))) (aI (bJ (i:=5) eR.nd rfl (Or.inl rfl) (aL W c_law_made rfl (aA (aB 4 (pv 4)) (aA (aB 3 (pv 3)) aF aD) aD)))
 (aM (iZ (PTd.frz (tst (zIj W.u) zFB (aB 5 (pv 5)) (aB 2 (pv 2)) (by with_unfolding_all rfl))) (aM (xS (i:=2) (pv 2) (aB 5 (pv 5)))) bL))))
 (aM (iT 2 (pv 2)))))
theorem zJa (F:Fn K mg "plus" zEF ["one", "two"] f fd) (B:Bt mg) (KT:Kt K) (C:Ct K mg) (R:Rt K mg) (ET:Et K mg) (c_made:CanM P w K mg base k "made" ["top", "bottom"] iH):CanM P w K mg base (k+1) "plus" ["one", "two"] mE:=
 aT F zJG fun cdv A outer s H E G W WR=>(aM (cK (aL W c_made rfl (aA (bD jZ xV (bD bU gF (aO aG bE (aB 0 (pv 0)) (aS aH fun _=>.int _) (fun _ _=>rfl)) (aO aG bE (aB 1 (pv 1)) (aS aH fun _=>.int _) (fun _ _=>rfl))) (bD bU gF (aO aG bE (aB 1 (pv 1)) (aS aH fun _=>.int _) (fun _ _=>rfl)) (aO aG bE (aB 0 (pv 0)) (aS aH fun _=>.int _) (fun _ _=>rfl)))) (aA (bD bU gF (aO aG bE (aB 0 (pv 0)) (aS aH fun _=>.int _) (fun _ _=>rfl)) (aO aG bE (aB 1 (pv 1)) (aS aH fun _=>.int _) (fun _ _=>rfl))) aF bH) bH))))
theorem zGX (F:Fn K mg "minus" zCj ["one", "two"] f fd) (B:Bt mg) (KT:Kt K) (C:Ct K mg) (R:Rt K mg) (ET:Et K mg) (c_made:CanM P w K mg base k "made" ["top", "bottom"] iH):CanM P w K mg base (k+1) "minus" ["one", "two"] cN:=
 aT F zHj fun cdv A outer s H E G W WR=>(aM (cK (aL W c_made rfl (aA (bD jO pS (bD bU gF (aO aG bE (aB 0 (pv 0)) (aS aH fun _=>.int _) (fun _ _=>rfl)) (aO aG bE (aB 1 (pv 1)) (aS aH fun _=>.int _) (fun _ _=>rfl))) (bD bU gF (aO aG bE (aB 1 (pv 1)) (aS aH fun _=>.int _) (fun _ _=>rfl)) (aO aG bE (aB 0 (pv 0)) (aS aH fun _=>.int _) (fun _ _=>rfl)))) (aA (bD bU gF (aO aG bE (aB 0 (pv 0)) (aS aH fun _=>.int _) (fun _ _=>rfl)) (aO aG bE (aB 1 (pv 1)) (aS aH fun _=>.int _) (fun _ _=>rfl))) aF bH) bH))))
theorem zHI (F:Fn K mg "times" zCk ["one", "two"] f fd) (B:Bt mg) (KT:Kt K) (C:Ct K mg) (R:Rt K mg) (ET:Et K mg) (c_made:CanM P w K mg base k "made" ["top", "bottom"] iH):CanM P w K mg base (k+1) "times" ["one", "two"] dL:=
 aT F zHM fun cdv A outer s H E G W WR=>(aM (cK (aL W c_made rfl (aA (bD bU gF (aO aG bE (aB 0 (pv 0)) (aS aH fun _=>.int _) (fun _ _=>rfl)) (aO aG bE (aB 1 (pv 1)) (aS aH fun _=>.int _) (fun _ _=>rfl))) (aA (bD bU gF (aO aG bE (aB 0 (pv 0)) (aS aH fun _=>.int _) (fun _ _=>rfl)) (aO aG bE (aB 1 (pv 1)) (aS aH fun _=>.int _) (fun _ _=>rfl))) aF bH) bH))))
theorem zJD (F:Fn K mg "over" zFd ["one", "two"] f fd) (B:Bt mg) (KT:Kt K) (C:Ct K mg) (R:Rt K mg) (ET:Et K mg) (c_made:CanM P w K mg base k "made" ["top", "bottom"] iH):CanM P w K mg base (k+1) "over" ["one", "two"] sK:=
 aT F zJE fun cdv A outer s H E G W WR=>(aM (cK (aL W c_made rfl (aA (bD bU gF (aO aG bE (aB 0 (pv 0)) (aS aH fun _=>.int _) (fun _ _=>rfl)) (aO aG bE (aB 1 (pv 1)) (aS aH fun _=>.int _) (fun _ _=>rfl))) (aA (bD bU gF (aO aG bE (aB 0 (pv 0)) (aS aH fun _=>.int _) (fun _ _=>rfl)) (aO aG bE (aB 1 (pv 1)) (aS aH fun _=>.int _) (fun _ _=>rfl))) aF bH) bH))))
theorem zAd (F:Fn K mg "levels_of" jR ["weights", "claims"] f fd) (B:Bt mg) (KT:Kt K) (C:Ct K mg) (R:Rt K mg) (ET:Et K mg) (c_made:CanM P w K mg base k "made" ["top", "bottom"] iH):CanM P w K mg base (k+1) "levels_of" ["weights", "claims"] dJ:=
 aT F zAN fun cdv A outer s H E G W WR=>(aM (fT (oK (N:=["weights", "claims"]) W (by decide +kernel) rfl (sc:=aK jR) rfl rfl (by decide +kernel) (zDI rfl B.zip (aA (aB 1 (pv 1)) (aA (aB 0 (pv 0)) aF aD) aD)) (fun C2 s2 H2 fp2 G W=>(aL W c_made rfl (aA (aB 2 (pv 2)) (aA (aB 3 (pv 3)) aF aD) aD))))))
theorem xK (F:Fn K mg "_law_fewest" lO ["points"] f fd) (B:Bt mg) (KT:Kt K) (C:Ct K mg) (R:Rt K mg) (ET:Et K mg) (c_law_minus:CanM P w K mg base k "_law_minus" ["one", "two"] bY) (c_law_times:CanM P w K mg base k "_law_times" ["one", "two"] bP):CanM P w K mg base (k+1) "_law_fewest" ["points"] fY:=
  aT F cA fun cdv A outer s H E G W WR=>(aI (uV (i:=1) cA.nd rfl (Or.inl rfl) (eN (aA (aO aG bE (aB 0 (pv 0)) (aS aH fun _=>.int _) (fun _ _=>rfl)) aF aN)))
 (aI (iI W.own W.calm (zCD rfl B.range (aA (aS aH fun _=>.int _) (aA (aY aR dH rfl B.len PySem.boot_len (aA (aB 0 (pv 0)) aF aD)) aF aQ) bO)) (cT (i:=2) cA.nd rfl (Or.inl rfl)) bI (aI (bJ (i:=3) cA.nd rfl (Or.inl rfl) (aS nK fun _=>.bl _))
 (aI (iZ (tst xB zHL (bD jZ xV (aB 2 (pv 2)) (aS aH fun _=>.int _)) (aY aR dH rfl B.len PySem.boot_len (aA (aB 0 (pv 0)) aF aD)) (bK _)) (aI (bJ (i:=4) cA.nd rfl (Or.inl rfl) (aL W c_law_minus rfl (aA (aO aG bE (aO aG bE (aB 0 (pv 0)) (aB 2 (pv 2)) (fun _ _=>rfl)) (aS aH fun _=>.int _) (fun _ _=>rfl)) (aA (aO aG bE (aO aG bE (aB 0 (pv 0)) (bD jO pS (aB 2 (pv 2)) (aS aH fun _=>.int _)) (fun _ _=>rfl)) (aS aH fun _=>.int _) (fun _ _=>rfl)) aF aN) aN)))
 (aI (bJ (i:=5) cA.nd rfl (Or.inl rfl) (aL W c_law_minus rfl (aA (aO aG bE (aO aG bE (aB 0 (pv 0)) (aB 2 (pv 2)) (fun _ _=>rfl)) (aS aH fun _=>.int _) (fun _ _=>rfl)) (aA (aO aG bE (aO aG bE (aB 0 (pv 0)) (bD jO pS (aB 2 (pv 2)) (aS aH fun _=>.int _)) (fun _ _=>rfl)) (aS aH fun _=>.int _) (fun _ _=>rfl)) aF aN) aN)))
 (aI (bJ (i:=6) cA.nd rfl (Or.inl rfl) (aL W c_law_minus rfl (aA (aO aG bE (aO aG bE (aB 0 (pv 0)) (bD jZ xV (aB 2 (pv 2)) (aS aH fun _=>.int _)) (fun _ _=>rfl)) (aS aH fun _=>.int _) (fun _ _=>rfl)) (aA (aO aG bE (aO aG bE (aB 0 (pv 0)) (aB 2 (pv 2)) (fun _ _=>rfl)) (aS aH fun _=>.int _) (fun _ _=>rfl)) aF aN) aN)))
 (aI (bJ (i:=7) cA.nd rfl (Or.inl rfl) (aL W c_law_minus rfl (aA (aO aG bE (aO aG bE (aB 0 (pv 0)) (bD jZ xV (aB 2 (pv 2)) (aS aH fun _=>.int _)) (fun _ _=>rfl)) (aS aH fun _=>.int _) (fun _ _=>rfl)) (aA (aO aG bE (aO aG bE (aB 0 (pv 0)) (aB 2 (pv 2)) (fun _ _=>rfl)) (aS aH fun _=>.int _) (fun _ _=>rfl)) aF aN) aN)))
 (aM (bJ (i:=3) cA.nd rfl (Or.inl rfl) (qJ (eqA W.u) wL (aL W c_law_times rfl (aA (aB 5 (pv 5)) (aA (aB 6 (pv 6)) aF aD) aD)) (aL W c_law_times rfl (aA (aB 7 (pv 7)) (aA (aB 4 (pv 4)) aF aD) aD)) (bK _)))))))) bL)
 (aM (iZ (zBP (sT (aB 3 (pv 3)))) (aM (xS (i:=1) (pv 1) (aO aG bE (aB 0 (pv 0)) (aB 2 (pv 2)) (fun _ _=>rfl)))) bL)))))
 (aM (cK (tM jX zEy rfl B.tuple boot_tuple (aA (aB 1 (pv 1)) aF aD))))))
theorem zBl (F:Fn K mg "_law_value" mV ["line", "x"] f fd) (B:Bt mg) (KT:Kt K) (C:Ct K mg) (R:Rt K mg) (ET:Et K mg) (c_law_less:CanM P w K mg base k "_law_less" ["one", "two"] dD) (c_law_minus:CanM P w K mg base k "_law_minus" ["one", "two"] bY) (c_law_times:CanM P w K mg base k "_law_times" ["one", "two"] bP) (c_law_plus:CanM P w K mg base k "_law_plus" ["one", "two"] dQ):CanM P w K mg base (k+1) "_law_value" ["line", "x"] fP:=
  aT F fU fun cdv A outer s H E G W WR=>(aI (iI W.own W.calm (zDj rfl B.range (aA (aY aR dH rfl B.len PySem.boot_len (aA (aB 0 (pv 0)) aF aD)) aF aQ)) (cT (i:=2) fU.nd rfl (Or.inl rfl)) bI (aI (iZ (tst (eqA W.u) wL (aO aG bE (aO aG bE (aB 0 (pv 0)) (aB 2 (pv 2)) (fun _ _=>rfl)) (aS aH fun _=>.int _) (fun _ _=>rfl)) (aB 1 (pv 1)) (bK _)) (aM (cK (aO aG bE (aO aG bE (aB 0 (pv 0)) (aB 2 (pv 2)) (fun _ _=>rfl)) (aS aH fun _=>.int _) (fun _ _=>rfl)))) bL)
 (aM (iZ (PWd.pt (zJo (tst zGw zLb (aB 2 (pv 2)) (aS aH fun _=>.int _) (bK _)) (zEO (sT (aL W c_law_less rfl (aA (aB 1 (pv 1)) (aA (aO aG bE (aO aG bE (aB 0 (pv 0)) (aB 2 (pv 2)) (fun _ _=>rfl)) (aS aH fun _=>.int _) (fun _ _=>rfl)) aF aN) aD)))))) (aI (bJ (i:=3) fU.nd rfl (Or.inl rfl) (aL W c_law_minus rfl (aA (aO aG bE (aO aG bE (aB 0 (pv 0)) (aB 2 (pv 2)) (fun _ _=>rfl)) (aS aH fun _=>.int _) (fun _ _=>rfl)) (aA (aO aG bE (aO aG bE (aB 0 (pv 0)) (bD jO pS (aB 2 (pv 2)) (aS aH fun _=>.int _)) (fun _ _=>rfl)) (aS aH fun _=>.int _) (fun _ _=>rfl)) aF aN) aN)))
 (aI (bJ (i:=4) fU.nd rfl (Or.inl rfl) (aL W c_law_minus rfl (aA (aO aG bE (aO aG bE (aB 0 (pv 0)) (aB 2 (pv 2)) (fun _ _=>rfl)) (aS aH fun _=>.int _) (fun _ _=>rfl)) (aA (aO aG bE (aO aG bE (aB 0 (pv 0)) (bD jO pS (aB 2 (pv 2)) (aS aH fun _=>.int _)) (fun _ _=>rfl)) (aS aH fun _=>.int _) (fun _ _=>rfl)) aF aN) aN)))
 (aI (bJ (i:=5) fU.nd rfl (Or.inl rfl) (aL W c_law_times rfl (aA (aL W c_law_minus rfl (aA (aB 1 (pv 1)) (aA (aO aG bE (aO aG bE (aB 0 (pv 0)) (bD jO pS (aB 2 (pv 2)) (aS aH fun _=>.int _)) (fun _ _=>rfl)) (aS aH fun _=>.int _) (fun _ _=>rfl)) aF aN) aD)) (aA (fI (aA (aO aG bE (aB 3 (pv 3)) (aS aH fun _=>.int _) (fun _ _=>rfl)) (aA (aO aG bE (aB 3 (pv 3)) (aS aH fun _=>.int _) (fun _ _=>rfl)) aF aN) aN)) aF gO) aQ)))
 (aM (cK (aL W c_law_plus rfl (aA (aO aG bE (aO aG bE (aB 0 (pv 0)) (bD jO pS (aB 2 (pv 2)) (aS aH fun _=>.int _)) (fun _ _=>rfl)) (aS aH fun _=>.int _) (fun _ _=>rfl)) (aA (aL W c_law_times rfl (aA (aB 5 (pv 5)) (aA (aB 4 (pv 4)) aF aD) aD)) aF aQ) aN))))))) bL))))
 (aM (cK (aO aG bE (aO aG bE (aB 0 (pv 0)) (sO (aS aH fun _=>.int _)) (fun _ _=>rfl)) (aS aH fun _=>.int _) (fun _ _=>rfl)))))
theorem zAU (F:Fn K mg "_law_total" mU ["some"] f fd) (B:Bt mg) (KT:Kt K) (C:Ct K mg) (R:Rt K mg) (ET:Et K mg) (c_law_plus:CanM P w K mg base k "_law_plus" ["one", "two"] dQ):CanM P w K mg base (k+1) "_law_total" ["some"] dZ:=
  aT F iU fun cdv A outer s H E G W WR=>(aI (bJ (i:=1) iU.nd rfl (Or.inl rfl) (fI (aA (aS aH fun _=>.int _) (aA (aS aH fun _=>.int _) aF bO) bO)))
 (aI (iI W.own W.calm (jG (aB 0 (pv 0))) (cT (i:=2) iU.nd rfl (Or.inl rfl)) bI (aM (bJ (i:=1) iU.nd rfl (Or.inl rfl) (aL W c_law_plus rfl (aA (aB 1 (pv 1)) (aA (aB 2 (pv 2)) aF aD) aD)))))
 (aM (cK (aB 1 (pv 1))))))
theorem uC (F:Fn K mg "_law_even_at" gP ["weights", "claims", "level"] f fd) (B:Bt mg) (KT:Kt K) (C:Ct K mg) (R:Rt K mg) (ET:Et K mg) (c_law_min:CanM P w K mg base k "_law_min" ["one", "two"] lR) (c_law_times:CanM P w K mg base k "_law_times" ["one", "two"] bP):CanM P w K mg base (k+1) "_law_even_at" ["weights", "claims", "level"] dU:=
 aT F uW fun cdv A outer s H E G W WR=>(aM (fT (oK (N:=["weights", "claims", "level"]) W (by decide +kernel) rfl (sc:=aK gP) rfl rfl (by decide +kernel) (zDI rfl B.zip (aA (aB 0 (pv 0)) (aA (aB 1 (pv 1)) aF aD) aD)) (fun C2 s2 H2 fp2 G W=>(aL W c_law_min rfl (aA (fI (aA (aB 4 (pv 4)) (aA (aS aH fun _=>.int _) aF bO) aD)) (aA (aL W c_law_times rfl (aA (fI (aA (aB 3 (pv 3)) (aA (aS aH fun _=>.int _) aF bO) aD)) (aA (aB 2 (pv 2)) aF aD) gO)) aF aQ) gO))))))
theorem yS (F:Fn K mg "is_between" lB ["ahead", "point", "later"] f fd) (B:Bt mg) (KT:Kt K) (C:Ct K mg) (R:Rt K mg) (ET:Et K mg) (c_minus:CanM P w K mg base k "minus" ["one", "two"] cN) (c_times:CanM P w K mg base k "times" ["one", "two"] dL):CanM P w K mg base (k+1) "is_between" ["ahead", "point", "later"] gC:=
  aT F fA fun cdv A outer s H E G W WR=>(aI (bJ (i:=3) fA.nd rfl (Or.inl rfl) (aL W c_minus rfl (aA (aO aG bE (aB 1 (pv 1)) (bW rfl C.UP) (fun _ _=>rfl)) (aA (aO aG bE (aB 0 (pv 0)) (bW rfl C.UP) (fun _ _=>rfl)) aF aN) aN)))
 (aI (bJ (i:=4) fA.nd rfl (Or.inl rfl) (aL W c_minus rfl (aA (aO aG bE (aB 2 (pv 2)) (bW rfl C.UP) (fun _ _=>rfl)) (aA (aO aG bE (aB 1 (pv 1)) (bW rfl C.UP) (fun _ _=>rfl)) aF aN) aN)))
 (aI (bJ (i:=5) fA.nd rfl (Or.inl rfl) (aL W c_minus rfl (aA (aO aG bE (aB 1 (pv 1)) (bW rfl C.ACROSS) (fun _ _=>rfl)) (aA (aO aG bE (aB 0 (pv 0)) (bW rfl C.ACROSS) (fun _ _=>rfl)) aF aN) aN)))
 (aI (bJ (i:=6) fA.nd rfl (Or.inl rfl) (aL W c_minus rfl (aA (aO aG bE (aB 2 (pv 2)) (bW rfl C.ACROSS) (fun _ _=>rfl)) (aA (aO aG bE (aB 1 (pv 1)) (bW rfl C.ACROSS) (fun _ _=>rfl)) aF aN) aN)))
 (aM (cK (qJ (eqA W.u) wL (aL W c_times rfl (aA (aB 3 (pv 3)) (aA (aB 6 (pv 6)) aF aD) aD)) (aL W c_times rfl (aA (aB 4 (pv 4)) (aA (aB 5 (pv 5)) aF aD) aD)) (bK _))))))))
theorem zFH (F:Fn K mg "turned" rM ["line"] f fd) (B:Bt mg) (KT:Kt K) (C:Ct K mg) (R:Rt K mg) (ET:Et K mg) (c_minus:CanM P w K mg base k "minus" ["one", "two"] cN):CanM P w K mg base (k+1) "turned" ["line"] lW:=
  aT F rN fun cdv A outer s H E G W WR=>(aI (bJ (i:=1) rN.nd rfl (Or.inr rfl) (aO aG bE (aB 0 (pv 0)) (sO (aS aH fun _=>.int _)) (fun _ _=>rfl)))
 (aM (cK (tM jX zEy rfl B.tuple boot_tuple (aA (PEf.d (iL W rN.nd rfl (sc:=aK rM) rfl rfl (by decide +kernel) (zNz rfl B.reversed (aB 0 (pv 0))) (fun C2 s2 H2 fp2 G W=>⟨kX,(fI (aA (aL W c_minus rfl (aA (aO aG bE (aB 1 (pv 1)) (bW rfl C.ACROSS) (fun _ _=>rfl)) (aA (aO aG bE (aB 2 (pv 2)) (bW rfl C.ACROSS) (fun _ _=>rfl)) aF aN) aN)) (aA (aL W c_minus rfl (aA (aO aG bE (aB 1 (pv 1)) (bW rfl C.UP) (fun _ _=>rfl)) (aA (aO aG bE (aB 2 (pv 2)) (bW rfl C.UP) (fun _ _=>rfl)) aF aN) aN)) aF aQ) aQ))⟩))) aF)))))
theorem zAL (F:Fn K mg "row_dealt" mZ ["claims", "catch"] f fd) (B:Bt mg) (KT:Kt K) (C:Ct K mg) (R:Rt K mg) (ET:Et K mg) (c_lesser:CanM P w K mg base k "lesser" ["one", "two"] jY) (c_minus:CanM P w K mg base k "minus" ["one", "two"] cN) (c_whole:CanM P w K mg base k "whole" ["number"] bV):CanM P w K mg base (k+1) "row_dealt" ["claims", "catch"] fN:=
  aT F eI fun cdv A outer s H E G W WR=>(aI (bJ (i:=2) eI.nd rfl (Or.inl rfl) (aB 1 (pv 1)))
 (aI (uV (i:=3) eI.nd rfl (Or.inl rfl) (eN aF))
 (aI (iI W.own W.calm (jG (aB 0 (pv 0))) (cT (i:=4) eI.nd rfl (Or.inl rfl)) bI (aI (bJ (i:=5) eI.nd rfl (Or.inl rfl) (aL W c_lesser rfl (aA (aB 2 (pv 2)) (aA (aL W c_whole rfl (aA (aB 4 (pv 4)) aF aD)) aF aQ) aD)))
 (aI (xS (i:=3) (pv 3) (aB 5 (pv 5)))
 (aM (bJ (i:=2) eI.nd rfl (Or.inl rfl) (aL W c_minus rfl (aA (aB 2 (pv 2)) (aA (aB 5 (pv 5)) aF aD) aD)))))))
 (aM (iT 3 (pv 3))))))
theorem zH (F:Fn K mg "even_dealt" kU ["weights", "claims", "catch"] f fd) (B:Bt mg) (KT:Kt K) (C:Ct K mg) (R:Rt K mg) (ET:Et K mg) (c_ranked:CanR P w K mg base k iM) (c_levels_of:CanM P w K mg base k "levels_of" ["weights", "claims"] dJ) (c_over:CanM P w K mg base k "over" ["one", "two"] sK) (c_lesser:CanM P w K mg base k "lesser" ["one", "two"] jY) (c_minus:CanM P w K mg base k "minus" ["one", "two"] cN) (c_times:CanM P w K mg base k "times" ["one", "two"] dL) (c_whole:CanM P w K mg base k "whole" ["number"] bV):CanM P w K mg base (k+1) "even_dealt" ["weights", "claims", "catch"] cQ:=
  aT F cM fun cdv A outer s H E G W WR=>(aI (bJ (i:=3) cM.nd rfl (Or.inl rfl) (aB 2 (pv 2)))
 (aI (bJ (i:=4) cM.nd rfl (Or.inl rfl) (aY (lV W.calm) wB rfl B.sum jH (aA (aB 0 (pv 0)) aF aD)))
 (aI (uV (i:=5) cM.nd rfl (Or.inl rfl) (zCN (eN (aA (bW rfl C.NOUGHT) aF aD)) (aY aR dH rfl B.len PySem.boot_len (aA (aB 1 (pv 1)) aF aD))))
 (zGl W c_ranked zLA zIo rfl (aA (PEf.d (cB W c_levels_of rfl (aA (aB 0 (pv 0)) (aA (aB 1 (pv 1)) aF aD) aD))) aF aQ) (cT (i:=6) cM.nd rfl (Or.inl rfl)) bI (aI (bJ (i:=7) cM.nd rfl (Or.inl rfl) (aL W c_over rfl (aA (aL W c_times rfl (aA (aB 3 (pv 3)) (aA (aL W c_whole rfl (aA (aO aG bE (aB 0 (pv 0)) (aB 6 (pv 6)) (fun _ _=>rfl)) aF aN)) aF aQ) aD)) (aA (aL W c_whole rfl (aA (aB 4 (pv 4)) aF aD)) aF aQ) aQ)))
 (aI (zNt (i:=5) (pv 5) (aB 6 (pv 6)) (aL W c_lesser rfl (aA (aB 7 (pv 7)) (aA (aL W c_whole rfl (aA (aO aG bE (aB 1 (pv 1)) (aB 6 (pv 6)) (fun _ _=>rfl)) aF aN)) aF aQ) aD)))
 (aI (bJ (i:=3) cM.nd rfl (Or.inl rfl) (PEd.frz (aL W c_minus rfl (aA (aB 3 (pv 3)) (aA (aO aG bE (aB 5 (pv 5)) (aB 6 (pv 6)) (fun _ _=>rfl)) aF aN) aD))))
 (aM (zHZ (i:=4) cM.nd rfl (Or.inl rfl) (aO aG bE (aB 0 (pv 0)) (aB 6 (pv 6)) (fun _ _=>rfl)) zIL zFn zDr))))) (aM (iT 5 (pv 5)))))))
theorem xJ (F:Fn K mg "part_dealt" iK ["claims", "catch"] f fd) (B:Bt mg) (KT:Kt K) (C:Ct K mg) (R:Rt K mg) (ET:Et K mg) (c_over:CanM P w K mg base k "over" ["one", "two"] sK) (c_whole:CanM P w K mg base k "whole" ["number"] bV) (c_times:CanM P w K mg base k "times" ["one", "two"] dL):CanM P w K mg base (k+1) "part_dealt" ["claims", "catch"] eK:=
  aT F gN fun cdv A outer s H E G W WR=>(aI (bJ (i:=2) gN.nd rfl (Or.inl rfl) (aY (lV W.calm) wB rfl B.sum jH (aA (aB 0 (pv 0)) aF aD)))
 (aI (iZ (tst (eqA W.u) wL (aB 2 (pv 2)) (aS aH fun _=>.int _) (bK _)) (aM (fT (zCN (eN (aA (bW rfl C.NOUGHT) aF aD)) (aY aR dH rfl B.len PySem.boot_len (aA (aB 0 (pv 0)) aF aD))))) bL)
 (aI (bJ (i:=3) gN.nd rfl (Or.inr rfl) (aL W c_over rfl (aA (aB 1 (pv 1)) (aA (aL W c_whole rfl (aA (aB 2 (pv 2)) aF aD)) aF aQ) aD)))
 (aM (fT (iL W gN.nd rfl (sc:=aK iK) rfl rfl (by decide +kernel) (jG (aB 0 (pv 0))) (fun C2 s2 H2 fp2 G W=>⟨kX,(aL W c_times rfl (aA (aB 3 (pv 3)) (aA (aL W c_whole rfl (aA (aB 4 (pv 4)) aF aD)) aF aQ) aD))⟩)))))))
theorem uL (F:Fn K mg "even_joints" jQ ["weights", "claims"] f fd) (B:Bt mg) (KT:Kt K) (C:Ct K mg) (R:Rt K mg) (ET:Et K mg) (c_levels_of:CanM P w K mg base k "levels_of" ["weights", "claims"] dJ) (c_ranked:CanR P w K mg base k iM) (c_plus:CanM P w K mg base k "plus" ["one", "two"] mE) (c_whole:CanM P w K mg base k "whole" ["number"] bV) (c_times:CanM P w K mg base k "times" ["one", "two"] dL):CanM P w K mg base (k+1) "even_joints" ["weights", "claims"] cV:=
  aT F cD fun cdv A outer s H E G W WR=>(aI (bJ (i:=2) cD.nd rfl (Or.inl rfl) (aS aH fun _=>.int _))
 (aI (bJ (i:=3) cD.nd rfl (Or.inl rfl) (aY (lV W.calm) wB rfl B.sum jH (aA (aB 0 (pv 0)) aF aD)))
 (aI (bJ (i:=4) cD.nd rfl (Or.inl rfl) (PEf.d (cB W c_levels_of rfl (aA (aB 0 (pv 0)) (aA (aB 1 (pv 1)) aF aD) aD))))
 (aI (uV (i:=5) cD.nd rfl (Or.inl rfl) (eN (aA (bW rfl C.NOUGHT) aF aD)))
 (zGl W c_ranked zLA zIo rfl (aA (aB 4 (pv 4)) aF aD) (cT (i:=6) cD.nd rfl (Or.inl rfl)) bI (aI (xS (i:=5) (pv 5) (aL W c_plus rfl (aA (aL W c_whole rfl (aA (aB 2 (pv 2)) aF aD)) (aA (aL W c_times rfl (aA (aO aG bE (aB 4 (pv 4)) (aB 6 (pv 6)) (fun _ _=>rfl)) (aA (aL W c_whole rfl (aA (aB 3 (pv 3)) aF aD)) aF aQ) aN)) aF aQ) aQ)))
 (aI (zHZ (i:=2) cD.nd rfl (Or.inl rfl) (aO aG bE (aB 1 (pv 1)) (aB 6 (pv 6)) (fun _ _=>rfl)) zIs zGn zDa)
 (aM (zHZ (i:=3) cD.nd rfl (Or.inl rfl) (aO aG bE (aB 0 (pv 0)) (aB 6 (pv 6)) (fun _ _=>rfl)) zIL zFn zDr)))) (aM (iT 5 (pv 5))))))))
theorem zBU (F:Fn K mg "mirrored" lX ["joints", "most"] f fd) (B:Bt mg) (KT:Kt K) (C:Ct K mg) (R:Rt K mg) (ET:Et K mg) (c_minus:CanM P w K mg base k "minus" ["one", "two"] cN):CanM P w K mg base (k+1) "mirrored" ["joints", "most"] fK:=
 aT F sB fun cdv A outer s H E G W WR=>(aM (fT (iL W sB.nd rfl (sc:=aK lX) rfl rfl (by decide +kernel) (zLU rfl B.reversed (aB 0 (pv 0))) (fun C2 s2 H2 fp2 G W=>⟨kX,(aL W c_minus rfl (aA (aB 1 (pv 1)) (aA (aB 2 (pv 2)) aF aD) aD))⟩))))
theorem zBX (F:Fn K mg "_law_fine" qE ["found"] f fd) (B:Bt mg) (KT:Kt K) (C:Ct K mg) (R:Rt K mg) (ET:Et K mg) (c_law_fewest:CanM P w K mg base k "_law_fewest" ["points"] fY) (c_law_less:CanM P w K mg base k "_law_less" ["one", "two"] dD) (c_law_is_fraction:CanM P w K mg base k "_law_is_fraction" ["found"] cE):CanM P w K mg base (k+1) "_law_fine" ["found"] jJ:=
  aT F nG fun cdv A outer s H E G W WR=>(aI (iZ (PWd.pt (zEi (zBP (sT (sM KT.tuple rfl B.isinstance (aB 0 (pv 0)) (nN (v:=.ty "tuple") rfl B.tuple boot_tuple rfl)))) (zEi (tst xB zHL (aY aR dH rfl B.len PySem.boot_len (aA (aB 0 (pv 0)) aF aD)) (aS aH fun _=>.int _) (bK _)) (rQ (tst (neA W.u) zGL (aO aG bE (aB 0 (pv 0)) (aS aH fun _=>.int _) (fun _ _=>rfl)) (fI (aA (fI (aA (aS aH fun _=>.int _) (aA (aS aH fun _=>.int _) aF bO) bO)) (aA (fI (aA (aS aH fun _=>.int _) (aA (aS aH fun _=>.int _) aF bO) bO)) aF gO) gO)) (bK _)))))) (aM (cK (aS nK fun _=>.bl _))) bL)
 (aI (iI W.own W.calm (jG (aB 0 (pv 0))) (cT (i:=1) nG.nd rfl (Or.inl rfl)) bI (aI (iZ (PWd.pt (zEi (zBP (sT (sM KT.tuple rfl B.isinstance (aB 1 (pv 1)) (nN (v:=.ty "tuple") rfl B.tuple boot_tuple rfl)))) (rQ (tst (neA W.u) zGL (aY aR dH rfl B.len PySem.boot_len (aA (aB 1 (pv 1)) aF aD)) (aS aH fun _=>.int _) (bK _))))) (aM (cK (aS nK fun _=>.bl _))) bL)
 (aM (iZ (PWd.pt (zEi (zBP (sT (aL W c_law_is_fraction rfl (aA (aO aG bE (aB 1 (pv 1)) (aS aH fun _=>.int _) (fun _ _=>rfl)) aF aN)))) (rQ (zBP (sT (aL W c_law_is_fraction rfl (aA (aO aG bE (aB 1 (pv 1)) (aS aH fun _=>.int _) (fun _ _=>rfl)) aF aN))))))) (aM (cK (aS nK fun _=>.bl _))) bL))))
 (aI (iI W.own W.calm (zCD rfl B.range (aA (aS aH fun _=>.int _) (aA (aY aR dH rfl B.len PySem.boot_len (aA (aB 0 (pv 0)) aF aD)) aF aQ) bO)) (cT (i:=2) nG.nd rfl (Or.inl rfl)) bI (aM (iZ (PWd.pt (zEi (zBP (sT (aL W c_law_less rfl (aA (aO aG bE (aO aG bE (aB 0 (pv 0)) (bD jO pS (aB 2 (pv 2)) (aS aH fun _=>.int _)) (fun _ _=>rfl)) (aS aH fun _=>.int _) (fun _ _=>rfl)) (aA (aO aG bE (aO aG bE (aB 0 (pv 0)) (aB 2 (pv 2)) (fun _ _=>rfl)) (aS aH fun _=>.int _) (fun _ _=>rfl)) aF aN) aN)))) (rQ (sT (aL W c_law_less rfl (aA (aO aG bE (aO aG bE (aB 0 (pv 0)) (aB 2 (pv 2)) (fun _ _=>rfl)) (aS aH fun _=>.int _) (fun _ _=>rfl)) (aA (aO aG bE (aO aG bE (aB 0 (pv 0)) (bD jO pS (aB 2 (pv 2)) (aS aH fun _=>.int _)) (fun _ _=>rfl)) (aS aH fun _=>.int _) (fun _ _=>rfl)) aF aN) aN)))))) (aM (cK (aS nK fun _=>.bl _))) bL)))
 (aM (cK (qJ (eqA W.u) wL (aB 0 (pv 0)) (aL W c_law_fewest rfl (aA (aB 0 (pv 0)) aF aD)) (bK _)))))))
theorem qG (F:Fn K mg "_law_even_right" cX ["found", "weights", "claims"] f fd) (B:Bt mg) (KT:Kt K) (C:Ct K mg) (R:Rt K mg) (ET:Et K mg) (c_law_levels:CanM P w K mg base k "_law_levels" ["weights", "claims"] fV) (c_law_total:CanM P w K mg base k "_law_total" ["some"] dZ) (c_law_times:CanM P w K mg base k "_law_times" ["one", "two"] bP) (c_law_even_at:CanM P w K mg base k "_law_even_at" ["weights", "claims", "level"] dU) (c_law_plus:CanM P w K mg base k "_law_plus" ["one", "two"] dQ) (c_law_value:CanM P w K mg base k "_law_value" ["line", "x"] fP):CanM P w K mg base (k+1) "_law_even_right" ["found", "weights", "claims"] cZ:=
  aT F aX fun cdv A outer s H E G W WR=>(aI (bJ (i:=3) aX.nd rfl (Or.inr rfl) (PEf.d (cB W c_law_levels rfl (aA (aB 1 (pv 1)) (aA (aB 2 (pv 2)) aF aD) aD))))
 (aI (zFJ (i:=4) aX.nd rfl (Or.inl rfl) (PCf.d (yP W aX.nd rfl (sc:=aK cX) rfl rfl (by decide +kernel) (jG (aB 3 (pv 3))) (fun C2 s2 H2 fp2 G W=>⟨kX,(aL W c_law_total rfl (aA (PEf.d (cB W c_law_even_at rfl (aA (aB 1 (pv 1)) (aA (aB 2 (pv 2)) (aA (aB 12 (pv 12)) aF aD) aD) aD))) aF aQ))⟩))) rfl)
 (aI (iI W.own W.calm (jG (aB 0 (pv 0))) (cT (i:=5) aX.nd rfl (Or.inl rfl)) bI (aM (iI W.own W.calm (jG (aB 5 (pv 5))) (cT (i:=6) aX.nd rfl (Or.inl rfl)) bI (aM (iZ (tst (zIj W.u) zFB (aO aG bE (aB 6 (pv 6)) (aS aH fun _=>.int _) (fun _ _=>rfl)) (aB 4 (pv 4)) (by with_unfolding_all rfl)) (aM (cK (aS nK fun _=>.bl _))) bL)))))
 (aI (zFJ (i:=7) aX.nd rfl (Or.inl rfl) (PCf.d (yP W aX.nd rfl (sc:=aK cX) rfl rfl (by decide +kernel) (zCD rfl B.range (aA (aS aH fun _=>.int _) (aA (aY aR dH rfl B.len PySem.boot_len (aA (aB 3 (pv 3)) aF aD)) aF aQ) bO)) (fun C2 s2 H2 fp2 G W=>⟨kX,(aL W c_law_times rfl (aA (fI (aA (aS aH fun _=>.int _) (aA (aS aH fun _=>.int _) aF bO) bO)) (aA (aL W c_law_plus rfl (aA (aO aG bE (aB 3 (pv 3)) (bD jO pS (aB 12 (pv 12)) (aS aH fun _=>.int _)) (fun _ _=>rfl)) (aA (aO aG bE (aB 3 (pv 3)) (aB 12 (pv 12)) (fun _ _=>rfl)) aF aN) aN)) aF aQ) gO))⟩))) rfl)
 (aI (iI W.own W.calm (jG (PEf.d (zIx (aB 3 (pv 3)) (aB 7 (pv 7))))) (cT (i:=8) aX.nd rfl (Or.inl rfl)) bI (aI (bJ (i:=9) aX.nd rfl (Or.inl rfl) (PEf.d (cB W c_law_even_at rfl (aA (aB 1 (pv 1)) (aA (aB 2 (pv 2)) (aA (aB 8 (pv 8)) aF aD) aD) aD))))
 (aI (bJ (i:=10) aX.nd rfl (Or.inl rfl) (aL W c_law_total rfl (aA (aB 9 (pv 9)) aF aD)))
 (aM (iI W.own W.calm (zDj rfl B.range (aA (aY aR dH rfl B.len PySem.boot_len (aA (aB 2 (pv 2)) aF aD)) aF aQ)) (cT (i:=11) aX.nd rfl (Or.inl rfl)) bI (aM (iZ (tst (neA W.u) zGL (aL W c_law_value rfl (aA (aO aG bE (aB 0 (pv 0)) (aB 11 (pv 11)) (fun _ _=>rfl)) (aA (aB 10 (pv 10)) aF aD) aN)) (aO aG bE (aB 9 (pv 9)) (aB 11 (pv 11)) (fun _ _=>rfl)) (bK _)) (aM (cK (aS nK fun _=>.bl _))) bL)))))))
 (aM (cK (aS nK fun _=>.bl _))))))))
theorem zDy (F:Fn K mg "line_of" tL ["points"] f fd) (B:Bt mg) (KT:Kt K) (C:Ct K mg) (R:Rt K mg) (ET:Et K mg) (c_refuse_bad:CanM P w K mg base k "refuse_bad" ["points"] gE) (c_is_between:CanM P w K mg base k "is_between" ["ahead", "point", "later"] gC):CanM P w K mg base (k+1) "line_of" ["points"] kT:=
  aT F qD fun cdv A outer s H E G W WR=>(aI (wE (aL W c_refuse_bad rfl (aA (aB 0 (pv 0)) aF aD)))
 (aI (uV (i:=1) qD.nd rfl (Or.inl rfl) (eN aF))
 (aI (iI W.own W.calm (jG (aB 0 (pv 0))) (cT (i:=2) qD.nd rfl (Or.inl rfl)) bI (aI (iZ (PTd.frz (PWd.pt (zJo (tst zGw zLb (aY aR dH rfl B.len PySem.boot_len (aA (aB 1 (pv 1)) aF aD)) (aS aH fun _=>.int _) (bK _)) (zEO (sT (aL W c_is_between rfl (aA (aO aG bE (aB 1 (pv 1)) (sO (aS aH fun _=>.int _)) (fun _ _=>rfl)) (aA (aO aG bE (aB 1 (pv 1)) (sO (aS aH fun _=>.int _)) (fun _ _=>rfl)) (aA (aB 2 (pv 2)) aF aD) aN) aN))))))) (aM (zNp (i:=1) (pv 1))) bL)
 (aM (xS (i:=1) (pv 1) (aB 2 (pv 2))))))
 (aM (cK (tM jX zEy rfl B.tuple boot_tuple (aA (aB 1 (pv 1)) aF aD)))))))
theorem xC (F:Fn K mg "half_dealt" iS ["claims", "catch"] f fd) (B:Bt mg) (KT:Kt K) (C:Ct K mg) (R:Rt K mg) (ET:Et K mg) (c_times:CanM P w K mg base k "times" ["one", "two"] dL) (c_even_dealt:CanM P w K mg base k "even_dealt" ["weights", "claims", "catch"] cQ) (c_plus:CanM P w K mg base k "plus" ["one", "two"] mE):CanM P w K mg base (k+1) "half_dealt" ["claims", "catch"] eG:=
  aT F kC fun cdv A outer s H E G W WR=>(aI (bJ (i:=2) kC.nd rfl (Or.inl rfl) (PEf.d (zCN (eN (aA (aS aH fun _=>.int _) aF bO)) (aY aR dH rfl B.len PySem.boot_len (aA (aB 0 (pv 0)) aF aD)))))
 (aM (fT (iL W kC.nd rfl (sc:=aK iS) rfl rfl (by decide +kernel) (jG (PEf.d (cB W c_even_dealt rfl (aA (aB 2 (pv 2)) (aA (aB 0 (pv 0)) (aA (aL W c_plus rfl (aA (aB 1 (pv 1)) (aA (aB 1 (pv 1)) aF aD) aD)) aF aQ) aD) aD)))) (fun C2 s2 H2 fp2 G W=>⟨kX,(aL W c_times rfl (aA (aB 3 (pv 3)) (aA (bW rfl C.HALF) aF aD) aD))⟩)))))
theorem rV (F:Fn K mg "_law_all_fine" iX ["found", "claims"] f fd) (B:Bt mg) (KT:Kt K) (C:Ct K mg) (R:Rt K mg) (ET:Et K mg) (c_law_fine:CanM P w K mg base k "_law_fine" ["found"] jJ):CanM P w K mg base (k+1) "_law_all_fine" ["found", "claims"] dG:=
  aT F hU fun cdv A outer s H E G W WR=>(aI (iZ (PWd.pt (zEi (zBP (sT (sM KT.list rfl B.isinstance (aB 0 (pv 0)) (nN (v:=.ty "list") rfl B.list boot_list rfl)))) (rQ (tst (neA W.u) zGL (aY aR dH rfl B.len PySem.boot_len (aA (aB 0 (pv 0)) aF aD)) (aY aR dH rfl B.len PySem.boot_len (aA (aB 1 (pv 1)) aF aD)) (bK _))))) (aM (cK (aS nK fun _=>.bl _))) bL)
 (aI (iI W.own W.calm (zDI rfl B.zip (aA (aB 0 (pv 0)) (aA (aB 1 (pv 1)) aF aD) aD)) (zLO W.calm (yL (cT (i:=2) hU.nd rfl (Or.inl rfl)) (yL (cT (i:=3) hU.nd rfl (Or.inl rfl)) zIn)) (wK (wK zIP))) (zFh (rB bI (rB bI zFT))) (aM (iZ (PWd.pt (zEi (zBP (sT (aL W c_law_fine rfl (aA (aB 2 (pv 2)) aF aD)))) (rQ (tst (neA W.u) zGL (aO aG bE (aB 2 (pv 2)) (sO (aS aH fun _=>.int _)) (fun _ _=>rfl)) (fI (aA (fI (aA (aY (lV W.calm) wB rfl B.sum jH (aA (aB 1 (pv 1)) aF aD)) (aA (aS aH fun _=>.int _) aF bO) aQ)) (aA (fI (aA (aB 3 (pv 3)) (aA (aS aH fun _=>.int _) aF bO) aD)) aF gO) gO)) (bK _))))) (aM (cK (aS nK fun _=>.bl _))) bL)))
 (aM (cK (aS nK fun _=>.bl _)))))
theorem zEf (F:Fn K mg "line_at" pA ["joints", "dealings", "spot"] f fd) (B:Bt mg) (KT:Kt K) (C:Ct K mg) (R:Rt K mg) (ET:Et K mg) (c_line_of:CanM P w K mg base k "line_of" ["points"] kT):CanM P w K mg base (k+1) "line_at" ["joints", "dealings", "spot"] lM:=
 aT F zDT fun cdv A outer s H E G W WR=>(aM (cK (aL W c_line_of rfl (aA (PEf.d (oK (N:=["joints", "dealings", "spot"]) W (by decide +kernel) rfl (sc:=aK pA) rfl rfl (by decide +kernel) (zDI rfl B.zip (aA (aB 0 (pv 0)) (aA (aB 1 (pv 1)) aF aD) aD)) (fun C2 s2 H2 fp2 G W=>(fI (aA (aB 3 (pv 3)) (aA (aO aG bE (aB 4 (pv 4)) (aB 2 (pv 2)) (fun _ _=>rfl)) aF aN) aD))))) aF))))
theorem zY {r:Mir} (F:Fn K mg "joints_of" iA ["way", "weights", "claims"] f fd) (B:Bt mg) (KT:Kt K) (C:Ct K mg) (R:Rt K mg) (ET:Et K mg) (c_whole:CanM P w K mg base k "whole" ["number"] bV) (c_mirrored:CanM P w K mg base k "mirrored" ["joints", "most"] fK) (c_row_joints:CanM P w K mg base k "row_joints" ["claims"] eM) (c_even_joints:CanM P w K mg base k "even_joints" ["weights", "claims"] cV) (c_times:CanM P w K mg base k "times" ["one", "two"] dL) (c_contrary_way:CanM P w K mg base k "contrary_way" ["way"] dF) (c_joints_of:CanM P w K mg base k "joints_of" ["way", "weights", "claims"] r):CanM P w K mg base (k+1) "joints_of" ["way", "weights", "claims"] (bZ r):=
  aT F fZ fun cdv A outer s H E G W WR=>(aI (bJ (i:=3) fZ.nd rfl (Or.inl rfl) (aL W c_whole rfl (aA (aY (lV W.calm) wB rfl B.sum jH (aA (aB 2 (pv 2)) aF aD)) aF aQ)))
 (aI (iZ (tst (eqA W.u) wL (aB 0 (pv 0)) (aS eH fun _=>.str _) (bK _)) (aM (fT (cB W c_row_joints rfl (aA (aB 2 (pv 2)) aF aD)))) bL)
 (aI (iZ (tst (eqA W.u) wL (aB 0 (pv 0)) (aS eH fun _=>.str _) (bK _)) (aM (fT (cB W c_even_joints rfl (aA (aB 1 (pv 1)) (aA (aB 2 (pv 2)) aF aD) aD)))) bL)
 (aI (iZ (tst (eqA W.u) wL (aB 0 (pv 0)) (aS eH fun _=>.str _) (bK _)) (aM (fT (eN (aA (bW rfl C.NOUGHT) (aA (aB 3 (pv 3)) aF aD) aD)))) bL)
 (aI (iZ (tst (eqA W.u) wL (aB 0 (pv 0)) (aS eH fun _=>.str _) (bK _)) (aI (zFJ (i:=4) fZ.nd rfl (Or.inl rfl) (PCf.d (yP W fZ.nd rfl (sc:=aK iA) rfl rfl (by decide +kernel) (jG (PEf.d (cB W c_even_joints rfl (aA (PEf.d (zCN (eN (aA (aS aH fun _=>.int _) aF bO)) (aY aR dH rfl B.len PySem.boot_len (aA (aB 2 (pv 2)) aF aD)))) (aA (aB 2 (pv 2)) aF aD) bH)))) (fun C2 s2 H2 fp2 G W=>⟨kX,(aL W c_times rfl (aA (aB 5 (pv 5)) (aA (bW rfl C.HALF) aF aD) aD))⟩))) rfl)
 (aM (fT (zIx (aB 4 (pv 4)) (PEf.d (cB W c_mirrored rfl (aA (aB 4 (pv 4)) (aA (aB 3 (pv 3)) aF aD) aD))))))) bL)
 (aM (fT (cB W c_mirrored rfl (aA (PEf.d (cB W c_joints_of rfl (aA (aL W c_contrary_way rfl (aA (aB 0 (pv 0)) aF aD)) (aA (aB 1 (pv 1)) (aA (aB 2 (pv 2)) aF aD) aD) aQ))) (aA (aB 3 (pv 3)) aF aD) aQ)))))))))
theorem qN (F:Fn K mg "joints_of" iA ["way", "weights", "claims"] f fd) (B:Bt mg) (KT:Kt K) (C:Ct K mg) (R:Rt K mg) (ET:Et K mg) (c_whole:CanM P w K mg base k "whole" ["number"] bV) (c_mirrored:CanM P w K mg base k "mirrored" ["joints", "most"] fK) (c_row_joints:CanM P w K mg base k "row_joints" ["claims"] eM) (c_even_joints:CanM P w K mg base k "even_joints" ["weights", "claims"] cV) (c_times:CanM P w K mg base k "times" ["one", "two"] dL) (c_contrary_way:CanM P w K mg base k "contrary_way" ["way"] dF):∀ n:Nat,CanM P w K mg base (k+1+n) "joints_of" ["way", "weights", "claims"] (bG n)
 | 0=>aT F fZ fun cdv A outer s H E G W WR=>zLp
 | n+1=>zY (k:=k+1+n) F B KT C R ET (c_whole:=c_whole.mono (by omega)) (c_mirrored:=c_mirrored.mono (by omega)) (c_row_joints:=c_row_joints.mono (by omega)) (c_even_joints:=c_even_joints.mono (by omega)) (c_times:=c_times.mono (by omega)) (c_contrary_way:=c_contrary_way.mono (by omega)) (c_joints_of:=qN F B KT C R ET (c_whole:=c_whole) (c_mirrored:=c_mirrored) (c_row_joints:=c_row_joints) (c_even_joints:=c_even_joints) (c_times:=c_times) (c_contrary_way:=c_contrary_way) n)
theorem qW {r:Mir} (F:Fn K mg "rightly_dealt" dN ["way", "weights", "claims", "catch"] f fd) (B:Bt mg) (KT:Kt K) (C:Ct K mg) (R:Rt K mg) (ET:Et K mg) (c_whole:CanM P w K mg base k "whole" ["number"] bV) (c_row_dealt:CanM P w K mg base k "row_dealt" ["claims", "catch"] fN) (c_even_dealt:CanM P w K mg base k "even_dealt" ["weights", "claims", "catch"] cQ) (c_part_dealt:CanM P w K mg base k "part_dealt" ["claims", "catch"] eK) (c_half_dealt:CanM P w K mg base k "half_dealt" ["claims", "catch"] eG) (c_minus:CanM P w K mg base k "minus" ["one", "two"] cN) (c_less:CanM P w K mg base k "less" ["one", "two"] jN) (c_plus:CanM P w K mg base k "plus" ["one", "two"] mE) (c_rightly_dealt:CanM P w K mg base k "rightly_dealt" ["way", "weights", "claims", "catch"] r):CanM P w K mg base (k+1) "rightly_dealt" ["way", "weights", "claims", "catch"] (aU r):=
  aT F dY fun cdv A outer s H E G W WR=>(aI (bJ (i:=4) dY.nd rfl (Or.inl rfl) (aL W c_whole rfl (aA (aY (lV W.calm) wB rfl B.sum jH (aA (aB 2 (pv 2)) aF aD)) aF aQ)))
 (aI (iZ (tst (eqA W.u) wL (aB 0 (pv 0)) (aS eH fun _=>.str _) (bK _)) (aM (fT (cB W c_row_dealt rfl (aA (aB 2 (pv 2)) (aA (aB 3 (pv 3)) aF aD) aD)))) bL)
 (aI (iZ (tst (eqA W.u) wL (aB 0 (pv 0)) (aS eH fun _=>.str _) (bK _)) (aM (fT (cB W c_even_dealt rfl (aA (aB 1 (pv 1)) (aA (aB 2 (pv 2)) (aA (aB 3 (pv 3)) aF aD) aD) aD)))) bL)
 (aI (iZ (tst (eqA W.u) wL (aB 0 (pv 0)) (aS eH fun _=>.str _) (bK _)) (aM (fT (cB W c_part_dealt rfl (aA (aB 2 (pv 2)) (aA (aB 3 (pv 3)) aF aD) aD)))) bL)
 (aI (iZ (PWd.pt (zJo (tst (eqA W.u) wL (aB 0 (pv 0)) (aS eH fun _=>.str _) (bK _)) (zEO (zBP (sT (aL W c_less rfl (aA (aB 4 (pv 4)) (aA (aL W c_plus rfl (aA (aB 3 (pv 3)) (aA (aB 3 (pv 3)) aF aD) aD)) aF aQ) aD))))))) (aM (fT (cB W c_half_dealt rfl (aA (aB 2 (pv 2)) (aA (aB 3 (pv 3)) aF aD) aD)))) bL)
 (aI (bJ (i:=5) dY.nd rfl (Or.inl rfl) (PEf.d (cB W c_rightly_dealt rfl (aA (zIU C.CONTRARY.choose_spec rfl (aB 0 (pv 0)) (fun _ _=>rfl)) (aA (aB 1 (pv 1)) (aA (aB 2 (pv 2)) (aA (aL W c_minus rfl (aA (aB 4 (pv 4)) (aA (aB 3 (pv 3)) aF aD) aD)) aF aQ) aD) aD) aN))))
 (aM (fT (oK (N:=["way", "weights", "claims", "catch", "most", "lacking"]) W (by decide +kernel) rfl (sc:=aK dN) rfl rfl (by decide +kernel) (zDI rfl B.zip (aA (aB 2 (pv 2)) (aA (aB 5 (pv 5)) aF aD) aD)) (fun C2 s2 H2 fp2 G W=>(aL W c_minus rfl (aA (aL W c_whole rfl (aA (aB 6 (pv 6)) aF aD)) (aA (aB 7 (pv 7)) aF aD) aQ))))))))))))
theorem kF (F:Fn K mg "rightly_dealt" dN ["way", "weights", "claims", "catch"] f fd) (B:Bt mg) (KT:Kt K) (C:Ct K mg) (R:Rt K mg) (ET:Et K mg) (c_whole:CanM P w K mg base k "whole" ["number"] bV) (c_row_dealt:CanM P w K mg base k "row_dealt" ["claims", "catch"] fN) (c_even_dealt:CanM P w K mg base k "even_dealt" ["weights", "claims", "catch"] cQ) (c_part_dealt:CanM P w K mg base k "part_dealt" ["claims", "catch"] eK) (c_half_dealt:CanM P w K mg base k "half_dealt" ["claims", "catch"] eG) (c_minus:CanM P w K mg base k "minus" ["one", "two"] cN) (c_less:CanM P w K mg base k "less" ["one", "two"] jN) (c_plus:CanM P w K mg base k "plus" ["one", "two"] mE):∀ n:Nat,CanM P w K mg base (k+1+n) "rightly_dealt" ["way", "weights", "claims", "catch"] (aP n)
 | 0=>aT F dY fun cdv A outer s H E G W WR=>zLp
 | n+1=>qW (k:=k+1+n) F B KT C R ET (c_whole:=c_whole.mono (by omega)) (c_row_dealt:=c_row_dealt.mono (by omega)) (c_even_dealt:=c_even_dealt.mono (by omega)) (c_part_dealt:=c_part_dealt.mono (by omega)) (c_half_dealt:=c_half_dealt.mono (by omega)) (c_minus:=c_minus.mono (by omega)) (c_less:=c_less.mono (by omega)) (c_plus:=c_plus.mono (by omega)) (c_rightly_dealt:=kF F B KT C R ET (c_whole:=c_whole) (c_row_dealt:=c_row_dealt) (c_even_dealt:=c_even_dealt) (c_part_dealt:=c_part_dealt) (c_half_dealt:=c_half_dealt) (c_minus:=c_minus) (c_less:=c_less) (c_plus:=c_plus) n)
theorem zAS (F:Fn K mg "way_lines" iF ["way", "weights", "claims"] f fd) (B:Bt mg) (KT:Kt K) (C:Ct K mg) (R:Rt K mg) (ET:Et K mg) (c_looked:CanM P w K mg base k "looked" ["way", "weights", "claims"] nT) (c_without_doubles:CanM P w K mg base k "without_doubles" ["joints"] cP) (c_joints_of:CanM P w K mg base k "joints_of" ["way", "weights", "claims"] (bG 2)) (c_rightly_dealt:CanM P w K mg base k "rightly_dealt" ["way", "weights", "claims", "catch"] (aP 2)) (c_line_at:CanM P w K mg base k "line_at" ["joints", "dealings", "spot"] lM):CanM P w K mg base (k+1) "way_lines" ["way", "weights", "claims"] dP:=
  aT F gB fun cdv A outer s H E G W WR=>(aI (wE (aL W c_looked rfl (aA (aB 0 (pv 0)) (aA (aB 1 (pv 1)) (aA (aB 2 (pv 2)) aF aD) aD) aD)))
 (aI (bJ (i:=3) gB.nd rfl (Or.inr rfl) (PEf.d (cB W c_without_doubles rfl (aA (PEf.d (cB W c_joints_of rfl (aA (aB 0 (pv 0)) (aA (aB 1 (pv 1)) (aA (aB 2 (pv 2)) aF aD) aD) aD))) aF aQ))))
 (aI (bJ (i:=4) gB.nd rfl (Or.inr rfl) (PEf.d (iL W gB.nd rfl (sc:=aK iF) rfl rfl (by decide +kernel) (jG (aB 3 (pv 3))) (fun C2 s2 H2 fp2 G W=>⟨kX,(PEf.d (cB W c_rightly_dealt rfl (aA (aB 0 (pv 0)) (aA (aB 1 (pv 1)) (aA (aB 2 (pv 2)) (aA (aB 5 (pv 5)) aF aD) aD) aD) aD)))⟩))))
 (aM (fT (iL W gB.nd rfl (sc:=aK iF) rfl rfl (by decide +kernel) (zDj rfl B.range (aA (aY aR dH rfl B.len PySem.boot_len (aA (aB 2 (pv 2)) aF aD)) aF aQ)) (fun C2 s2 H2 fp2 G W=>⟨kX,(aL W c_line_at rfl (aA (aB 3 (pv 3)) (aA (aB 4 (pv 4)) (aA (aB 5 (pv 5)) aF aD) aD) aD))⟩)))))))
theorem zLX (F:Fn K mg "law" qA ["script"] f fd) (B:Bt mg) (KT:Kt K) (C:Ct K mg) (R:Rt K mg) (ET:Et K mg) (c_law_cell_at:CanM P w K mg base k "_law_cell_at" ["script", "k"] dR) (c_law_claims:CanM P w K mg base k "_law_claims" ["cells", "plan"] fX) (c_law_weights:CanM P w K mg base k "_law_weights" ["cells", "plan"] eZ) (c_way_lines:CanM P w K mg base k "way_lines" ["way", "weights", "claims"] dP) (c_law_all_fine:CanM P w K mg base k "_law_all_fine" ["found", "claims"] dG) (c_law_even_right:CanM P w K mg base k "_law_even_right" ["found", "weights", "claims"] cZ) (c_turned:CanM P w K mg base k "turned" ["line"] lW):FnOk P w K mg base (CX1 P w) (k+1) f fd ["script"] (spM K mg 1 zKv):=
  zLF F mK fun cdv A outer s H E G W WR=>(aI (bJ (i:=1) mK.nd rfl (Or.inl rfl) (aL W c_law_cell_at rfl (aA (aB 0 (pv 0)) (aA (aS aH fun _=>.int _) aF bO) aD)))
 (aI (bJ (i:=2) mK.nd rfl (Or.inl rfl) (PEf.d (cB W c_law_claims rfl (aA (PEf.d (zCY (aB 0 (pv 0)) (zBE (aS aH fun _=>.int _)) (zBE (aS aH fun _=>.int _)))) (aA (aB 1 (pv 1)) aF aD) aN))))
 (aI (iZ (tst (eqA W.u) wL (aB 2 (pv 2)) (PEf.d (eN aF)) (bK _)) (aM (bJ (i:=2) mK.nd rfl (Or.inl rfl) (PEf.d (eN (aA (bD gJ qX (aB 1 (pv 1)) (aS aH fun _=>.int _)) aF bH))))) bL)
 (aI (bJ (i:=3) mK.nd rfl (Or.inl rfl) (PEf.d (cB W c_law_weights rfl (aA (PEf.d (iL W mK.nd rfl (sc:=aK qA) rfl rfl (by decide +kernel) (zDj rfl B.range (aA (aY aR dH rfl B.len PySem.boot_len (aA (aB 2 (pv 2)) aF aD)) aF aQ)) (fun C2 s2 H2 fp2 G W=>⟨kX,(aL W c_law_cell_at rfl (aA (aB 0 (pv 0)) (aA (bD jZ xV (aS aH fun _=>.int _) (aB 7 (pv 7))) aF bH) aD))⟩))) (aA (aB 1 (pv 1)) aF aD)))))
 (aI (bJ (i:=4) mK.nd rfl (Or.inl rfl) (PEf.d (eN (aA (PEf.d (zFI rfl B.list boot_list (aA (aB 3 (pv 3)) aF aD))) (aA (PEf.d (zFI rfl B.list boot_list (aA (aB 2 (pv 2)) aF aD))) aF aQ) aQ))))
 (aI (bJ (i:=5) mK.nd rfl (Or.inl rfl) (PEf.d (cB W c_way_lines rfl (aA (aS eH fun _=>.str _) (aA (aO aG bE (aB 4 (pv 4)) (aS aH fun _=>.int _) (fun _ _=>rfl)) (aA (aO aG bE (aB 4 (pv 4)) (aS aH fun _=>.int _) (fun _ _=>rfl)) aF aN) aN) bO))))
 (aI (iZ (PWd.pt (zEi (zBP (sT (aL W c_law_all_fine rfl (aA (aB 5 (pv 5)) (aA (aB 2 (pv 2)) aF aD) aD)))) (rQ (zBP (sT (aL W c_law_even_right rfl (aA (aB 5 (pv 5)) (aA (aB 3 (pv 3)) (aA (aB 2 (pv 2)) aF aD) aD) aD))))))) (aM (cK (aS nK fun _=>.bl _))) bL)
 (aI (bJ (i:=6) mK.nd rfl (Or.inl rfl) (PEf.d (cB W c_way_lines rfl (aA (aS eH fun _=>.str _) (aA (aO aG bE (aB 4 (pv 4)) (aS aH fun _=>.int _) (fun _ _=>rfl)) (aA (aO aG bE (aB 4 (pv 4)) (aS aH fun _=>.int _) (fun _ _=>rfl)) aF aN) aN) bO))))
 (aI (iZ (PWd.pt (zEi (zBP (sT (sM KT.list rfl B.isinstance (aB 6 (pv 6)) (nN (v:=.ty "list") rfl B.list boot_list rfl)))) (rQ (tst (neA W.u) zGL (aB 6 (pv 6)) (PEf.d (iL W mK.nd rfl (sc:=aK qA) rfl rfl (by decide +kernel) (jG (aB 5 (pv 5))) (fun C2 s2 H2 fp2 G W=>⟨kX,(aL W c_turned rfl (aA (aB 7 (pv 7)) aF aD))⟩))) (bK _))))) (aM (cK (aS nK fun _=>.bl _))) bL)
 (aM (cK (zIK (qJ (eqA W.u) wL (aB 4 (pv 4)) (PEf.d (eN (aA (aB 3 (pv 3)) (aA (aB 2 (pv 2)) aF aD) aD))) (bK _)) (zIv (aL W c_law_all_fine rfl (aA (aB 6 (pv 6)) (aA (aB 2 (pv 2)) aF aD) aD)))))))))))))))
end
end Lw
namespace Lw
open PySem PySem.Spec PyProof.Rows L2 L3
def FnK (K:PySem.W.Frag) (x:Str) (st:Stmt):Prop:=∃ f oc od sl kV dc pm an cd ct,PySem.W.nsIn K mainGlobals x=some (some (.ref f))/\K.lookup f=some ⟨oc,od,.func (PySem.W.fnOf x x (iW st) (eX st) (aK st) .none kV dc pm an cd ct),sl⟩/\PySem.W.codeIn K cd x=true/\PySem.W.keepIn K (.ref f)=true
theorem fk {K:PySem.W.Frag} {h:Heap} {mg:Str->Option Value} {x:Str} {st:Stmt} (X:K.In h) (G:h.Ns mainGlobals mg) (d:FnK K x st) (ps:List Str) (hb:∀ (kV doc pm:Value) (an:Option Addr) (cdv ct:Value) (us:List Value),us.length=ps.length->bindArgs (PySem.W.fnOf x x (iW st) (eX st) (aK st) .none kV doc pm an cdv ct) ⟨us,[]⟩=pure (ps.zip us)):∃ f fd,Fn K mg x st ps f fd:=by
 obtain ⟨f,oc,od,sl,kV,dc,pm,an,cd,ct,a,l,c,k⟩:=d
 exact ⟨f,_,vZ (st:=st) l c k,(vZ (st:=st) l c k).binds (ps:=ps) hb,k,PySem.W.mg_of X G a⟩
theorem fkm {K:PySem.W.Frag} {x:Str} {st:Stmt} {f:Addr} {oc:Value} {od an:Option Addr} {sl:Array (Option Value)} {kV dc pm cd ct:Value} (a:PySem.W.nsIn K mainGlobals x=some (some (.ref f))) (l:K.lookup f=some ⟨oc,od,.func (PySem.W.fnOf x x (iW st) (eX st) (aK st) .none kV dc pm an cd ct),sl⟩) (c:PySem.W.codeIn K cd x=true) (k:PySem.W.keepIn K (.ref f)=true):FnK K x st:=⟨f,oc,od,sl,kV,dc,pm,an,cd,ct,a,l,c,k⟩
theorem zKO {l:PySem.W.OpenLaw} {w:World} {K:PySem.W.Frag} {h:Heap} {mg:Str->Option Value} {fa f9 f50:Addr} (X:K.In h) (G:h.Ns mainGlobals mg) (hfa:mg "law" = some (.ref fa))
  {od9 an9:Option Addr} {sl9:Array (Option Value)} {oc9 kV9 dc9 pm9 ct9:Value}
  {od50 an50:Option Addr} {sl50:Array (Option Value)} {oc50 kV50 dc50 pm50 cd50 ct50:Value}
  (d0:FnK K "common_divisor" gI)
  (d1:FnK K "made" zFU)
  (d2:FnK K "whole" zBq)
  (d3:FnK K "plus" zEF)
  (d4:FnK K "minus" zCj)
  (d5:FnK K "times" zCk)
  (d6:FnK K "over" zFd)
  (d7:FnK K "less" zFv)
  (d8:FnK K "lesser" zB)
  {cR T:Addr}
  (a9:PySem.W.nsIn K mainGlobals "ranked" = some (some (.ref f9))) (l9:K.lookup f9=some ⟨oc9,od9,.func (PySem.W.fnOf "ranked" "ranked" (iW gK) (eX gK) (aK gK) .none kV9 dc9 pm9 an9 (.ref cR) ct9),sl9⟩) (c9:PySem.W.codeIn K (.ref cR) "ranked" = true) (k9:PySem.W.keepIn K (.ref f9)=true)
  (tq:PySem.W.codeHdIn K cR T=true) (tn:K.lookup T=none)
  (d10:FnK K "line_of" tL)
  (d11:FnK K "refuse_bad" lG)
  (d12:FnK K "is_between" lB)
  (d13:FnK K "turned" rM)
  (d14:FnK K "looked" wY)
  (d15:FnK K "refuse_way" lF)
  (d16:FnK K "refuse_claims" iE)
  (d17:FnK K "refuse_weights" gG)
  (d18:FnK K "contrary_way" jC)
  (d19:FnK K "rightly_dealt" dN)
  (d20:FnK K "row_dealt" mZ)
  (d21:FnK K "even_dealt" kU)
  (d22:FnK K "levels_of" jR)
  (d23:FnK K "part_dealt" iK)
  (d24:FnK K "half_dealt" iS)
  (d25:FnK K "way_lines" iF)
  (d26:FnK K "line_at" pA)
  (d27:FnK K "joints_of" iA)
  (d28:FnK K "row_joints" lQ)
  (d29:FnK K "even_joints" jQ)
  (d30:FnK K "mirrored" lX)
  (d31:FnK K "without_doubles" fO)
  (d32:FnK K "_law_cell_at" kB)
  (d33:FnK K "_law_made" pZ)
  (d34:FnK K "_law_plus" pM)
  (d35:FnK K "_law_minus" mO)
  (d36:FnK K "_law_times" mY)
  (d37:FnK K "_law_less" pP)
  (d38:FnK K "_law_is_fraction" fJ)
  (d39:FnK K "_law_fewest" lO)
  (d40:FnK K "_law_value" mV)
  (d41:FnK K "_law_fine" qE)
  (d42:FnK K "_law_all_fine" iX)
  (d43:FnK K "_law_claims" lP)
  (d44:FnK K "_law_weights" jU)
  (d45:FnK K "_law_min" rP)
  (d46:FnK K "_law_total" mU)
  (d47:FnK K "_law_levels" lI)
  (d48:FnK K "_law_even_at" gP)
  (d49:FnK K "_law_even_right" cX)
  (a50:PySem.W.nsIn K mainGlobals "law" = some (some (.ref f50))) (l50:K.lookup f50=some ⟨oc50,od50,.func (PySem.W.fnOf "law" "law" (iW qA) (eX qA) (aK qA) .none kV50 dc50 pm50 an50 cd50 ct50),sl50⟩) (c50:PySem.W.codeIn K cd50 "law" = true) (k50:PySem.W.keepIn K (.ref f50)=true)
  (z_abs:PySem.W.nsIn K mainGlobals "abs" = some none)
  (z_sorted:PySem.W.nsIn K mainGlobals "sorted" = some none)
  (z_range:PySem.W.nsIn K mainGlobals "range" = some none)
  (z_len:PySem.W.nsIn K mainGlobals "len" = some none)
  (z_tuple:PySem.W.nsIn K mainGlobals "tuple" = some none)
  (z_reversed:PySem.W.nsIn K mainGlobals "reversed" = some none)
  (z_sum:PySem.W.nsIn K mainGlobals "sum" = some none)
  (z_zip:PySem.W.nsIn K mainGlobals "zip" = some none)
  (z_isinstance:PySem.W.nsIn K mainGlobals "isinstance" = some none)
  (z_bool:PySem.W.nsIn K mainGlobals "bool" = some none)
  (z_int:PySem.W.nsIn K mainGlobals "int" = some none)
  (z_list:PySem.W.nsIn K mainGlobals "list" = some none)
  (KT:Kt K) (CC:∀ (h:Heap) (mg:Str->Option Value),K.In h->h.Ns mainGlobals mg->Ct K mg) (RR:∀ (h:Heap) (mg:Str->Option Value),K.In h->h.Ns mainGlobals mg->Rt K mg) (EE:∀ (h:Heap) (mg:Str->Option Value),K.In h->h.Ns mainGlobals mg->Et K mg)
  : K.lookup T=none/\nX K mg T/\∃ fd:FuncData,(∀ (s:Shared) (v:Value),BindsTo s fd ⟨[v],[]⟩ [("script", v)])/\∀ base:Heap,K.In base->base.Ns mainGlobals mg->BMn base mg->FnOk l.prog w K mg base (CX1 l.prog w) 10 fa fd ["script"] (zMP K mg):=by
 have e:=hfa.symm.trans (PySem.W.mg_of X G a50)
 cases e
 have B:Bt mg:=⟨PySem.W.mg_none_of X G z_abs,PySem.W.mg_none_of X G z_sorted,PySem.W.mg_none_of X G z_range,PySem.W.mg_none_of X G z_len,PySem.W.mg_none_of X G z_tuple,PySem.W.mg_none_of X G z_reversed,PySem.W.mg_none_of X G z_sum,PySem.W.mg_none_of X G z_zip,PySem.W.mg_none_of X G z_isinstance,PySem.W.mg_none_of X G z_bool,PySem.W.mg_none_of X G z_int,PySem.W.mg_none_of X G z_list⟩
 have C:Ct K mg:=CC h mg X G
 have R:Rt K mg:=RR h mg X G
 have ET:Et K mg:=EE h mg X G
 have hT:nX K mg T:=⟨f9,_,_,_,_,cR,PySem.W.mg_of X G a9,l9,rfl,fun h X=>PySem.W.codeHd_of_K X tq⟩
 refine ⟨tn,hT,?_⟩
 refine ⟨PySem.W.fnOf "law" "law" (iW qA) (eX qA) (aK qA) .none kV50 dc50 pm50 an50 cd50 ct50,fun s v=>.of_eq rfl,fun base _ _ hB=>?_⟩
 obtain ⟨_,_,F0⟩:=fk X G d0 ["one", "two"] fun _ _ _ _ _ _ us hl=>by obtain ⟨_,_,rfl⟩:=L3.ln2 hl;rfl
 have c_common_divisor:=pO (P:=l.prog) (w:=w) (base:=base) (k:=0) F0 B KT C R ET
 obtain ⟨_,_,F2⟩:=fk X G d2 ["number"] fun _ _ _ _ _ _ us hl=>by obtain ⟨_,rfl⟩:=L3.ln1 hl;rfl
 have c_whole:=zHc (P:=l.prog) (w:=w) (base:=base) (k:=0) F2 B KT C R ET
 obtain ⟨_,_,F7⟩:=fk X G d7 ["one", "two"] fun _ _ _ _ _ _ us hl=>by obtain ⟨_,_,rfl⟩:=L3.ln2 hl;rfl
 have c_less:=zKD (P:=l.prog) (w:=w) (base:=base) (k:=0) F7 B KT C R ET
 have F9:Fn K mg "ranked" gK ["some"] _ _:=⟨vZ (st:=gK) l9 c9 k9,(vZ (st:=gK) l9 c9 k9).binds (ps:=["some"]) fun _ _ _ _ _ _ us hl=>by obtain ⟨_,rfl⟩:=L3.ln1 hl;rfl,k9,PySem.W.mg_of X G a9⟩
 have c_ranked:=zGB (P:=l.prog) (w:=w) (base:=base) (k:=0) F9 B KT C R ET hT hB
 obtain ⟨_,_,F15⟩:=fk X G d15 ["way"] fun _ _ _ _ _ _ us hl=>by obtain ⟨_,rfl⟩:=L3.ln1 hl;rfl
 have c_refuse_way:=xW (P:=l.prog) (w:=w) (base:=base) (k:=0) F15 B KT C R ET
 obtain ⟨_,_,F16⟩:=fk X G d16 ["claims"] fun _ _ _ _ _ _ us hl=>by obtain ⟨_,rfl⟩:=L3.ln1 hl;rfl
 have c_refuse_claims:=qQ (P:=l.prog) (w:=w) (base:=base) (k:=0) F16 B KT C R ET
 obtain ⟨_,_,F17⟩:=fk X G d17 ["way", "weights", "many"] fun _ _ _ _ _ _ us hl=>by obtain ⟨_,_,_,rfl⟩:=L3.ln3 hl;rfl
 have c_refuse_weights:=qB (P:=l.prog) (w:=w) (base:=base) (k:=0) F17 B KT C R ET
 obtain ⟨_,_,F32⟩:=fk X G d32 ["script", "k"] fun _ _ _ _ _ _ us hl=>by obtain ⟨_,_,rfl⟩:=L3.ln2 hl;rfl
 have c_law_cell_at:=vO (P:=l.prog) (w:=w) (base:=base) (k:=0) F32 B KT C R ET
 obtain ⟨_,_,F33⟩:=fk X G d33 ["top", "bottom"] fun _ _ _ _ _ _ us hl=>by obtain ⟨_,_,rfl⟩:=L3.ln2 hl;rfl
 have c_law_made:=zBY (P:=l.prog) (w:=w) (base:=base) (k:=0) F33 B KT C R ET
 obtain ⟨_,_,F37⟩:=fk X G d37 ["one", "two"] fun _ _ _ _ _ _ us hl=>by obtain ⟨_,_,rfl⟩:=L3.ln2 hl;rfl
 have c_law_less:=zBy (P:=l.prog) (w:=w) (base:=base) (k:=0) F37 B KT C R ET
 obtain ⟨_,_,F43⟩:=fk X G d43 ["cells", "plan"] fun _ _ _ _ _ _ us hl=>by obtain ⟨_,_,rfl⟩:=L3.ln2 hl;rfl
 have c_law_claims:=yY (P:=l.prog) (w:=w) (base:=base) (k:=0) F43 B KT C R ET
 obtain ⟨_,_,F44⟩:=fk X G d44 ["cells", "plan"] fun _ _ _ _ _ _ us hl=>by obtain ⟨_,_,rfl⟩:=L3.ln2 hl;rfl
 have c_law_weights:=vD (P:=l.prog) (w:=w) (base:=base) (k:=0) F44 B KT C R ET
 obtain ⟨_,_,F1⟩:=fk X G d1 ["top", "bottom"] fun _ _ _ _ _ _ us hl=>by obtain ⟨_,_,rfl⟩:=L3.ln2 hl;rfl
 have c_made:=zJz (P:=l.prog) (w:=w) (base:=base) (k:=1) F1 B KT C R ET (c_common_divisor:=c_common_divisor.mono (by decide))
 obtain ⟨_,_,F8⟩:=fk X G d8 ["one", "two"] fun _ _ _ _ _ _ us hl=>by obtain ⟨_,_,rfl⟩:=L3.ln2 hl;rfl
 have c_lesser:=zEI (P:=l.prog) (w:=w) (base:=base) (k:=1) F8 B KT C R ET (c_less:=c_less.mono (by decide))
 obtain ⟨_,_,F11⟩:=fk X G d11 ["points"] fun _ _ _ _ _ _ us hl=>by obtain ⟨_,rfl⟩:=L3.ln1 hl;rfl
 have c_refuse_bad:=yA (P:=l.prog) (w:=w) (base:=base) (k:=1) F11 B KT C R ET (c_less:=c_less.mono (by decide))
 obtain ⟨_,_,F14⟩:=fk X G d14 ["way", "weights", "claims"] fun _ _ _ _ _ _ us hl=>by obtain ⟨_,_,_,rfl⟩:=L3.ln3 hl;rfl
 have c_looked:=zEA (P:=l.prog) (w:=w) (base:=base) (k:=1) F14 B KT C R ET (c_refuse_way:=c_refuse_way.mono (by decide)) (c_refuse_claims:=c_refuse_claims.mono (by decide)) (c_refuse_weights:=c_refuse_weights.mono (by decide))
 obtain ⟨_,_,F18⟩:=fk X G d18 ["way"] fun _ _ _ _ _ _ us hl=>by obtain ⟨_,rfl⟩:=L3.ln1 hl;rfl
 have c_contrary_way:=tJ (P:=l.prog) (w:=w) (base:=base) (k:=1) F18 B KT C R ET (c_refuse_way:=c_refuse_way.mono (by decide))
 obtain ⟨_,_,F28⟩:=fk X G d28 ["claims"] fun _ _ _ _ _ _ us hl=>by obtain ⟨_,rfl⟩:=L3.ln1 hl;rfl
 have c_row_joints:=zE (P:=l.prog) (w:=w) (base:=base) (k:=1) F28 B KT C R ET (c_whole:=c_whole.mono (by decide))
 obtain ⟨_,_,F31⟩:=fk X G d31 ["joints"] fun _ _ _ _ _ _ us hl=>by obtain ⟨_,rfl⟩:=L3.ln1 hl;rfl
 have c_without_doubles:=oP (P:=l.prog) (w:=w) (base:=base) (k:=1) F31 B KT C R ET (c_less:=c_less.mono (by decide))
 obtain ⟨_,_,F34⟩:=fk X G d34 ["one", "two"] fun _ _ _ _ _ _ us hl=>by obtain ⟨_,_,rfl⟩:=L3.ln2 hl;rfl
 have c_law_plus:=zCl (P:=l.prog) (w:=w) (base:=base) (k:=1) F34 B KT C R ET (c_law_made:=c_law_made.mono (by decide))
 obtain ⟨_,_,F35⟩:=fk X G d35 ["one", "two"] fun _ _ _ _ _ _ us hl=>by obtain ⟨_,_,rfl⟩:=L3.ln2 hl;rfl
 have c_law_minus:=zAE (P:=l.prog) (w:=w) (base:=base) (k:=1) F35 B KT C R ET (c_law_made:=c_law_made.mono (by decide))
 obtain ⟨_,_,F36⟩:=fk X G d36 ["one", "two"] fun _ _ _ _ _ _ us hl=>by obtain ⟨_,_,rfl⟩:=L3.ln2 hl;rfl
 have c_law_times:=zBk (P:=l.prog) (w:=w) (base:=base) (k:=1) F36 B KT C R ET (c_law_made:=c_law_made.mono (by decide))
 obtain ⟨_,_,F38⟩:=fk X G d38 ["found"] fun _ _ _ _ _ _ us hl=>by obtain ⟨_,rfl⟩:=L3.ln1 hl;rfl
 have c_law_is_fraction:=oU (P:=l.prog) (w:=w) (base:=base) (k:=1) F38 B KT C R ET (c_law_made:=c_law_made.mono (by decide))
 obtain ⟨_,_,F45⟩:=fk X G d45 ["one", "two"] fun _ _ _ _ _ _ us hl=>by obtain ⟨_,_,rfl⟩:=L3.ln2 hl;rfl
 have c_law_min:=zEb (P:=l.prog) (w:=w) (base:=base) (k:=1) F45 B KT C R ET (c_law_less:=c_law_less.mono (by decide))
 obtain ⟨_,_,F47⟩:=fk X G d47 ["weights", "claims"] fun _ _ _ _ _ _ us hl=>by obtain ⟨_,_,rfl⟩:=L3.ln2 hl;rfl
 have c_law_levels:=wV (P:=l.prog) (w:=w) (base:=base) (k:=1) F47 B KT C R ET (c_law_made:=c_law_made.mono (by decide))
 obtain ⟨_,_,F3⟩:=fk X G d3 ["one", "two"] fun _ _ _ _ _ _ us hl=>by obtain ⟨_,_,rfl⟩:=L3.ln2 hl;rfl
 have c_plus:=zJa (P:=l.prog) (w:=w) (base:=base) (k:=2) F3 B KT C R ET (c_made:=c_made.mono (by decide))
 obtain ⟨_,_,F4⟩:=fk X G d4 ["one", "two"] fun _ _ _ _ _ _ us hl=>by obtain ⟨_,_,rfl⟩:=L3.ln2 hl;rfl
 have c_minus:=zGX (P:=l.prog) (w:=w) (base:=base) (k:=2) F4 B KT C R ET (c_made:=c_made.mono (by decide))
 obtain ⟨_,_,F5⟩:=fk X G d5 ["one", "two"] fun _ _ _ _ _ _ us hl=>by obtain ⟨_,_,rfl⟩:=L3.ln2 hl;rfl
 have c_times:=zHI (P:=l.prog) (w:=w) (base:=base) (k:=2) F5 B KT C R ET (c_made:=c_made.mono (by decide))
 obtain ⟨_,_,F6⟩:=fk X G d6 ["one", "two"] fun _ _ _ _ _ _ us hl=>by obtain ⟨_,_,rfl⟩:=L3.ln2 hl;rfl
 have c_over:=zJD (P:=l.prog) (w:=w) (base:=base) (k:=2) F6 B KT C R ET (c_made:=c_made.mono (by decide))
 obtain ⟨_,_,F22⟩:=fk X G d22 ["weights", "claims"] fun _ _ _ _ _ _ us hl=>by obtain ⟨_,_,rfl⟩:=L3.ln2 hl;rfl
 have c_levels_of:=zAd (P:=l.prog) (w:=w) (base:=base) (k:=2) F22 B KT C R ET (c_made:=c_made.mono (by decide))
 obtain ⟨_,_,F39⟩:=fk X G d39 ["points"] fun _ _ _ _ _ _ us hl=>by obtain ⟨_,rfl⟩:=L3.ln1 hl;rfl
 have c_law_fewest:=xK (P:=l.prog) (w:=w) (base:=base) (k:=2) F39 B KT C R ET (c_law_minus:=c_law_minus.mono (by decide)) (c_law_times:=c_law_times.mono (by decide))
 obtain ⟨_,_,F40⟩:=fk X G d40 ["line", "x"] fun _ _ _ _ _ _ us hl=>by obtain ⟨_,_,rfl⟩:=L3.ln2 hl;rfl
 have c_law_value:=zBl (P:=l.prog) (w:=w) (base:=base) (k:=2) F40 B KT C R ET (c_law_less:=c_law_less.mono (by decide)) (c_law_minus:=c_law_minus.mono (by decide)) (c_law_times:=c_law_times.mono (by decide)) (c_law_plus:=c_law_plus.mono (by decide))
 obtain ⟨_,_,F46⟩:=fk X G d46 ["some"] fun _ _ _ _ _ _ us hl=>by obtain ⟨_,rfl⟩:=L3.ln1 hl;rfl
 have c_law_total:=zAU (P:=l.prog) (w:=w) (base:=base) (k:=2) F46 B KT C R ET (c_law_plus:=c_law_plus.mono (by decide))
 obtain ⟨_,_,F48⟩:=fk X G d48 ["weights", "claims", "level"] fun _ _ _ _ _ _ us hl=>by obtain ⟨_,_,_,rfl⟩:=L3.ln3 hl;rfl
 have c_law_even_at:=uC (P:=l.prog) (w:=w) (base:=base) (k:=2) F48 B KT C R ET (c_law_min:=c_law_min.mono (by decide)) (c_law_times:=c_law_times.mono (by decide))
 obtain ⟨_,_,F12⟩:=fk X G d12 ["ahead", "point", "later"] fun _ _ _ _ _ _ us hl=>by obtain ⟨_,_,_,rfl⟩:=L3.ln3 hl;rfl
 have c_is_between:=yS (P:=l.prog) (w:=w) (base:=base) (k:=3) F12 B KT C R ET (c_minus:=c_minus.mono (by decide)) (c_times:=c_times.mono (by decide))
 obtain ⟨_,_,F13⟩:=fk X G d13 ["line"] fun _ _ _ _ _ _ us hl=>by obtain ⟨_,rfl⟩:=L3.ln1 hl;rfl
 have c_turned:=zFH (P:=l.prog) (w:=w) (base:=base) (k:=3) F13 B KT C R ET (c_minus:=c_minus.mono (by decide))
 obtain ⟨_,_,F20⟩:=fk X G d20 ["claims", "catch"] fun _ _ _ _ _ _ us hl=>by obtain ⟨_,_,rfl⟩:=L3.ln2 hl;rfl
 have c_row_dealt:=zAL (P:=l.prog) (w:=w) (base:=base) (k:=3) F20 B KT C R ET (c_lesser:=c_lesser.mono (by decide)) (c_minus:=c_minus.mono (by decide)) (c_whole:=c_whole.mono (by decide))
 obtain ⟨_,_,F21⟩:=fk X G d21 ["weights", "claims", "catch"] fun _ _ _ _ _ _ us hl=>by obtain ⟨_,_,_,rfl⟩:=L3.ln3 hl;rfl
 have c_even_dealt:=zH (P:=l.prog) (w:=w) (base:=base) (k:=3) F21 B KT C R ET (c_ranked:=c_ranked.mono (by decide)) (c_levels_of:=c_levels_of.mono (by decide)) (c_over:=c_over.mono (by decide)) (c_lesser:=c_lesser.mono (by decide)) (c_minus:=c_minus.mono (by decide)) (c_times:=c_times.mono (by decide)) (c_whole:=c_whole.mono (by decide))
 obtain ⟨_,_,F23⟩:=fk X G d23 ["claims", "catch"] fun _ _ _ _ _ _ us hl=>by obtain ⟨_,_,rfl⟩:=L3.ln2 hl;rfl
 have c_part_dealt:=xJ (P:=l.prog) (w:=w) (base:=base) (k:=3) F23 B KT C R ET (c_over:=c_over.mono (by decide)) (c_whole:=c_whole.mono (by decide)) (c_times:=c_times.mono (by decide))
 obtain ⟨_,_,F29⟩:=fk X G d29 ["weights", "claims"] fun _ _ _ _ _ _ us hl=>by obtain ⟨_,_,rfl⟩:=L3.ln2 hl;rfl
 have c_even_joints:=uL (P:=l.prog) (w:=w) (base:=base) (k:=3) F29 B KT C R ET (c_levels_of:=c_levels_of.mono (by decide)) (c_ranked:=c_ranked.mono (by decide)) (c_plus:=c_plus.mono (by decide)) (c_whole:=c_whole.mono (by decide)) (c_times:=c_times.mono (by decide))
 obtain ⟨_,_,F30⟩:=fk X G d30 ["joints", "most"] fun _ _ _ _ _ _ us hl=>by obtain ⟨_,_,rfl⟩:=L3.ln2 hl;rfl
 have c_mirrored:=zBU (P:=l.prog) (w:=w) (base:=base) (k:=3) F30 B KT C R ET (c_minus:=c_minus.mono (by decide))
 obtain ⟨_,_,F41⟩:=fk X G d41 ["found"] fun _ _ _ _ _ _ us hl=>by obtain ⟨_,rfl⟩:=L3.ln1 hl;rfl
 have c_law_fine:=zBX (P:=l.prog) (w:=w) (base:=base) (k:=3) F41 B KT C R ET (c_law_fewest:=c_law_fewest.mono (by decide)) (c_law_less:=c_law_less.mono (by decide)) (c_law_is_fraction:=c_law_is_fraction.mono (by decide))
 obtain ⟨_,_,F49⟩:=fk X G d49 ["found", "weights", "claims"] fun _ _ _ _ _ _ us hl=>by obtain ⟨_,_,_,rfl⟩:=L3.ln3 hl;rfl
 have c_law_even_right:=qG (P:=l.prog) (w:=w) (base:=base) (k:=3) F49 B KT C R ET (c_law_levels:=c_law_levels.mono (by decide)) (c_law_total:=c_law_total.mono (by decide)) (c_law_times:=c_law_times.mono (by decide)) (c_law_even_at:=c_law_even_at.mono (by decide)) (c_law_plus:=c_law_plus.mono (by decide)) (c_law_value:=c_law_value.mono (by decide))
 obtain ⟨_,_,F10⟩:=fk X G d10 ["points"] fun _ _ _ _ _ _ us hl=>by obtain ⟨_,rfl⟩:=L3.ln1 hl;rfl
 have c_line_of:=zDy (P:=l.prog) (w:=w) (base:=base) (k:=4) F10 B KT C R ET (c_refuse_bad:=c_refuse_bad.mono (by decide)) (c_is_between:=c_is_between.mono (by decide))
 obtain ⟨_,_,F24⟩:=fk X G d24 ["claims", "catch"] fun _ _ _ _ _ _ us hl=>by obtain ⟨_,_,rfl⟩:=L3.ln2 hl;rfl
 have c_half_dealt:=xC (P:=l.prog) (w:=w) (base:=base) (k:=4) F24 B KT C R ET (c_times:=c_times.mono (by decide)) (c_even_dealt:=c_even_dealt.mono (by decide)) (c_plus:=c_plus.mono (by decide))
 obtain ⟨_,_,F42⟩:=fk X G d42 ["found", "claims"] fun _ _ _ _ _ _ us hl=>by obtain ⟨_,_,rfl⟩:=L3.ln2 hl;rfl
 have c_law_all_fine:=rV (P:=l.prog) (w:=w) (base:=base) (k:=4) F42 B KT C R ET (c_law_fine:=c_law_fine.mono (by decide))
 obtain ⟨_,_,F26⟩:=fk X G d26 ["joints", "dealings", "spot"] fun _ _ _ _ _ _ us hl=>by obtain ⟨_,_,_,rfl⟩:=L3.ln3 hl;rfl
 have c_line_at:=zEf (P:=l.prog) (w:=w) (base:=base) (k:=5) F26 B KT C R ET (c_line_of:=c_line_of.mono (by decide))
 obtain ⟨_,_,F27⟩:=fk X G d27 ["way", "weights", "claims"] fun _ _ _ _ _ _ us hl=>by obtain ⟨_,_,_,rfl⟩:=L3.ln3 hl;rfl
 have c_joints_of:=qN (P:=l.prog) (w:=w) (base:=base) (k:=4) F27 B KT C R ET (c_whole:=c_whole.mono (by decide)) (c_mirrored:=c_mirrored.mono (by decide)) (c_row_joints:=c_row_joints.mono (by decide)) (c_even_joints:=c_even_joints.mono (by decide)) (c_times:=c_times.mono (by decide)) (c_contrary_way:=c_contrary_way.mono (by decide)) 2
 obtain ⟨_,_,F19⟩:=fk X G d19 ["way", "weights", "claims", "catch"] fun _ _ _ _ _ _ us hl=>by obtain ⟨_,_,_,_,rfl⟩:=L3.ln4 hl;rfl
 have c_rightly_dealt:=kF (P:=l.prog) (w:=w) (base:=base) (k:=5) F19 B KT C R ET (c_whole:=c_whole.mono (by decide)) (c_row_dealt:=c_row_dealt.mono (by decide)) (c_even_dealt:=c_even_dealt.mono (by decide)) (c_part_dealt:=c_part_dealt.mono (by decide)) (c_half_dealt:=c_half_dealt.mono (by decide)) (c_minus:=c_minus.mono (by decide)) (c_less:=c_less.mono (by decide)) (c_plus:=c_plus.mono (by decide)) 2
 obtain ⟨_,_,F25⟩:=fk X G d25 ["way", "weights", "claims"] fun _ _ _ _ _ _ us hl=>by obtain ⟨_,_,_,rfl⟩:=L3.ln3 hl;rfl
 have c_way_lines:=zAS (P:=l.prog) (w:=w) (base:=base) (k:=8) F25 B KT C R ET (c_looked:=c_looked.mono (by decide)) (c_without_doubles:=c_without_doubles.mono (by decide)) (c_joints_of:=c_joints_of.mono (by decide)) (c_rightly_dealt:=c_rightly_dealt.mono (by decide)) (c_line_at:=c_line_at.mono (by decide))
 have F50:Fn K mg "law" qA ["script"] _ _:=⟨vZ (st:=qA) l50 c50 k50,(vZ (st:=qA) l50 c50 k50).binds (ps:=["script"]) fun _ _ _ _ _ _ us hl=>by obtain ⟨_,rfl⟩:=L3.ln1 hl;rfl,k50,PySem.W.mg_of X G a50⟩
 have c_law:=zLX (P:=l.prog) (w:=w) (base:=base) (k:=9) F50 B KT C R ET (c_law_cell_at:=c_law_cell_at.mono (by decide)) (c_law_claims:=c_law_claims.mono (by decide)) (c_law_weights:=c_law_weights.mono (by decide)) (c_way_lines:=c_way_lines.mono (by decide)) (c_law_all_fine:=c_law_all_fine.mono (by decide)) (c_law_even_right:=c_law_even_right.mono (by decide)) (c_turned:=c_turned.mono (by decide))
 exact zKq c_law law_true
end Lw
open PySem PySem.W PyProof.Rows
local macro_rules | `(tactic| walk_at "fk")=>`(tactic| (refine' Lw.fkm ?a ?l ?c ?k;(case a=>k_is);(case l=>k_is);(case c=>k_is);(case k=>k_is)))
set_option maxRecDepth 100000 in
set_option maxHeartbeats 0 in
theorem PySem.Challenge.cw_catchhall_k20_even_and_lacking_lines_holds : PySem.Challenge.rw_catchhall_k20_even_and_lacking_lines.Holds := by
 w_on;o_law;k_head;(case hw=>w_witness2)
 k_fill
 refine L3.zMT (l:=PySem.Challenge.rw_catchhall_k20_even_and_lacking_lines) (k:=10) rfl rfl ⟨rfl,by decide,by decide⟩ (fun w h Y=>PySem.W.km_in_of Y) (fun w h Y=>PySem.W.km_tabs_of Y _ (.head _)) ?F
 case F=>
  intro w mg fa h KX G hmg
  refine' Lw.zKO KX G hmg ?d0 ?d1 ?d2 ?d3 ?d4 ?d5 ?d6 ?d7 ?d8 ?a9 ?l9 ?c9 ?k9 ?tq ?tn ?d10 ?d11 ?d12 ?d13 ?d14 ?d15 ?d16 ?d17 ?d18 ?d19 ?d20 ?d21 ?d22 ?d23 ?d24 ?d25 ?d26 ?d27 ?d28 ?d29 ?d30 ?d31 ?d32 ?d33 ?d34 ?d35 ?d36 ?d37 ?d38 ?d39 ?d40 ?d41 ?d42 ?d43 ?d44 ?d45 ?d46 ?d47 ?d48 ?d49 ?a50 ?l50 ?c50 ?k50 ?z_abs ?z_sorted ?z_range ?z_len ?z_tuple ?z_reversed ?z_sum ?z_zip ?z_isinstance ?z_bool ?z_int ?z_list ?KT ?CC ?RR ?EE
  (case a9=>k_is)
  (case l9=>k_is)
  (case c9=>k_is)
  (case k9=>k_is)
  (case tq=>first | k_is | kernel_rfl | kn_code | decide +kernel)
  (case tn=>first | k_is | kernel_rfl | kn_code | decide +kernel)
  (case a50=>k_is)
  (case l50=>k_is)
  (case c50=>k_is)
  (case k50=>k_is)
  (case d0=>walk_at "fk")
  (case d1=>walk_at "fk")
  (case d2=>walk_at "fk")
  (case d3=>walk_at "fk")
  (case d4=>walk_at "fk")
  (case d5=>walk_at "fk")
  (case d6=>walk_at "fk")
  (case d7=>walk_at "fk")
  (case d8=>walk_at "fk")
  (case d10=>walk_at "fk")
  (case d11=>walk_at "fk")
  (case d12=>walk_at "fk")
  (case d13=>walk_at "fk")
  (case d14=>walk_at "fk")
  (case d15=>walk_at "fk")
  (case d16=>walk_at "fk")
  (case d17=>walk_at "fk")
  (case d18=>walk_at "fk")
  (case d19=>walk_at "fk")
  (case d20=>walk_at "fk")
  (case d21=>walk_at "fk")
  (case d22=>walk_at "fk")
  (case d23=>walk_at "fk")
  (case d24=>walk_at "fk")
  (case d25=>walk_at "fk")
  (case d26=>walk_at "fk")
  (case d27=>walk_at "fk")
  (case d28=>walk_at "fk")
  (case d29=>walk_at "fk")
  (case d30=>walk_at "fk")
  (case d31=>walk_at "fk")
  (case d32=>walk_at "fk")
  (case d33=>walk_at "fk")
  (case d34=>walk_at "fk")
  (case d35=>walk_at "fk")
  (case d36=>walk_at "fk")
  (case d37=>walk_at "fk")
  (case d38=>walk_at "fk")
  (case d39=>walk_at "fk")
  (case d40=>walk_at "fk")
  (case d41=>walk_at "fk")
  (case d42=>walk_at "fk")
  (case d43=>walk_at "fk")
  (case d44=>walk_at "fk")
  (case d45=>walk_at "fk")
  (case d46=>walk_at "fk")
  (case d47=>walk_at "fk")
  (case d48=>walk_at "fk")
  (case d49=>walk_at "fk")
  (case z_abs=>k_is)
  (case z_sorted=>k_is)
  (case z_range=>k_is)
  (case z_len=>k_is)
  (case z_tuple=>k_is)
  (case z_reversed=>k_is)
  (case z_sum=>k_is)
  (case z_zip=>k_is)
  (case z_isinstance=>k_is)
  (case z_bool=>k_is)
  (case z_int=>k_is)
  (case z_list=>k_is)
  (case KT=>refine' ⟨⟨?t0_0,?t0_1,?t0_2,?t0_3,?t0_4,?t0_5⟩,⟨?t1_0,?t1_1,?t1_2,?t1_3,?t1_4,?t1_5⟩,⟨?t2_0,?t2_1,?t2_2,?t2_3,?t2_4,?t2_5⟩,⟨?t3_0,?t3_1,?t3_2,?t3_3,?t3_4,?t3_5⟩⟩<;>(first | kit_is | (show _=some true;kit_is) | (show _=some false;kit_is) | rfl | decide +kernel))
  (case CC=>
   intro h mg X G
   refine' Lw.zNC X G ?n_ACROSS ?n_HALF ?pHALF0_l ?n_NOUGHT ?pNOUGHT1_l ?n_UP ?n_WEIGHTED ?pWEIGHTED2_l ?n_CONTRARY ?aW<;>try first | k_is | kit_is | k_exc | rfl | decide +kernel | kernel_rfl)
  (case RR=>
   intro h mg X G
   refine' Lw.zNu X G ?n_BadClaim ?x_BadClaim ?n_BadLine ?x_BadLine ?n_BadWay ?x_BadWay ?n_BadWeights ?x_BadWeights ?n_NoFraction ?x_NoFraction<;>try first | k_is | kit_is | k_exc | rfl | decide +kernel | kernel_rfl)
  (case EE=>
   intro h mg X G
   refine' Lw.zNg X G )
