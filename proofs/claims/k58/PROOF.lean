import PyProof.Rows.All
import Wide.All
import OpenK.AllK
import Wide.FinOn
import Lean
import PyProof.EqAt
import PyProof.EqKinds
import PyProof.TupleCall
import PyProof.NeKinds
import KE.KRevIter
import PyProof.Rows.SumAny
import PySem.Challenge.RW_catchhall_k58_whole_there_and_back
noncomputable section
set_option Elab.async false
set_option linter.all false
set_option maxRecDepth 100000
namespace L2
open PySem PySem.Spec PyProof.Rows
abbrev Key:=Sum Int Str
def zIX:Key->Value->Bool
 | .inl k,v=>Value.isInt k v
 | .inr x,v=>Value.isStrOf x v
def zLR (w:World):Key->Int
 | .inl k=>hashInt k
 | .inr x=>hashStr w x
theorem cE:∀ {k:Key} {v:Value},zIX k v=true->(∃ i t,k=Sum.inl i/\v=Value.int i t)∨(∃ x t,k=Sum.inr x/\v=Value.str x t)
 | .inl i,v,h=>by
  obtain ⟨t,e⟩:=Value.isInt_shape (k:=i) (v:=v) h
  exact .inl ⟨i,t,rfl,e⟩
 | .inr x,v,h=>by
  obtain ⟨t,e⟩:=Value.isStrOf_shape (x:=x) (v:=v) h
  exact .inr ⟨x,t,rfl,e⟩
theorem zHX (a b:Int):decide ((Sum.inl a:Key)=Sum.inl b)=(a==b):=by
 by_cases e:a=b
 ·subst e;simp
 ·have h:¬ (Sum.inl a:Key)=Sum.inl b:=fun q=>e (Sum.inl.inj q)
  rw [decide_eq_false h]
  exact (beq_eq_false_iff_ne.mpr e).symm
theorem zHx (a b:Str):decide ((Sum.inr a:Key)=Sum.inr b)=decide (a=b):=by
 by_cases e:a=b
 ·subst e;simp
 ·have h:¬ (Sum.inr a:Key)=Sum.inr b:=fun q=>e (Sum.inr.inj q)
  rw [decide_eq_false h,decide_eq_false e]
theorem zHN (a:Int) (b:Str):decide ((Sum.inl a:Key)=Sum.inr b)=false:=decide_eq_false (fun q=>nomatch q)
theorem zJl (a:Str) (b:Int):decide ((Sum.inr a:Key)=Sum.inl b)=false:=decide_eq_false (fun q=>nomatch q)
def zBa (prog:Program) (w:World):PySem.KeyKind prog w Key where
 is:=zIX
 hash:=zLR w
 inj:=fun v a b ha hb=>by
  rcases cE ha with ⟨i,t,rfl,rfl⟩ | ⟨x,t,rfl,rfl⟩
  ·rcases cE hb with ⟨j,u,rfl,e⟩ | ⟨y,u,rfl,e⟩
   ·injection e with e1 _;rw [e1]
   ·exact nomatch e
  ·rcases cE hb with ⟨j,u,rfl,e⟩ | ⟨y,u,rfl,e⟩
   ·exact nomatch e
   ·injection e with e1 _;rw [e1]
 byValue:=fun k v h=>by
  rcases cE h with ⟨i,t,rfl,rfl⟩ | ⟨x,t,rfl,rfl⟩<;>rfl
 pyHash:=fun hv h=>by
  rcases cE hv with ⟨i,t,rfl,rfl⟩ | ⟨x,t,rfl,rfl⟩
  ·exact wpAny_pyHash_int h
  ·exact wpAny_pyHash_str h
 eqBool:=fun hu hv h=>by
  rcases cE hu with ⟨i,t,rfl,rfl⟩ | ⟨x,t,rfl,rfl⟩
  ·rcases cE hv with ⟨j,u,rfl,rfl⟩ | ⟨y,u,rfl,rfl⟩
   ·rw [zHX] at h;exact wpAny_eqBool_int h
   ·rw [zHN] at h;exact SeqAt.EqAt.int_str i t y u _ _ _ _ h
  ·rcases cE hv with ⟨j,u,rfl,rfl⟩ | ⟨y,u,rfl,rfl⟩
   ·rw [zJl] at h;exact SeqAt.EqAt.str_int x t j u _ _ _ _ h
   ·rw [zHx] at h;exact wpAny_eqBool_str h
 «strs» := fun k x t v h=>by
  rcases cE h with ⟨i,u,rfl,e⟩ | ⟨y,u,rfl,e⟩
  ·exact nomatch e
  ·injection e with e1 _
   subst e1
   cases v<;>rfl
end L2
namespace L2
open PySem PySem.Spec PyProof.Rows
inductive V where
 | non | bl (b:Bool) | int (i:Int) | str (x:Str) | byt (b:Array UInt8) | flt (b:UInt64) | ref (a:Addr) | ty (n:String)
 deriving DecidableEq
def cI:V->Value->Prop
 | .non,u=>u=Value.none
 | .bl b,u=>u=Value.bool b
 | .int i,u=>∃ t,u=Value.int i t
 | .str x,u=>∃ t,u=Value.str x t
 | .byt b,u=>∃ t,u=Value.bytes b t
 | .flt b,u=>∃ t,u=Value.float b t
 | .ref a,u=>u=Value.ref a
 | .ty n,u=>u=Value.type n
abbrev dM:List V->List Value->Prop:=Paired cI
theorem dM.length {xs:List V} {us:List Value} (r:dM xs us):xs.length=us.length:=Paired.length r
theorem dM.get:∀ {xs:List V} {us:List Value} {i:Nat} {x:V},dM xs us->xs[i]?=some x->∃ u,us[i]?=some u/\cI x u
 | _,_,_,_,.nil,e=>by simp at e
 | _,_,0,_,.cons r _,e=>by simp at e;subst e;exact ⟨_,rfl,r⟩
 | _,_,i+1,x,.cons _ t,e=>by
  obtain ⟨u,h1,h2⟩:=dM.get (i:=i) (x:=x) t (by simpa using e)
  exact ⟨u,by simpa using h1,h2⟩
theorem dM.append:∀ {xs ys:List V} {us ws:List Value},dM xs us->dM ys ws->dM (xs++ys) (us++ws)
 | _,_,_,_,.nil,s=>s
 | _,_,_,_,.cons r t,s=>.cons r (dM.append t s)
theorem dM.take:∀ {xs:List V} {us:List Value} (n:Nat),dM xs us->dM (xs.take n) (us.take n)
 | _,_,0,_=>.nil
 | _,_,_+1,.nil=>.nil
 | _,_,n+1,.cons r t=>.cons r (dM.take n t)
theorem dM.drop:∀ {xs:List V} {us:List Value} (n:Nat),dM xs us->dM (xs.drop n) (us.drop n)
 | _,_,0,r=>r
 | _,_,_+1,.nil=>.nil
 | _,_,n+1,.cons _ t=>dM.drop n t
def zDb:Option V->Option Value->Prop
 | some v,some u=>cI v u
 | none,none=>True
 | _,_=>False
def KV {κ:Type}:List (κ×V)->List (κ×Value)->Prop:=Paired fun (p:κ×V) (q:κ×Value)=>p.1=q.1/\cI p.2 q.2
def kV:Key->V
 | .inl i=>.int i
 | .inr x=>.str x
inductive HO where
 | lst (xs:List V)
 | tup (xs:List V)
 | dK (kvs:List (Key×V)) | dT (kvs:List (List Key×V))
 | set (S:Int->Bool) (n:Nat)
 | ins (C dx:Addr) (fs:List (Str×V))
 | own (x:Addr)
 | xd (fs:List (Str×V))
 | met (f x:Addr)
 | rng (lo hi:Int)
 | frz (o:Obj) (u:HO)
 | tbl (ps:Array Value)
 | ext (φ:Heap->Prop)
abbrev Hp:=Addr->Option HO
def upd (H:Hp) (a:Addr) (o:HO):Hp:=fun b=>if b=a then some o else H b
theorem aE {H:Hp} {a:Addr} {o:HO}:upd H a o a=some o:=by unfold upd;rw [if_pos rfl]
theorem aG {H:Hp} {a b:Addr} {o:HO} (h:b≠a):upd H a o b=H b:=by unfold upd;rw [if_neg h]
theorem zW {H:Hp} {a b:Addr} {o u:HO} (h:H a=some o) (h':H b=some u) (d:o≠u):a≠b:=by
 intro e;subst e;rw [h] at h';exact d (Option.some.inj h')
theorem aZ {H:Hp} {a b:Addr} {o:HO} (h:H a=some o) (h':H b=none):a≠b:=by
 intro e;subst e;rw [h] at h';cases h'
section
variable (P:Program) (w:World)
def hJ (H:Hp) (h:Heap) (a:Addr):HO->Prop
 | .lst xs=>xs.length<=sizeLine/\∃ (its:List Value) (n:Nat),dM xs its/\h.get? a=some { cls:=.type "list", data:=.seq its.toArray n }
 | .tup xs=>xs.length<=sizeLine/\∃ its:List Value,dM xs its/\IsTup h a its.toArray
 | .dK kvs=>kvs.length<=sizeLine/\(a==sysModules)=false/\∃ vs,KV kvs vs/\h.DictOf (zBa P w) a vs
 | .dT kvs=>kvs.length<=sizeLine/\(a==sysModules)=false/\∃ xs:List (List Key×Addr×Value),
   Paired (fun (p:List Key×V) (q:List Key×Addr×Value)=>p.1=q.1/\H q.2.1=some (.tup (p.1.map kV))/\cI p.2 q.2.2) kvs xs/\
   ∃ o es ep,h.get? a=some o/\o.ExactDict/\o.data=.dict es ep/\es.toList=xs.map (entryOfKey (tupleKind (zBa P w)))/\(xs.map (·.1)).Nodup
 | .set S n=>h.SetOf (intKind P w) a S n
 | .ins C dx fs=>H dx=some (.own a)/\fs.length<=1000/\dx≠a/\h.get? a=some (PySem.W.instObj C dx)/\
   ∃ mA,h.Ns1 dx mA/\(∀ f,zDb (fs.lookup f) (mA f))/\PySem.Within mA (fs.map (·.1))
 | .own _=>∃ o,h.get? a=some o
 | .xd fs=>∃ mA,h.Ns1 a mA/\∀ f,zDb (fs.lookup f) (mA f)
 | .rng lo hi=>∃ t u v,h.get? a=some { cls:=.type "range", data:=.fields #[.int lo t,.int hi u,.int 1 v] }
 | .frz o u=>h.get? a=some o/\hJ H h a u
 | .tbl ps=>h.get? a=some { cls:=.none,data:=.fields ps }
 | .met f x=>h.get? a=some (PySem.W.methodObj (.ref f) (.ref x))
 | .ext φ=>φ h/\(∃ o,h.get? a=some o)/\∀ h1 h2:Heap,φ h1->(∀ o,h1.get? a=some o->h2.get? a=some o)->φ h2
def HOk (H:Hp) (h:Heap):Prop:=∀ a o,H a=some o->hJ P w H h a o
end
section
variable {P:Program} {w:World} {H H':Hp} {h h':Heap} {a:Addr} {o:HO}
theorem hJ.lt (x:hJ P w H h a o):a < h.objs.size:=by
 cases o with
 | lst xs=>obtain ⟨_,_,_,_,e⟩:=x;exact Heap.lt_size e
 | tup xs=>obtain ⟨_,_,_,p⟩:=x;exact p.lt
 | dK kvs=>obtain ⟨_,_,_,_,o,_,_,e,_⟩:=x;exact Heap.lt_size e
 | dT kvs=>obtain ⟨_,_,_,_,o,_,_,e,_⟩:=x;exact Heap.lt_size e
 | set S n=>obtain ⟨o,_,_,_,e,_⟩:=x;exact Heap.lt_size e
 | ins C dx fs=>obtain ⟨_,_,_,e,_⟩:=x;exact Heap.lt_size e
 | own y=>obtain ⟨_,e⟩:=x;exact Heap.lt_size e
 | xd fs=>obtain ⟨_,⟨_,_,_,e,_⟩,_⟩:=x;exact Heap.lt_size e
 | rng lo hi=>obtain ⟨_,_,_,e⟩:=x;exact Heap.lt_size e
 | frz ob u=>obtain ⟨e,_⟩:=x;exact Heap.lt_size e
 | tbl ps=>exact Heap.lt_size (show h.get? a=some _ from x)
 | met f y=>exact Heap.lt_size (show h.get? a=some _ from x)
 | ext φ=>obtain ⟨_,⟨_,e⟩,_⟩:=x;exact Heap.lt_size e
theorem Paired.mapP {α β:Type} {F G:α->β->Prop}:∀ {l₁:List α} {l₂:List β},Paired F l₁ l₂->(∀ a b,F a b->G a b)->Paired G l₁ l₂
 | _,_,.nil,_=>.nil
 | _,_,.cons r t,f=>.cons (f _ _ r) (Paired.mapP t f)
theorem hJ.stay (x:hJ P w H h a o) (k:∀ b u,(b=a∨H b=some (.own a))->h.get? b=some u->h'.get? b=some u)
  (ho:∀ b,H b=some (.own a)->H' b=some (.own a)) (ht:∀ b xs,H b=some (.tup xs)->H' b=some (.tup xs)):hJ P w H' h' a o:=by
 induction o with
 | lst xs=>obtain ⟨z,its,n,r,e⟩:=x;exact ⟨z,its,n,r,k _ _ (.inl rfl) e⟩
 | tup xs=>obtain ⟨z,its,r,ob,e,c⟩:=x;exact ⟨z,its,r,ob,k _ _ (.inl rfl) e,c⟩
 | dK kvs=>obtain ⟨z,y,vs,r,ob,es,ep,e,c⟩:=x;exact ⟨z,y,vs,r,ob,es,ep,k _ _ (.inl rfl) e,c⟩
 | dT kvs=>
  obtain ⟨z,y,xs,r,ob,es,ep,e,c⟩:=x
  exact ⟨z,y,xs,Paired.mapP r fun p q z=>⟨z.1,ht _ _ z.2.1,z.2.2⟩,ob,es,ep,k _ _ (.inl rfl) e,c⟩
 | set S n=>obtain ⟨ob,es,ep,t,e,c⟩:=x;exact ⟨ob,es,ep,t,k _ _ (.inl rfl) e,c⟩
 | ins C dx fs=>
  obtain ⟨d,z,ne,e,mA,⟨od,es,ep,e2,c⟩,r⟩:=x
  exact ⟨ho _ d,z,ne,k _ _ (.inl rfl) e,mA,⟨od,es,ep,k _ _ (.inr d) e2,c⟩,r⟩
 | own y=>obtain ⟨ob,e⟩:=x;exact ⟨ob,k _ _ (.inl rfl) e⟩
 | xd fs=>obtain ⟨mA,⟨od,es,ep,e,c⟩,r⟩:=x;exact ⟨mA,⟨od,es,ep,k _ _ (.inl rfl) e,c⟩,r⟩
 | rng lo hi=>obtain ⟨t,u,v,e⟩:=x;exact ⟨t,u,v,k _ _ (.inl rfl) e⟩
 | frz ob u ih=>obtain ⟨e,q⟩:=x;exact ⟨k _ _ (.inl rfl) e,ih q⟩
 | tbl ps=>
  have e:h.get? a=some { cls:=.none,data:=.fields ps }:=x
  show h'.get? a=some { cls:=.none,data:=.fields ps }
  exact k a _ (.inl rfl) e
 | met f y=>
  have e:h.get? a=some (PySem.W.methodObj (.ref f) (.ref y)):=x
  show h'.get? a=some (PySem.W.methodObj (.ref f) (.ref y))
  exact k a _ (.inl rfl) e
 | ext φ=>obtain ⟨p,⟨o,e⟩,st⟩:=x;exact ⟨st _ _ p fun o q=>k _ _ (.inl rfl) q,⟨o,k _ _ (.inl rfl) e⟩,st⟩
theorem HOk.lt (x:HOk P w H h) (e:H a=some o):a < h.objs.size:=(x a o e).lt
theorem HOk.fresh (x:HOk P w H h) (e:h.objs.size<=a):H a=none:=by
 cases q:H a with
 | none=>rfl
 | some u=>exact absurd (Nat.lt_of_lt_of_le (x.lt q) e) (Nat.lt_irrefl _)
theorem HOk.kept (x:HOk P w H h) (k:∀ b u,h.get? b=some u->h'.get? b=some u):HOk P w H h':=fun a o e=>
 (x a o e).stay (fun b u _ q=>k b u q) (fun _ q=>q) fun _ _ q=>q
theorem HOk.laid (x:HOk P w H h) (k:∀ b u,h.get? b=some u->h'.get? b=some u) (hp:h.objs.size<=a) (new:hJ P w (upd H a o) h' a o):HOk P w (upd H a o) h':=fun b u e=>by
 have hn:=x.fresh hp
 by_cases hb:b=a
 ·subst hb;rw [aE] at e;cases e;exact new
 ·rw [aG hb] at e
  exact (x b u e).stay (fun c v _ q=>k c v q) (fun c q=>by rw [aG (aZ q hn)];exact q) fun c xs q=>by rw [aG (aZ q hn)];exact q
end
def Rd (H:Hp) (a:Addr) (u:HO):Prop:=H a=some u∨∃ o,H a=some (.frz o u)
theorem Rd.ok {P:Program} {w:World} {H:Hp} {h:Heap} {a:Addr} {u:HO} (r:Rd H a u) (x:HOk P w H h):hJ P w H h a u:=by
 rcases r with r | ⟨o,r⟩
 ·exact x a u r
 ·obtain ⟨_,q⟩:=x a _ r
  exact q
def Mut:Option HO->Prop
 | some (.lst _)=>True
 | some (.dK _)=>True
 | some (.dT _)=>True
 | some (.set _ _)=>True
 | some (.ins _ _ _)=>True
 | some (.ext _)=>True
 | _=>False
section
variable {P:Program} {w:World} {H:Hp} {h h':Heap} {x e:Addr} {o':HO}
theorem HOk.write (ok:HOk P w H h) (mu:Mut (H x)) (he:e=x∨H e=some (.own x)) (k:∀ b u,b≠e->h.get? b=some u->h'.get? b=some u) (heo:∃ u,h'.get? e=some u)
  (new:hJ P w (upd H x o') h' x o'):HOk P w (upd H x o') h':=fun b u q=>by
 have nown:∀ c y,H c=some (.own y)->c≠x:=fun c y r z=>by subst z;rw [r] at mu;exact mu
 have ntup:∀ c xs,H c=some (.tup xs)->c≠x:=fun c xs r z=>by subst z;rw [r] at mu;exact mu
 by_cases hb:b=x
 ·subst hb;rw [aE] at q;cases q;exact new
 ·rw [aG hb] at q
  by_cases hbe:b=e
  ·have q':H b=some (.own x):=by
    rcases he with z | z
    ·exact absurd (hbe.trans z) hb
    ·rw [hbe];exact z
   rw [q] at q';cases q'
   obtain ⟨v,hv⟩:=heo
   exact ⟨v,by rw [hbe];exact hv⟩
  ·refine (ok b u q).stay (fun c v hc r=>k c v ?_ r) (fun c r=>by rw [aG (nown c b r)];exact r) fun c xs r=>by rw [aG (ntup c xs r)];exact r
   rcases hc with rfl | hc
   ·exact hbe
   ·rintro rfl
    rcases he with z | z
    ·exact nown c b hc z
    ·rw [hc] at z;cases z;exact hb rfl
end
structure Un (fs ex:List Addr) (H H':Hp) (h h':Heap):Prop where
 keep:∀ b o,h.get? b=some o->H b=none->b∉fs->b∉ex->h'.get? b=some o
 slot:∀ b o,h.get? b=some o->H b=none->b∈fs->b∉ex->∃ sl,h'.get? b=some { o with slots:=sl }
 free:∀ b o,h.get? b=some o->H b=none->b∉ex->H' b=none
 there:∀ b o,h.get? b=some o->b∉ex->∃ o',h'.get? b=some o'
 tups:∀ b xs,H b=some (.tup xs)->H' b=some (.tup xs)
 frzs:∀ b o u,H b=some (.frz o u)->H' b=some (.frz o u)
 tbls:∀ b ps,H b=some (.tbl ps)->∃ more,H' b=some (.tbl (ps++more))
section
variable {fs fs' ex ex':List Addr} {H H1 H2:Hp} {h h1 h2 h':Heap} {a x e:Addr} {o:HO}
theorem Un.any (u:Un fs ex H H1 h h1) {b:Addr} {ob:Obj} (q:h.get? b=some ob) (n:H b=none) (hx:b∉ex):∃ sl,h1.get? b=some { ob with slots:=sl }:=by
 by_cases hb:b∈fs
 ·exact u.slot b ob q n hb hx
 ·exact ⟨ob.slots,u.keep b ob q n hb hx⟩
theorem Un.kept (k:∀ b u,h.get? b=some u->h'.get? b=some u):Un fs ex H H h h':=
 ⟨fun b ob q _ _ _=>k b ob q,fun b ob q _ _ _=>⟨ob.slots,k b ob q⟩,fun _ _ _ n _=>n,fun b ob q _=>⟨ob,k b ob q⟩,fun _ _ q=>q,fun _ _ _ q=>q,fun _ ps q=>⟨#[],by rw [q];simp⟩⟩
theorem Un.refl:Un fs ex H H h h:=Un.kept fun _ _ q=>q
theorem Un.laid (k:∀ b u,h.get? b=some u->h'.get? b=some u) (hp:h.objs.size<=a) (hn:H a=none):Un fs ex H (upd H a o) h h' where
 keep:=fun b u q _ _ _=>k b u q
 slot:=fun b u q _ _ _=>⟨u.slots,k b u q⟩
 free:=fun b u q n _=>by rw [aG (Nat.ne_of_lt (Nat.lt_of_lt_of_le (Heap.lt_size q) hp))];exact n
 there:=fun b u q _=>⟨u,k b u q⟩
 tups:=fun b xs q=>by rw [aG (aZ q hn)];exact q
 frzs:=fun b u xs q=>by rw [aG (aZ q hn)];exact q
 tbls:=fun b ps q=>⟨#[],by rw [aG (aZ q hn),q];simp⟩
theorem Un.write (mu:Mut (H x)) (he:e=x∨H e=some (.own x)) (k:∀ b u,b≠e->h.get? b=some u->h'.get? b=some u) (heo:∃ u,h'.get? e=some u):Un fs ex H (upd H x o) h h':=by
 have hx:∀ b,H b=none->b≠x:=fun b n z=>by subst z;rw [n] at mu;exact mu
 have hb:∀ b,H b=none->b≠e:=fun b n z=>by
  subst z
  rcases he with r | r
  ·exact hx b n r
  ·rw [n] at r;cases r
 have hm:∀ b u,H b=some u->¬ Mut (some u)->b≠x:=fun b u q nm z=>by subst z;rw [q] at mu;exact nm mu
 refine ⟨fun b u q n _ _=>k b u (hb b n) q,fun b u q n _ _=>⟨u.slots,k b u (hb b n) q⟩,fun b u q n _=>by rw [aG (hx b n)];exact n,fun b u q _=>?_,
  fun b xs q=>by rw [aG (hm b _ q fun z=>z)];exact q,fun b u xs q=>by rw [aG (hm b _ q fun z=>z)];exact q,fun b ps q=>⟨#[],by rw [aG (hm b _ q fun z=>z),q];simp⟩⟩
 by_cases hbe:b=e
 ·subst hbe;exact heo
 ·exact ⟨u,k b u hbe q⟩
end
def trk (h:Heap) (H:Hp):List Addr:=(List.range h.objs.size).filter fun a=>(H a).isSome
def zEg (h:Heap) (H:Hp):Heap:=PySem.W.hideAll h (trk h H)
theorem zAI (h:Heap) (H:Hp):(zEg h H).objs.size=h.objs.size:=PySem.W.hideAll_size _ _
theorem zDF {h:Heap} {H:Hp} {b:Addr} {o:Obj} (e:h.get? b=some o) (n:H b=none):(zEg h H).get? b=some o:=
 PySem.W.hideAll_get _ e fun hm=>by
  have q:(H b).isSome=true:=(List.mem_filter.mp hm).2
  rw [n] at q;simp at q
theorem zFN {h:Heap} {H:Hp} {b:Addr} {o:Obj} (e:(zEg h H).get? b=some o):h.get? b=some o/\H b=none:=by
 have e':h.get? b=some o:=PySem.W.of_hideAll (trk h H) e
 refine ⟨e',?_⟩
 cases q:H b with
 | none=>rfl
 | some x=>
  have hm:b∈trk h H:=List.mem_filter.mpr ⟨List.mem_range.mpr (Heap.lt_size e'),by simp [q]⟩
  have z:(zEg h H).get? b=none:=PySem.W.hideAll_none (trk h H) hm
  rw [z] at e;cases e
def zGd (g h:Heap) (L:Addr):List (Addr×Obj):=(List.range h.objs.size).filterMap fun a=>if a=L∨(g.get? a).isSome=true then none else (h.get? a).map fun o=>(a,o)
def rest (g h:Heap) (L d:Addr):List (Addr×Obj):=(zGd g h L).filter fun p=>decide (p.1≠d)
end L2
namespace L2
open PySem PySem.Spec PyProof.Rows
structure Mod (K:PySem.W.Frag) (mg:Str->Option Value) (base:Heap):Prop where
 kin:K.In base
 glob:base.Ns mainGlobals mg
 blt:∃ mb,base.Ns builtinsNs mb/\∀ x:Str,x ≠ "__name__" -> mb x=bootBuiltins x
 nolimit:base.NoLimit
structure Cx where
 prog:Program
 w:World
 K:PySem.W.Frag
 mg:Str->Option Value
 base:Heap
 A:Around
 N:List Str
 s₀:Shared
 H₀:Hp
 env:Env
 outer:List Env
 stack:List Env
 ex:List Addr
 fn:Str->Bool
 calm:Bool
 pn:List (Addr×Obj)
 xe:Value->Shared->Prop
def frs (l:List Env):List Addr:=l.filterMap (·.frame)
abbrev Cx.fs (X:Cx):List Addr:=frs X.outer
def Vis (sc:Scope) (x:Str):Prop:=sc.names.lookup x=some .local∨sc.names.lookup x=some .cell∨sc.names.lookup x=some .free
def Loc (sc:Scope) (x:Str):Prop:=sc.names.lookup x=some .local∨sc.names.lookup x=some .cell
def zLr (env:Env) (h:Heap) (m:Str->Option Value) (x:Str) (u:Value):Prop:=
 (env.kindOf x=some .local/\m x=some u)∨((env.kindOf x=some .cell∨env.kindOf x=some .free)/\∃ c,env.cells.lookup x=some c/\h.IsCell c (some u))
structure Cx.Ok (X:Cx):Prop where
 mod:Mod X.K X.mg X.base
 kind:X.env.scope.kind=.function
 glob:X.env.globals=mainGlobals
 blt:X.env.builtins=builtinsNs
 above:X.s₀.heap.objs.size<=X.env.locals
 inj:∀ x y c,X.env.cells.lookup x=some c->X.env.cells.lookup y=some c->x=y
 has:∀ x,(X.env.kindOf x=some .cell∨X.env.kindOf x=some .free)->∃ c,X.env.cells.lookup x=some c
 cab:∀ x c,X.fn x=true->X.env.cells.lookup x=some c->X.s₀.heap.objs.size<=c
 hd:X.calm=true->X.A.handled=none
 frames:X.A.frames=some X.stack
 stk:X.stack=X.outer∨(X.stack=X.env::X.outer/\X.env.frame=some X.env.locals)
 exf:∀ b∈X.ex,b≠X.env.locals/\∀ x c,X.env.cells.lookup x=some c->c≠b
 bs:∀ b o,X.base.get? b=some o->X.s₀.heap.get? b=some o/\X.H₀ b=none
 bsz:X.base.objs.size<=X.s₀.heap.objs.size
 noex:∀ b o,X.base.get? b=some o->b∉X.ex
 exfs:∀ b∈X.ex,b∉X.fs
 funs:X.s₀.heap.FunFrames X.base X.outer
 frf:∀ b∈X.fs,X.H₀ b=none
structure Inv (X:Cx) (pins:List (Addr×Obj)) (σ:List (Option V)) (H:Hp) (s:Shared):Prop where
 ok:X.Ok
 os:s.os=X.s₀.os
 bare:AllBare s.gens
 base:Un X.fs X.ex X.H₀ H X.s₀.heap s.heap
 loc:∃ m,s.heap.Ns X.env.locals m/\∀ (i:Nat) (x:Str) (v:V),X.N[i]?=some x->σ[i]?=some (some v)->Vis X.env.scope x->∃ u,cI v u/\zLr X.env s.heap m x u
 cell:∀ x c,X.env.cells.lookup x=some c->∃ v,s.heap.IsCell c v
 free:H X.env.locals=none
 freeC:∀ x c,X.env.cells.lookup x=some c->H c=none
 pin:∀ p∈X.pn++pins,s.heap.get? p.1=some p.2/\H p.1=none/\p.1≠X.env.locals/\p.1∉X.fs/\∀ v,p.2.data≠.cell v
 hok:HOk X.prog X.w H s.heap
 len:σ.length=X.N.length
section
variable {X:Cx} {pins:List (Addr×Obj)} {σ:List (Option V)} {H H':Hp} {s:Shared} {h':Heap}
theorem Cx.Ok.nofr (ok:X.Ok) {b:Addr} {o:Obj} (e:X.base.get? b=some o):b∉X.fs:=fun hb=>by
 have:=(ok.funs.mem hb).1
 rw [e] at this;cases this
theorem Inv.bs (I:Inv X pins σ H s):∀ b o,X.base.get? b=some o->s.heap.get? b=some o/\H b=none:=fun b o e=>
 ⟨I.base.keep b o (I.ok.bs b o e).1 (I.ok.bs b o e).2 (I.ok.nofr e) (I.ok.noex b o e),I.base.free b o (I.ok.bs b o e).1 (I.ok.bs b o e).2 (I.ok.noex b o e)⟩
theorem Inv.bk (I:Inv X pins σ H s):∀ b o,X.base.get? b=some o->s.heap.get? b=some o:=fun b o e=>(I.bs b o e).1
theorem Inv.mod (I:Inv X pins σ H s):Mod X.K X.mg X.base:=I.ok.mod
theorem Inv.kIn (I:Inv X pins σ H s):X.K.In s.heap:=I.ok.mod.kin.keeps I.bk
theorem Inv.lt (I:Inv X pins σ H s):X.env.locals < s.heap.objs.size:=let ⟨_,hn,_⟩:=I.loc;hn.lt
theorem Inv.sz (I:Inv X pins σ H s):X.s₀.heap.objs.size<=s.heap.objs.size:=Nat.le_trans I.ok.above (Nat.le_of_lt I.lt)
theorem Inv.nofs (I:Inv X pins σ H s) {a:Addr} (h:s.heap.objs.size<=a):a∉X.fs:=fun hb=>by
 obtain ⟨_,o,ho,_⟩:=I.ok.funs.mem hb
 exact absurd (Nat.lt_of_lt_of_le (Heap.lt_size ho) (Nat.le_trans I.sz h)) (Nat.lt_irrefl _)
theorem Inv.cne (I:Inv X pins σ H s):∀ x c,X.env.cells.lookup x=some c->c≠X.env.locals:=fun x c e z=>by
 obtain ⟨v,o,ho,hd⟩:=I.cell x c e
 obtain ⟨m,⟨o',es,ep,ho',hd',_⟩,_⟩:=I.loc
 rw [z,ho'] at ho;cases ho;rw [hd'] at hd;cases hd
theorem Inv.funs (I:Inv X pins σ H s):s.heap.FunFrames X.base X.outer:=by
 have all:∀ (l:List Env),(∀ b∈frs l,b∈X.fs)->X.s₀.heap.FunFrames X.base l->s.heap.FunFrames X.base l:=by
  intro l
  induction l with
  | nil=>intro _ _;trivial
  | cons env r ih=>
   intro hs hl
   obtain ⟨hk,⟨L,o,hf,hn,ho,hd⟩,hr⟩:=hl
   have hL:L∈X.fs:=hs L (by unfold frs;rw [List.filterMap_cons,hf];exact List.mem_cons_self)
   obtain ⟨sl,e⟩:=I.base.slot L o ho (I.ok.frf L hL) hL fun z=>I.ok.exfs L z hL
   exact ⟨hk,⟨L,_,hf,hn,e,hd⟩,ih (fun b hb=>hs b (by unfold frs;rw [List.filterMap_cons,hf];exact List.mem_cons_of_mem _ hb)) hr⟩
 exact all X.outer (fun _ hb=>hb) I.ok.funs
theorem Inv.stack (I:Inv X pins σ H s):s.heap.FunFrames X.base X.stack:=by
 rcases I.ok.stk with e | ⟨e,hf⟩
 ·rw [e];exact I.funs
 ·rw [e]
  obtain ⟨m,hn,_⟩:=I.loc
  refine .cons (by rw [I.ok.kind];decide) hf hn ?_ I.funs
  exact Heap.get?_none_of_le (Nat.le_trans I.ok.bsz I.ok.above)
theorem Inv.stkSub (I:Inv X pins σ H s):∀ b∈frs X.stack,b∈X.env.locals::X.fs:=fun b hb=>by
 rcases I.ok.stk with e | ⟨e,hf⟩
 ·rw [e] at hb;exact List.mem_cons_of_mem _ hb
 ·rw [e] at hb
  unfold frs at hb
  rw [List.filterMap_cons,hf] at hb
  exact hb
theorem Inv.stkFree (I:Inv X pins σ H s):∀ b∈frs X.stack,H b=none:=fun b hb=>by
 rcases List.mem_cons.mp (I.stkSub b hb) with e | hb
 ·rw [e];exact I.free
 ·obtain ⟨_,o,ho,_⟩:=I.ok.funs.mem hb
  exact I.base.free b o ho (I.ok.frf b hb) fun z=>I.ok.exfs b z hb
theorem Inv.step {g':Array GenState} {t':Nat} {d':Drawn} {ch:List Addr} (I:Inv X pins σ H s)
  (hch:∀ b∈ch,(b∈X.ex∨X.s₀.heap.objs.size<=b)/\b≠X.env.locals/\(∀ x c,X.env.cells.lookup x=some c->c≠b)/\∀ p∈X.pn++pins,p.1≠b)
  (keep:∀ b o,b≠X.env.locals->b∉X.fs->b∉ch->s.heap.get? b=some o->H b=none->h'.get? b=some o)
  (slot:∀ b o,b≠X.env.locals->b∈X.fs->b∉ch->s.heap.get? b=some o->H b=none->∃ sl,h'.get? b=some { o with slots:=sl }) (free:∀ b o,b∉ch->s.heap.get? b=some o->H b=none->H' b=none)
  (there:∀ b o,b∉ch->s.heap.get? b=some o->∃ o',h'.get? b=some o')
  (tups:∀ b xs,H b=some (.tup xs)->H' b=some (.tup xs)) (frzs:∀ b o u,H b=some (.frz o u)->H' b=some (.frz o u)) (tbls:∀ b ps,H b=some (.tbl ps)->∃ more,H' b=some (.tbl (ps++more)))
  (ns:∀ m,s.heap.Ns X.env.locals m->h'.Ns X.env.locals m) (hok:HOk X.prog X.w H' h') (hg:AllBare g'):
  Inv X pins σ H' { s with heap:=h',gens:=g',drawn:=d',toks:=t' }:=by
 have neL:∀ b o,X.s₀.heap.get? b=some o->b≠X.env.locals:=fun b o e=>Nat.ne_of_lt (Nat.lt_of_lt_of_le (Heap.lt_size e) I.ok.above)
 have neC:∀ b o,X.s₀.heap.get? b=some o->b∉X.ex->b∉ch:=fun b o e hx hb=>by
  rcases (hch b hb).1 with z | z
  ·exact hx z
  ·exact absurd (Nat.lt_of_lt_of_le (Heap.lt_size e) z) (Nat.lt_irrefl _)
 have cellK:∀ x c,X.env.cells.lookup x=some c->∀ v,s.heap.IsCell c v->h'.IsCell c v:=fun x c e v ⟨o,ho,hd⟩=>by
  have nch:c∉ch:=fun z=>(hch c z).2.2.1 x c e rfl
  by_cases hc:c∈X.fs
  ·obtain ⟨sl,q⟩:=slot c o (I.cne x c e) hc nch ho (I.freeC x c e)
   exact ⟨_,q,hd⟩
  ·exact ⟨o,keep c o (I.cne x c e) hc nch ho (I.freeC x c e),hd⟩
 refine ⟨I.ok,I.os,hg,⟨fun b o e n hb hx=>?_,fun b o e n hb hx=>?_,fun b o e n hx=>?_,fun b o e hx=>?_,fun b xs e=>tups b xs (I.base.tups b xs e),fun b o xs e=>frzs b o xs (I.base.frzs b o xs e),fun b ps e=>?_⟩,?_,fun x c e=>?_,?_,fun x c e=>?_,fun p hp=>?_,hok,I.len⟩
 ·exact keep b o (neL b o e) hb (neC b o e hx) (I.base.keep b o e n hb hx) (I.base.free b o e n hx)
 ·obtain ⟨sl,e1⟩:=I.base.slot b o e n hb hx
  obtain ⟨sl',e2⟩:=slot b _ (neL b o e) hb (neC b o e hx) e1 (I.base.free b o e n hx)
  exact ⟨sl',e2⟩
 ·obtain ⟨o',e1⟩:=I.base.there b o e hx
  exact free b o' (neC b o e hx) e1 (I.base.free b o e n hx)
 ·obtain ⟨o',e1⟩:=I.base.there b o e hx
  exact there b o' (neC b o e hx) e1
 ·obtain ⟨m1,e1⟩:=I.base.tbls b ps e
  obtain ⟨m2,e2⟩:=tbls b _ e1
  exact ⟨m1++m2,by rw [e2,Array.append_assoc]⟩
 ·obtain ⟨m,hn,hl⟩:=I.loc
  refine ⟨m,ns m hn,fun i x v e1 e2 e3=>?_⟩
  obtain ⟨u,r,l⟩:=hl i x v e1 e2 e3
  refine ⟨u,r,?_⟩
  rcases l with l | ⟨k,c,e,z⟩
  ·exact .inl l
  ·exact .inr ⟨k,c,e,cellK x c e _ z⟩
 ·obtain ⟨v,z⟩:=I.cell x c e
  exact ⟨v,cellK x c e v z⟩
 ·obtain ⟨m,⟨o,_,_,ho,_⟩,_⟩:=I.loc
  exact free _ o (fun z=>(hch _ z).2.1 rfl) ho I.free
 ·obtain ⟨v,o,ho,hd⟩:=I.cell x c e
  exact free c o (fun z=>(hch c z).2.2.1 x c e rfl) ho (I.freeC x c e)
 ·obtain ⟨e,n,ne,nf,d⟩:=I.pin p hp
  have nch:p.1∉ch:=fun z=>(hch p.1 z).2.2.2 p hp rfl
  exact ⟨keep p.1 p.2 ne nf nch e n,free p.1 p.2 nch e n,ne,nf,d⟩
theorem Inv.un {t':Nat} (I:Inv X pins σ H s) (u:Un X.fs [] H H' s.heap h') (hok:HOk X.prog X.w H' h'):Inv X pins σ H' { s with heap:=h',toks:=t' }:=by
 obtain ⟨m,⟨o,es,ep,ho,r⟩,_⟩:=id I.loc
 obtain ⟨sl,hL⟩:=u.any ho I.free (by simp)
 exact I.step (g':=s.gens) (d':=s.drawn) (ch:=[]) (fun _ z=>nomatch z) (fun b o _ hb _ e n=>u.keep b o e n hb (by simp)) (fun b o _ hb _ e n=>u.slot b o e n hb (by simp)) (fun b o _ e n=>u.free b o e n (by simp)) (fun b o _ e=>u.there b o e (by simp)) u.tups u.frzs u.tbls (fun m' hm=>by
  obtain ⟨o',es',ep',ho',r'⟩:=hm
  rw [ho] at ho';cases ho'
  exact ⟨_,es',ep',hL,r'⟩) hok I.bare
theorem Inv.call {g':Array GenState} {t':Nat} {d':Drawn} {ch:List Addr} (I:Inv X pins σ H s) (u:Un (frs X.stack) ch H H' s.heap h') (hok:HOk X.prog X.w H' h') (hg:AllBare g')
  (hch:∀ b∈ch,(b∈X.ex∨X.s₀.heap.objs.size<=b)/\b≠X.env.locals/\(∀ x c,X.env.cells.lookup x=some c->c≠b)/\∀ p∈X.pn++pins,p.1≠b):
  Inv X pins σ H' { s with heap:=h',gens:=g',drawn:=d',toks:=t' }:=by
 obtain ⟨m,⟨o,es,ep,ho,r⟩,_⟩:=id I.loc
 obtain ⟨sl,hL⟩:=u.any ho I.free fun z=>(hch _ z).2.1 rfl
 exact I.step (ch:=ch) hch (fun b o hL hb hc e n=>u.keep b o e n (fun z=>(List.mem_cons.mp (I.stkSub b z)).elim hL hb) hc) (fun b o _ _ hc e n=>u.any e n hc) (fun b o hc e n=>u.free b o e n hc) (fun b o hc e=>u.there b o e hc) u.tups u.frzs u.tbls (fun m' hm=>by
  obtain ⟨o',es',ep',ho',r'⟩:=hm
  rw [ho] at ho';cases ho'
  exact ⟨_,es',ep',hL,r'⟩) hok hg
theorem Inv.turned {t':Nat} {it:Addr} (I:Inv X pins σ H s) (k:∀ b o,b≠it->s.heap.get? b=some o->h'.get? b=some o) (hn:H it=none) (hL:it≠X.env.locals)
  (h1:it∈X.ex∨X.s₀.heap.objs.size<=it) (h2:∀ x c,X.env.cells.lookup x=some c->c≠it) (h3:∀ p∈X.pn++pins,p.1≠it):Inv X pins σ H { s with heap:=h',toks:=t' }:=by
 have nit:∀ b u,H b=some u->b≠it:=fun b u e z=>by rw [z,hn] at e;cases e
 refine I.step (g':=s.gens) (d':=s.drawn) (ch:=[it]) (fun b hb=>?_) (fun b o _ _ hc e _=>k b o (fun z=>hc (by simp [z])) e) (fun b o _ _ hc e _=>⟨o.slots,k b o (fun z=>hc (by simp [z])) e⟩) (fun _ _ _ _ n=>n)
  (fun b o hc e=>⟨o,k b o (fun z=>hc (by simp [z])) e⟩) (fun _ _ e=>e) (fun _ _ _ e=>e) (fun b ps e=>⟨#[],by rw [e];simp⟩) (fun m hm=>?_) (fun b u e=>?_) I.bare
 ·have e:b=it:=by simpa using hb
  subst e
  exact ⟨h1,hL,h2,h3⟩
 ·obtain ⟨o,es,ep,ho,r⟩:=hm
  exact ⟨o,es,ep,k _ o (Ne.symm hL) ho,r⟩
 ·refine (I.hok b u e).stay (fun c v hc q=>k c v ?_ q) (fun _ q=>q) fun _ _ q=>q
  rcases hc with z | z
  ·rw [z];exact nit b u e
  ·exact nit c _ z
theorem Inv.tok (I:Inv X pins σ H s) (t:Nat):Inv X pins σ H { s with toks:=t }:=I.un (h':=s.heap) (t':=t) Un.refl I.hok
theorem Inv.kept {t':Nat} (I:Inv X pins σ H s) (k:∀ b u,s.heap.get? b=some u->h'.get? b=some u):Inv X pins σ H { s with heap:=h',toks:=t' }:=I.un (Un.kept k) (I.hok.kept k)
theorem Inv.laid {a:Addr} {o:HO} {t':Nat} (I:Inv X pins σ H s) (k:∀ b u,s.heap.get? b=some u->h'.get? b=some u) (hp:s.heap.objs.size<=a) (new:hJ X.prog X.w (upd H a o) h' a o):
  Inv X pins σ (upd H a o) { s with heap:=h',toks:=t' }:=I.un (Un.laid k hp (I.hok.fresh hp)) (I.hok.laid k hp new)
theorem Inv.write {x e:Addr} {o:HO} {t':Nat} (I:Inv X pins σ H s) (mu:Mut (H x)) (he:e=x∨H e=some (.own x)) (k:∀ b u,b≠e->s.heap.get? b=some u->h'.get? b=some u) (heo:∃ u,h'.get? e=some u)
  (new:hJ X.prog X.w (upd H x o) h' x o):Inv X pins σ (upd H x o) { s with heap:=h',toks:=t' }:=I.un (Un.write mu he k heo) (I.hok.write mu he k heo new)
theorem Inv.pins_of {pins':List (Addr×Obj)} (I:Inv X pins σ H s) (h:∀ p∈pins',s.heap.get? p.1=some p.2/\H p.1=none/\p.1≠X.env.locals/\p.1∉X.fs/\∀ v,p.2.data≠.cell v):Inv X pins' σ H s:=
 ⟨I.ok,I.os,I.bare,I.base,I.loc,I.cell,I.free,I.freeC,fun p hp=>(List.mem_append.mp hp).elim (fun z=>I.pin p (List.mem_append_left _ z)) (h p),I.hok,I.len⟩
theorem yB {N:List Str} (hN:N.Nodup) {i j:Nat} {x:Str} (a:N[i]?=some x) (b:N[j]?=some x):i=j:=by
 obtain ⟨h1,e1⟩:=List.getElem?_eq_some_iff.mp a
 obtain ⟨h2,e2⟩:=List.getElem?_eq_some_iff.mp b
 exact (List.getElem_inj hN).mp (e1.trans e2.symm)
theorem uM {M:Model} {A:Around} {E:Value->Shared->Prop} {i:Nat} {x:Str} {v:V} {u:Value} {Q:Unit->Shared->Prop} (I:Inv X pins σ H s) (hN:X.N.Nodup) (hi:X.N[i]?=some x) (hx:Loc X.env.scope x) (r:cI v u)
  (h:∀ s',Inv X pins (σ.set i (some v)) H s'->(∃ a,Heap.SameBut a s.heap s'.heap/\(a=X.env.locals∨X.env.cells.lookup x=some a))->Q () s') (hf:X.fn x=true∨X.env.scope.names.lookup x=some .local:=by first | exact .inl rfl | exact .inr rfl | assumption):wpAny M A (storeName X.env x u) Q E s:=by
 obtain ⟨m,hn,hl⟩:=id I.loc
 have hcls:(X.env.scope.kind==.class || (X.env.scope.kind==.module && X.env.locals != X.env.globals))=false:=by rw [I.ok.kind];rfl
 have hiσ:i < σ.length:=by rw [I.len];exact (List.getElem?_eq_some_iff.mp hi).1
 have cne:=I.cne
 have tracked:∀ {a:Addr} {h':Heap},(∃ o,s.heap.get? a=some o/\H a=none)->Heap.SameBut a s.heap h'->HOk X.prog X.w H h':=fun {a h'} ha hs b ob e=>by
  obtain ⟨_,_,hfree⟩:=ha
  refine (I.hok b ob e).stay (fun c w' hc q=>(hs.2 c ?_).trans q) (fun _ q=>q) fun _ _ q=>q
  rintro rfl
  rcases hc with rfl | hc
  ·rw [hfree] at e;cases e
  ·rw [hfree] at hc;cases hc
 rcases hx with hk | hk
 ·refine wpAny_storeName_local hk hn (fun h' hn' hs=>?_) hcls
  obtain ⟨oL,_,_,hoL,_⟩:=id hn
  refine h _ ⟨I.ok,I.os,I.bare,⟨fun b o e n hb hx=>?_,fun b o e n hb hx=>?_,I.base.free,fun b o e hx=>?_,I.base.tups,I.base.frzs,I.base.tbls⟩,⟨_,hn',fun j y v' e1 e2 e3=>?_⟩,fun y c e=>?_,I.free,I.freeC,fun p hp=>?_,tracked ⟨oL,hoL,I.free⟩ hs,by simpa using I.len⟩ ⟨_,hs,.inl rfl⟩
  ·exact (hs.2 b (Nat.ne_of_lt (Nat.lt_of_lt_of_le (Heap.lt_size e) I.ok.above))).trans (I.base.keep b o e n hb hx)
  ·obtain ⟨sl,e1⟩:=I.base.slot b o e n hb hx
   exact ⟨sl,(hs.2 b (Nat.ne_of_lt (Nat.lt_of_lt_of_le (Heap.lt_size e) I.ok.above))).trans e1⟩
  ·obtain ⟨o',e1⟩:=I.base.there b o e hx
   exact ⟨o',(hs.2 b (Nat.ne_of_lt (Nat.lt_of_lt_of_le (Heap.lt_size e) I.ok.above))).trans e1⟩
  ·by_cases hj:j=i
   ·subst hj
    rw [hi] at e1;cases e1
    rw [List.getElem?_set_self hiσ] at e2
    cases e2
    exact ⟨u,r,.inl ⟨hk,by simp⟩⟩
   ·rw [List.getElem?_set_ne (Ne.symm hj)] at e2
    obtain ⟨u',r',q⟩:=hl j y v' e1 e2 e3
    refine ⟨u',r',?_⟩
    rcases q with ⟨k,e⟩ | ⟨k,c,e,z⟩
    ·refine .inl ⟨k,?_⟩
     have:y≠x:=fun e=>hj (yB hN e1 (e ▸ hi))
     simp [this,e]
    ·exact .inr ⟨k,c,e,z.sameBut hs (cne y c e)⟩
  ·obtain ⟨w',z⟩:=I.cell y c e
   exact ⟨w',z.sameBut hs (cne y c e)⟩
  ·obtain ⟨e,n,ne,nf,d⟩:=I.pin p hp
   exact ⟨(hs.2 p.1 ne).trans e,n,ne,nf,d⟩
 ·have hfn:X.fn x=true:=by
   rcases hf with z | z
   ·exact z
   ·rw [z] at hk;cases hk
  obtain ⟨c,hc⟩:=I.ok.has x (.inl hk)
  obtain ⟨w',z⟩:=I.cell x c hc
  refine wpAny_storeName_cell I.ok.kind hk hc z (fun h' hc' hs=>?_)
  obtain ⟨oc,hoc,hocd⟩:=id z
  refine h { s with heap:=h' } ⟨I.ok,I.os,I.bare,⟨fun b o e n hb hx=>?_,fun b o e n hb hx=>?_,I.base.free,fun b o e hx=>?_,I.base.tups,I.base.frzs,I.base.tbls⟩,⟨m,hn.sameBut hs (Ne.symm (cne x c hc)),fun j y v' e1 e2 e3=>?_⟩,fun y c' e=>?_,I.free,I.freeC,fun p hp=>?_,tracked ⟨oc,hoc,I.freeC x c hc⟩ hs,by simpa using I.len⟩ ⟨c,hs,.inr hc⟩
  ·exact (hs.2 b (Nat.ne_of_lt (Nat.lt_of_lt_of_le (Heap.lt_size e) (I.ok.cab x c hfn hc)))).trans (I.base.keep b o e n hb hx)
  ·obtain ⟨sl,e1⟩:=I.base.slot b o e n hb hx
   exact ⟨sl,(hs.2 b (Nat.ne_of_lt (Nat.lt_of_lt_of_le (Heap.lt_size e) (I.ok.cab x c hfn hc)))).trans e1⟩
  ·obtain ⟨o',e1⟩:=I.base.there b o e hx
   exact ⟨o',(hs.2 b (Nat.ne_of_lt (Nat.lt_of_lt_of_le (Heap.lt_size e) (I.ok.cab x c hfn hc)))).trans e1⟩
  ·by_cases hj:j=i
   ·subst hj
    rw [hi] at e1;cases e1
    rw [List.getElem?_set_self hiσ] at e2
    cases e2
    exact ⟨u,r,.inr ⟨.inl hk,c,hc,hc'⟩⟩
   ·rw [List.getElem?_set_ne (Ne.symm hj)] at e2
    obtain ⟨u',r',q⟩:=hl j y v' e1 e2 e3
    refine ⟨u',r',?_⟩
    rcases q with q | ⟨k,c',e,z'⟩
    ·exact .inl q
    ·refine .inr ⟨k,c',e,z'.sameBut hs ?_⟩
     rintro rfl
     exact hj (yB hN e1 (I.ok.inj _ _ _ e hc ▸ hi))
  ·by_cases hcc:c'=c
   ·subst hcc;exact ⟨_,hc'⟩
   ·obtain ⟨w2,z2⟩:=I.cell y c' e
    exact ⟨w2,z2.sameBut hs hcc⟩
  ·obtain ⟨e,n,ne,nf,d⟩:=I.pin p hp
   refine ⟨(hs.2 p.1 ?_).trans e,n,ne,nf,d⟩
   intro q
   rw [q,hoc] at e
   have q':oc=p.2:=Option.some.inj e
   exact d w' (by rw [<-q'];exact hocd)
theorem mY {M:Model} {A:Around} {E:Value->Shared->Prop} {i:Nat} {x:Str} {v:V} {u:Value} {Q:Unit->Shared->Prop} (I:Inv X pins σ H s) (hN:X.N.Nodup) (hi:X.N[i]?=some x) (hx:Loc X.env.scope x) (r:cI v u)
  (h:∀ s',Inv X pins (σ.set i (some v)) H s'->Q () s') (hf:X.fn x=true∨X.env.scope.names.lookup x=some .local:=by first | exact .inl rfl | exact .inr rfl | assumption):wpAny M A (storeName X.env x u) Q E s:=
 uM I hN hi hx r (fun s' I' _=>h s' I') hf
theorem Inv.call' {s':Shared} {ch:List Addr} (I:Inv X pins σ H s) (ho:s'.os=s.os) (u:Un (frs X.stack) ch H H' s.heap s'.heap) (hok:HOk X.prog X.w H' s'.heap) (hg:AllBare s'.gens)
  (hch:∀ b∈ch,(b∈X.ex∨X.s₀.heap.objs.size<=b)/\b≠X.env.locals/\(∀ x c,X.env.cells.lookup x=some c->c≠b)/\∀ p∈X.pn++pins,p.1≠b):Inv X pins σ H' s':=by
 obtain ⟨h',g',d',t',o'⟩:=s'
 have e:o'=s.os:=ho
 subst e
 exact I.call (g':=g') (t':=t') (d':=d') u hok hg hch
end
abbrev XK:=Value->Option Addr->Hp->Prop
abbrev St:=List (Option V)
abbrev VK:=V->Hp->Prop
abbrev TE:=St->Hp->VK->Prop
abbrev TT:=St->Hp->(Bool->Hp->Prop)->Prop
abbrev TA:=St->Hp->(List V->Hp->Prop)->Prop
structure Ends where
 nx:St->Hp->Prop
 rt:VK
 bk:St->Hp->Prop:=fun _ _=>False
 ct:St->Hp->Prop:=fun _ _=>False
abbrev TS:=Ends->St->Hp->Prop
def EP (X:Cx) (pins:List (Addr×Obj)) (σ:St) (Q:VK) (u:Value) (s':Shared):Prop:=∃ v H',Inv X pins σ H' s'/\cI v u/\Q v H'
def TP (X:Cx) (pins:List (Addr×Obj)) (σ:St) (Q:Bool->Hp->Prop) (b:Bool) (s':Shared):Prop:=∃ H',Inv X pins σ H' s'/\Q b H'
def AP (X:Cx) (pins:List (Addr×Obj)) (σ:St) (Q:List V->Hp->Prop) (us:List Value) (s':Shared):Prop:=∃ vs H',Inv X pins σ H' s'/\dM vs us/\Q vs H'
def SP (X:Cx) (pins:List (Addr×Obj)) (D:Ends) (f:Flow) (s':Shared):Prop:=
 match f with
 | .next=>∃ σ' H',Inv X pins σ' H' s'/\D.nx σ' H'
 | .brk=>∃ σ' H',Inv X pins σ' H' s'/\D.bk σ' H'
 | .cont=>∃ σ' H',Inv X pins σ' H' s'/\D.ct σ' H'
 | .ret u=>∃ v σ' H',Inv X pins σ' H' s'/\cI v u/\D.rt v H'
def PE (X:Cx) (e:Expr) (t:TE):Prop:=
 ∀ (pins:List (Addr×Obj)) (s:Shared) (σ:St) (H:Hp) (Q:VK),Inv X pins σ H s->t σ H Q->wpAny (model X.prog X.w) X.A (eval e X.env) (EP X pins σ Q) X.xe s
def PT (X:Cx) (e:Expr) (t:TT):Prop:=
 ∀ (pins:List (Addr×Obj)) (s:Shared) (σ:St) (H:Hp) (Q:Bool->Hp->Prop),Inv X pins σ H s->t σ H Q->wpAny (model X.prog X.w) X.A (isTrue e X.env (eval e X.env)) (TP X pins σ Q) X.xe s
def PW (X:Cx) (e:Expr) (t:TT):Prop:=
 ∀ (whole:Sem Value) (pins:List (Addr×Obj)) (s:Shared) (σ:St) (H:Hp) (Q:Bool->Hp->Prop),Inv X pins σ H s->t σ H Q->wpAny (model X.prog X.w) X.A (isTrue e X.env whole) (TP X pins σ Q) X.xe s
theorem PW.pt {X:Cx} {e:Expr} {t:TT} (h:PW X e t):PT X e t:=h _
def PA (X:Cx) (es:List Expr) (t:TA):Prop:=
 ∀ (pos:Pos) (pins:List (Addr×Obj)) (s:Shared) (σ:St) (H:Hp) (Q:List V->Hp->Prop),Inv X pins σ H s->t σ H Q->wpAny (model X.prog X.w) X.A (spliced (backTo pos (starEach es X.env))) (AP X pins σ Q) X.xe s
def PS (X:Cx) (st:Stmt) (t:TS):Prop:=
 ∀ (pins:List (Addr×Obj)) (s:Shared) (σ:St) (H:Hp) (D:Ends),Inv X pins σ H s->t D σ H->wpAny (model X.prog X.w) X.A (exec st X.env) (SP X pins D) X.xe s
def PSs (X:Cx) (st:List Stmt) (t:TS):Prop:=
 ∀ (pins:List (Addr×Obj)) (s:Shared) (σ:St) (H:Hp) (D:Ends),Inv X pins σ H s->t D σ H->wpAny (model X.prog X.w) X.A (execs st X.env) (SP X pins D) X.xe s
theorem thn {α:Type} {t:Sem α} {Q Q':α->Shared->Prop} {M:Model} {A:Around} {E:Value->Shared->Prop} {s:Shared} (h:wpAny M A t Q E s) (hQ:∀ a s,Q a s->Q' a s):wpAny M A t Q' E s:=wpAny_mono h hQ fun _ _ x=>x
end L2
namespace L2
open PySem PySem.Spec PyProof.Rows
section
variable {X:Cx}
theorem bin {a b:Expr} {ta tb:TE} (ha:PE X a ta) (hb:PE X b tb) {pins:List (Addr×Obj)} {s:Shared} {σ:St} {H:Hp} {R:V->V->Hp->Prop} (I:Inv X pins σ H s) (h:ta σ H fun x H1=>tb σ H1 fun y H2=>R x y H2)
  {α:Type} {Q:α->Shared->Prop} {f:Value->Value->Sem α}
  (hf:∀ v u s2 x y H2,Inv X pins σ H2 s2->cI x v->cI y u->R x y H2->wpAny (model X.prog X.w) X.A (f v u) Q X.xe s2):
  wpAny (model X.prog X.w) X.A (eval a X.env) (fun v s₁=>wpAny (model X.prog X.w) X.A (eval b X.env) (fun u s₂=>wpAny (model X.prog X.w) X.A (f v u) Q X.xe s₂) X.xe s₁) X.xe s:=by
 refine thn (ha pins s σ H _ I h) fun v s1 ⟨x,H1,I1,r1,q1⟩=>?_
 refine thn (hb pins s1 σ H1 _ I1 q1) fun u s2 ⟨y,H2,I2,r2,q2⟩=>?_
 exact hf v u s2 x y H2 I2 r1 r2 q2
abbrev qJ (i:Nat):TE:=fun σ H Q=>∃ v,σ[i]?=some (some v)/\Q v H
abbrev tC (v:V):TE:=fun _ H Q=>Q v H
theorem zHP {i:Nat} {x:Str} {pos:Pos} (hN:X.N[i]?=some x) (hv:Vis X.env.scope x) (hd:(x==("__debug__" : Str))=false:=by decide) (hcd:(x==("__classdict__" : Str))=false:=by decide):PE X (.Name x pos) (qJ i):=by
 intro pins s σ H Q I h
 obtain ⟨v,e,h⟩:=h
 obtain ⟨m,hn,hl⟩:=I.loc
 obtain ⟨u,r,l⟩:=hl i x v hN e hv
 have fin:EP X pins σ Q u s:=⟨v,H,I,r,h⟩
 rcases l with ⟨hk,hm⟩ | ⟨hk,c,hc,hcell⟩
 ·exact wpAny_Name (wpAny_loadName_local I.ok.kind hk hn hm fin) hd
 ·rcases hk with hk | hk
  ·exact wpAny_Name (wpAny_loadName_cell I.ok.kind hk hc hcell fin) hd
  ·exact wpAny_Name (wpAny_loadName_free I.ok.kind hk hc hcell fin hcd) hd
theorem zEG {i j pos}:PE X (.Constant (.int i) j pos) (tC (.int i)):=fun _ _ _ H _ I h=>wpAny_Constant_int ⟨.int i,H,I.tok _,⟨_,rfl⟩,h⟩
theorem tP {b j pos}:PE X (.Constant (.bool b) j pos) (tC (.bl b)):=fun _ _ _ H _ I h=>Constant_bool ⟨.bl b,H,I,rfl,h⟩
theorem zEu {j pos}:PE X (.Constant .none j pos) (tC .non):=fun _ _ _ H _ I h=>Constant_none ⟨.non,H,I,rfl,h⟩
theorem cK {x j pos}:PE X (.Constant (.str x) j pos) (tC (.str x)):=fun _ _ _ H _ I h=>Calls.Constant_str ⟨.str x,H,I.tok _,⟨_,rfl⟩,h⟩
def Gl (X:Cx) (x:Str):Prop:=X.env.kindOf x=some .globalImplicit
theorem sE {E:Value->Shared->Prop} {pins:List (Addr×Obj)} {s:Shared} {σ:St} {H:Hp} {x:Str} {u:Value} {pos:Pos} {Q:Value->Shared->Prop} (I:Inv X pins σ H s) (hg:Gl X x) (hm:X.mg x=some u) (h:Q u s)
  (hd:(x==("__debug__" : Str))=false:=by decide):wpAny (model X.prog X.w) X.A (eval (.Name x pos) X.env) Q E s:=
 Calls.Name_function_global I.ok.kind hg (Calls.loadGlobal_global (by rw [I.ok.glob];exact I.mod.glob.keeps I.bk) hm h) hd
theorem oV {E:Value->Shared->Prop} {pins:List (Addr×Obj)} {s:Shared} {σ:St} {H:Hp} {x:Str} {u:Value} {pos:Pos} {Q:Value->Shared->Prop} (I:Inv X pins σ H s) (hg:Gl X x) (hm:X.mg x=none) (hv:bootBuiltins x=some u) (h:Q u s)
  (hn:x ≠ "__name__" := by decide) (hd:(x==("__debug__" : Str))=false:=by decide):wpAny (model X.prog X.w) X.A (eval (.Name x pos) X.env) Q E s:=by
 obtain ⟨mb,h1,h2⟩:=I.mod.blt
 exact Calls.Name_function_global I.ok.kind hg (Calls.loadGlobal_builtin (by rw [I.ok.glob];exact I.mod.glob.keeps I.bk) hm (by rw [I.ok.blt];exact h1.keeps I.bk) ((h2 x hn).trans hv) h) hd
theorem zAY {x:Str} {v:V} {u:Value} {pos:Pos} (hg:Gl X x) (hm:X.mg x=some u) (r:cI v u) (hd:(x==("__debug__" : Str))=false:=by decide):PE X (.Name x pos) (tC v):=
 fun _ _ _ H _ I h=>sE I hg hm ⟨v,H,I,r,h⟩ hd
theorem iM {x:Str} {v:V} {u:Value} {pos:Pos} (hg:Gl X x) (hm:X.mg x=none) (hv:bootBuiltins x=some u) (r:cI v u) (hn:x ≠ "__name__" := by decide) (hd:(x==("__debug__" : Str))=false:=by decide):PE X (.Name x pos) (tC v):=
 fun _ _ _ H _ I h=>oV I hg hm hv ⟨v,H,I,r,h⟩ hn hd
variable {a b:Expr} {ta tb:TE} {pos:Pos}
def PC (X:Cx) (op:CmpOp) (a b:Expr) (t:TE):Prop:=
 ∀ (pins:List (Addr×Obj)) (s:Shared) (σ:St) (H:Hp) (Q:VK),Inv X pins σ H s->t σ H Q->
  wpAny (model X.prog X.w) X.A (eval a X.env) (fun v s₁=>wpAny (model X.prog X.w) X.A (eval b X.env) (fun u s₂=>wpAny (model X.prog X.w) X.A (compareOp op v u) (EP X pins σ Q) X.xe s₂) X.xe s₁) X.xe s
theorem zEn (b:Expr) {op:CmpOp} (h:op≠.In) (h2:op≠.NotIn):behindInMarks op b=false:=by
 have e1:(op==CmpOp.In)=false:=by cases op<;>first | rfl | exact absurd rfl h
 have e2:(op==CmpOp.NotIn)=false:=by cases op<;>first | rfl | exact absurd rfl h2
 cases b<;>simp [behindInMarks,e1,e2]
abbrev tB (t:TE):TT:=fun σ H Q=>t σ H fun x H1=>∃ c,x=.bl c/\Q c H1
theorem zLf {op:CmpOp} {t:TE} (h:PC X op a b t) (h1:behindInMarks op b=false:=by first | exact zEn _ (by decide) (by decide) | rfl):PT X (.Compare a [op] [b] pos) (tB t):=by
 intro pins s σ H Q I hw
 refine wpAny_isTrue_Compare1 (thn (h pins s σ H _ I hw) fun v s1 h1=>thn h1 fun u s2 h2=>thn h2 fun c s3 ⟨x,H1,I1,r1,q1⟩=>?_) h1
 obtain ⟨d,rfl,q⟩:=q1
 cases r1
 exact wpAny_truthy_bool ⟨H1,I1,q⟩
theorem zEX {e:Expr} {t:TE} (h:PE X e t) (he:∀ whole,isTrue e X.env whole=(do let v <-whole;standAt e.pos;holding [v] (truthy v)):=by intro _;rfl):PT X e (tB t):=by
 intro pins s σ H Q I hw
 refine isTrue_plain (thn (h pins s σ H _ I hw) fun v s1 ⟨x,H1,I1,r1,q1⟩=>?_) (he _)
 obtain ⟨d,rfl,q⟩:=q1
 cases r1
 exact wpAny_truthy_bool ⟨H1,I1,q⟩
variable {tA tB':TT} {rest:List Expr}
abbrev zLF (t u:TT):TT:=fun σ H Q=>t σ H fun c H1=>if c=true then u σ H1 Q else Q false H1
abbrev tOr (t u:TT):TT:=fun σ H Q=>t σ H fun c H1=>if c=true then Q true H1 else u σ H1 Q
abbrev zLy (t:TT):TT:=fun σ H Q=>t σ H fun c H1=>Q (!c) H1
theorem zAR (ha:PT X a tA):PW X (.BoolOp .And [a] pos) tA:=by
 intro wh pins s σ H Q I h
 refine isTrue_and (thn (ha pins s σ H Q I h) fun c s1 e=>?_)
 cases c with
 | true=>exact isTrue_and_nil e
 | false=>exact e
theorem zIo (ha:PT X a tA):PW X (.BoolOp .Or [a] pos) tA:=by
 intro wh pins s σ H Q I h
 refine isTrue_or (thn (ha pins s σ H Q I h) fun c s1 e=>?_)
 cases c with
 | false=>exact isTrue_or_nil e
 | true=>exact e
theorem zFi (ha:PT X a tA) (hb:PW X (.BoolOp .And (b::rest) pos) tB'):PW X (.BoolOp .And (a::b::rest) pos) (zLF tA tB'):=by
 intro wh pins s σ H Q I h
 refine isTrue_and (thn (ha pins s σ H _ I h) fun c s1 ⟨H1,I1,q1⟩=>?_)
 cases c with
 | true=>exact hb wh pins s1 σ H1 Q I1 q1
 | false=>exact ⟨H1,I1,q1⟩
theorem zKj (ha:PT X a tA) (hb:PW X (.BoolOp .Or (b::rest) pos) tB'):PW X (.BoolOp .Or (a::b::rest) pos) (tOr tA tB'):=by
 intro wh pins s σ H Q I h
 refine isTrue_or (thn (ha pins s σ H _ I h) fun c s1 ⟨H1,I1,q1⟩=>?_)
 cases c with
 | true=>exact ⟨H1,I1,q1⟩
 | false=>exact hb wh pins s1 σ H1 Q I1 q1
theorem zFe (ha:PT X a tA):PT X (.UnaryOp .Not a pos) (zLy tA):=by
 intro pins s σ H Q I h
 exact isTrue_not (ha pins s σ H (fun c H1=>Q (!c) H1) I h)
abbrev zKq (ta tb:TE):TE:=fun σ H Q=>ta σ H fun x H1=>∃ c,x=.bl c/\if c=true then tb σ H1 Q else Q (.bl false) H1
abbrev zKk (ta:TE):TE:=fun σ H Q=>ta σ H fun x H1=>∃ c,x=.bl c/\Q (.bl (!c)) H1
theorem zHO {op} {t:TE} (h:PE X a t):PE X (.BoolOp op [a] pos) t:=fun pins s σ H Q I hw=>BoolOp_one (h pins s σ H Q I hw)
theorem zIR (ha:PE X a ta) (hb:PE X (.BoolOp .And (b::rest) pos) tb):PE X (.BoolOp .And (a::b::rest) pos) (zKq ta tb):=by
 intro pins s σ H Q I h
 refine BoolOp_and (thn (ha pins s σ H _ I h) fun v s1 ⟨x,H1,I1,r1,q1⟩=>?_)
 obtain ⟨c,rfl,q1⟩:=q1
 cases r1
 refine wpAny_truthy_bool ?_
 cases c with
 | true=>exact hb pins s1 σ H1 Q I1 q1
 | false=>exact ⟨.bl false,H1,I1,rfl,q1⟩
theorem zHt (ha:PE X a ta):PE X (.UnaryOp .Not a pos) (zKk ta):=by
 intro pins s σ H Q I h
 refine UnaryOp_ (thn (ha pins s σ H _ I h) fun v s1 ⟨x,H1,I1,r1,q1⟩=>?_)
 obtain ⟨c,rfl,q1⟩:=q1
 cases r1
 exact not_of (wpAny_truthy_bool ⟨.bl (!c),H1,I1,rfl,q1⟩)
abbrev tIf (t:TT) (ta tb:TE):TE:=fun σ H Q=>t σ H fun c H1=>if c=true then ta σ H1 Q else tb σ H1 Q
theorem zDZ {c:Expr} (hc:PT X c tA) (ha:PE X a ta) (hb:PE X b tb):PE X (.IfExp c a b pos) (tIf tA ta tb):=by
 intro pins s σ H Q I h
 refine wpAny_IfExp (thn (hc pins s σ H _ I h) fun d s1 ⟨H1,I1,q1⟩=>?_)
 cases d with
 | true=>exact ha pins s1 σ H1 Q I1 q1
 | false=>exact hb pins s1 σ H1 Q I1 q1
end
end L2
namespace L2
open PySem PySem.Spec PyProof.Rows
def SqL (K:PySem.W.Frag) (H:Hp) (a:Addr) (xs:List V):Prop:=
 Rd H a (.lst xs)∨
  ∃ (o:Obj) (its:Array Value) (n:Nat),K.lookup a=some o/\o.cls=.type "list" /\ o.dict=none/\o.data=.seq its n/\its.size<=sizeLine/\dM xs its.toList
def SqT (K:PySem.W.Frag) (H:Hp) (a:Addr) (xs:List V):Prop:=
 Rd H a (.tup xs)∨
  ∃ (o:Obj) (its:Array Value) (n:Nat),K.lookup a=some o/\o.cls=.type "tuple" /\ o.data=.seq its n/\its.size<=sizeLine/\dM xs its.toList
def zLv:Value->Option V
 | .none=>some .non
 | .bool b=>some (.bl b)
 | .int i _=>some (.int i)
 | .str x _=>some (.str x)
 | .bytes b _=>some (.byt b)
 | .float b _=>some (.flt b)
 | .ref a=>some (.ref a)
 | .type n=>some (.ty n)
 | _=>none
theorem cI.abs {x:V} {u:Value} (r:cI x u):zLv u=some x:=by
 cases x with
 | non=>cases r;rfl
 | bl _=>cases r;rfl
 | int _=>obtain ⟨t,rfl⟩:=r;rfl
 | str _=>obtain ⟨t,rfl⟩:=r;rfl
 | byt _=>obtain ⟨t,rfl⟩:=r;rfl
 | flt _=>obtain ⟨t,rfl⟩:=r;rfl
 | ref _=>cases r;rfl
 | ty _=>cases r;rfl
theorem cI.inj {x y:V} {u:Value} (r:cI x u) (q:cI y u):x=y:=Option.some.inj (r.abs.symm.trans q.abs)
theorem dM.inj:∀ {xs ys:List V} {us:List Value},dM xs us->dM ys us->xs=ys
 | _,_,_,.nil,.nil=>rfl
 | _,_,_,.cons r t,.cons r' t'=>by rw [r.inj r',dM.inj t t']
section
variable {X:Cx} {pins:List (Addr×Obj)} {σ:St} {H:Hp} {s:Shared} {a:Addr} {xs ys:List V}
theorem SqL.of {K:PySem.W.Frag} (h:H a=some (.lst xs)):SqL K H a xs:=.inl (.inl h)
theorem SqT.of {K:PySem.W.Frag} (h:H a=some (.tup xs)):SqT K H a xs:=.inl (.inl h)
theorem Inv.list (I:Inv X pins σ H s) (h:SqL X.K H a xs):∃ its:List Value,dM xs its/\PlainL s.heap a its.toArray/\xs.length<=sizeLine:=by
 rcases h with h | ⟨o,its,n,hk,hc,hd,hs,hz,r⟩
 ·obtain ⟨z,its,n,r,e⟩:=h.ok I.hok
  exact ⟨its,r,⟨_,n,e,rfl,rfl,rfl⟩,z⟩
 ·refine ⟨its.toList,r,⟨o,n,I.kIn a o hk,hc,hd,by simpa using hs⟩,?_⟩
  have e:=r.length
  simp only [Array.length_toList] at e
  omega
theorem Inv.tuple (I:Inv X pins σ H s) (h:SqT X.K H a xs):∃ its:List Value,dM xs its/\IsTup s.heap a its.toArray/\xs.length<=sizeLine:=by
 rcases h with h | ⟨o,its,n,hk,hc,hs,hz,r⟩
 ·obtain ⟨z,its,r,p⟩:=h.ok I.hok
  exact ⟨its,r,p,z⟩
 ·refine ⟨its.toList,r,⟨o,I.kIn a o hk,hc,n,by simpa using hs⟩,?_⟩
  have e:=r.length
  simp only [Array.length_toList] at e
  omega
theorem Inv.list_inj (I:Inv X pins σ H s) (h:SqL X.K H a xs) (h':SqL X.K H a ys):xs=ys:=by
 obtain ⟨its,r,⟨o,n,e,_,_,d⟩,_⟩:=I.list h
 obtain ⟨its',r',⟨o',n',e',_,_,d'⟩,_⟩:=I.list h'
 rw [e] at e';cases e'
 rw [d] at d'
 injection d' with d1 _
 have:its=its':=by simpa using congrArg Array.toList d1
 subst this
 exact r.inj r'
theorem Inv.tuple_inj (I:Inv X pins σ H s) (h:SqT X.K H a xs) (h':SqT X.K H a ys):xs=ys:=by
 obtain ⟨its,r,⟨o,e,_,n,d⟩,_⟩:=I.tuple h
 obtain ⟨its',r',⟨o',e',_,n',d'⟩,_⟩:=I.tuple h'
 rw [e] at e';cases e'
 rw [d] at d'
 injection d' with d1 _
 have:its=its':=by simpa using congrArg Array.toList d1
 subst this
 exact r.inj r'
end
abbrev Cx.wish (X:Cx) (E:Value->Shared->Prop):Cx:={ X with xe:=E }
abbrev Cx.nox (X:Cx):Cx:=X.wish fun _ _=>False
theorem Cx.Ok.wish {X:Cx} (ok:X.Ok) (E:Value->Shared->Prop):(X.wish E).Ok:=
 ⟨ok.mod,ok.kind,ok.glob,ok.blt,ok.above,ok.inj,ok.has,ok.cab,ok.hd,ok.frames,ok.stk,ok.exf,ok.bs,ok.bsz,ok.noex,ok.exfs,ok.funs,ok.frf⟩
theorem Cx.Ok.unwish {X:Cx} {E:Value->Shared->Prop} (ok:(X.wish E).Ok):X.Ok:=
 ⟨ok.mod,ok.kind,ok.glob,ok.blt,ok.above,ok.inj,ok.has,ok.cab,ok.hd,ok.frames,ok.stk,ok.exf,ok.bs,ok.bsz,ok.noex,ok.exfs,ok.funs,ok.frf⟩
section
variable {X:Cx} {pins:List (Addr×Obj)} {σ:St} {H:Hp} {s:Shared} {E:Value->Shared->Prop}
theorem Inv.wish (I:Inv X pins σ H s) (E:Value->Shared->Prop):Inv (X.wish E) pins σ H s:=⟨I.ok.wish E,I.os,I.bare,I.base,I.loc,I.cell,I.free,I.freeC,I.pin,I.hok,I.len⟩
theorem Inv.unwish (I:Inv (X.wish E) pins σ H s):Inv X pins σ H s:=⟨I.ok.unwish,I.os,I.bare,I.base,I.loc,I.cell,I.free,I.freeC,I.pin,I.hok,I.len⟩
theorem SP.unwish {D:Ends} {f:Flow} {s':Shared} (h:SP (X.wish E) pins D f s'):SP X pins D f s':=by
 cases f with
 | next=>obtain ⟨σ',H',I,q⟩:=h;exact ⟨σ',H',I.unwish,q⟩
 | brk=>obtain ⟨σ',H',I,q⟩:=h;exact ⟨σ',H',I.unwish,q⟩
 | cont=>obtain ⟨σ',H',I,q⟩:=h;exact ⟨σ',H',I.unwish,q⟩
 | ret u=>obtain ⟨v,σ',H',I,r,q⟩:=h;exact ⟨v,σ',H',I.unwish,r,q⟩
end
section
variable {X:Cx} {st:Stmt} {rest:List Stmt} {t u:TS} {e:Expr} {te:TE} {pos:Pos}
abbrev zKB:TS:=fun D σ H=>D.nx σ H
abbrev zLD (t u:TS):TS:=fun D σ H=>t { D with nx:=u D } σ H
theorem zAH:PSs X [] zKB:=fun _ _ σ H _ I h=>wpAny_execs_nil ⟨σ,H,I,h⟩
theorem iR (h1:PS X st t) (h2:PSs X rest u):PSs X (st::rest) (zLD t u):=by
 intro pins s σ H D I h
 refine wpAny_execs_cons (thn (h1 pins s σ H { D with nx:=u D } I h) fun f s1 q=>?_)
 cases f with
 | next=>
  obtain ⟨σ',H',I',q⟩:=q
  exact h2 pins s1 σ' H' D I' q
 | ret v=>exact q
 | brk=>exact q
 | cont=>exact q
theorem vZ (h1:PS X st t):PSs X [st] t:=by
 intro pins s σ H D I h
 refine wpAny_execs_cons (thn (h1 pins s σ H D I h) fun f s1 q=>?_)
 cases f with
 | next=>exact wpAny_execs_nil q
 | ret v=>exact q
 | brk=>exact q
 | cont=>exact q
theorem Inv.quiet {pins:List (Addr×Obj)} {σ:St} {H:Hp} {s:Shared} (I:Inv X pins σ H s):interactive X.env=false:=by simp [interactive,I.ok.kind]
abbrev zKt (te:TE):TS:=fun D σ H=>te σ H fun _ H1=>D.nx σ H1
theorem jT (he:PE X e te) (hs:swapsWith e none pos.line X.env=pure false:=by rfl):PS X (.Expr e pos) (zKt te):=by
 intro pins s σ H D I h
 exact wpAny_Expr_any (thn (he pins s σ H _ I h) fun v s1 ⟨x,H1,I1,r1,q1⟩=>⟨σ,H1,I1,q1⟩) I.quiet hs
abbrev zLO (te:TE):TS:=fun D σ H=>te σ H D.rt
theorem pN (he:PE X e te):PS X (.Return (some e) pos) (zLO te):=by
 intro pins s σ H D I h
 exact wpAny_Return_some (thn (he pins s σ H _ I h) fun v s1 ⟨x,H1,I1,r1,q1⟩=>⟨x,σ,H1,I1,r1,q1⟩)
abbrev zLG (c:TT) (t u:TS):TS:=fun D σ H=>c σ H fun b H1=>if b=true then t D σ H1 else u D σ H1
theorem zFT {c:Expr} {a b:List Stmt} {tc:TT} (hc:PT X c tc) (ha:PSs X a t) (hb:PSs X b u):PS X (.If c a b pos) (zLG tc t u):=by
 intro pins s σ H D I h
 refine wpAny_If (thn (hc pins s σ H _ I h) fun d s1 ⟨H1,I1,q1⟩=>?_)
 cases d with
 | true=>exact ha pins s1 σ H1 D I1 q1
 | false=>exact hb pins s1 σ H1 D I1 q1
def zIJ:TS:=fun _ _ _=>False
theorem zBv {sts:List Stmt}:PSs X sts zIJ:=fun _ _ _ _ _ _ h=>h.elim
end
abbrev TG:=V->St->Hp->(St->Hp->Prop)->Prop
abbrev TGs:=List V->St->Hp->(St->Hp->Prop)->Prop
def PG (X:Cx) (target:Expr) (t:TG):Prop:=
 ∀ (pins:List (Addr×Obj)) (s:Shared) (σ:St) (H:Hp) (v:V) (u:Value) (Q:St->Hp->Prop),Inv X pins σ H s->cI v u->t v σ H Q->
  wpAny (model X.prog X.w) X.A (assign target X.env u) (fun _ s'=>∃ σ' H',Inv X pins σ' H' s'/\Q σ' H') X.xe s
def PGs (X:Cx) (ts:List Expr) (t:TGs):Prop:=
 ∀ (pins:List (Addr×Obj)) (s:Shared) (σ:St) (H:Hp) (vs:List V) (us:List Value) (Q:St->Hp->Prop),Inv X pins σ H s->dM vs us->t vs σ H Q->
  wpAny (model X.prog X.w) X.A (assignInOrder ((assignEach ts X.env).map (·.2)) us) (fun _ s'=>∃ σ' H',Inv X pins σ' H' s'/\Q σ' H') X.xe s
section
variable {X:Cx} {pos:Pos}
abbrev gName (i:Nat):TG:=fun v σ H Q=>Q (σ.set i (some v)) H
theorem vS {i:Nat} {x:Str} (hN:X.N.Nodup) (hi:X.N[i]?=some x) (hx:Loc X.env.scope x) (hf:X.fn x=true∨X.env.scope.names.lookup x=some .local:=by first | exact .inl rfl | exact .inr rfl | assumption):PG X (.Name x pos) (gName i):=by
 intro pins s σ H v u Q I r h
 exact wpAny_assign_Name (mY I hN hi hx r (fun s' I'=>⟨_,H,I',h⟩) hf)
def zDc:TGs:=fun vs σ H Q=>vs=[]/\Q σ H
def kG (t:TG) (u:TGs):TGs:=fun vs σ H Q=>∃ v r,vs=v::r/\t v σ H fun σ' H'=>u r σ' H' Q
theorem zCE:PGs X [] zDc:=by
 intro pins s σ H vs us Q I r h
 obtain ⟨e,h⟩:=h
 subst e
 cases r
 exact assignInOrder_nil ⟨σ,H,I,h⟩
theorem rE {e:Expr} {es:List Expr} {t:TG} {u:TGs} (h1:PG X e t) (h2:PGs X es u)
  (hs:(assignEach (e::es) X.env).map (·.2)=assign e X.env::(assignEach es X.env).map (·.2):=by rfl):PGs X (e::es) (kG t u):=by
 intro pins s σ H vs us Q I r h
 obtain ⟨v,vr,e1,h⟩:=h
 subst e1
 cases r with
 | cons r rr=>
  rw [hs]
  refine assignInOrder_cons (thn (h1 pins s σ H _ _ _ I r h) fun _ s1 ⟨σ1,H1,I1,q1⟩=>?_)
  exact h2 pins s1 σ1 H1 _ _ Q I1 rr q1
def zDf (K:PySem.W.Frag) (n:Nat) (t:TGs):TG:=fun v σ H Q=>∃ a xs,v=.ref a/\SqT K H a xs/\xs.length=n/\t xs σ H Q
theorem zFb {es:List Expr} {k:Nat} {t:TGs} {n:Nat} (hc:X.calm=true) (h:PGs X es t)
  (hn:(assignEach es X.env).length=n:=by rfl) (hst:(assignEach es X.env).findIdx? (·.1)=none:=by rfl):PG X (.Tuple es k pos) (zDf X.K n t):=by
 intro pins s σ H v u Q I r hw
 obtain ⟨a,xs,e1,hq,hl,hw⟩:=hw
 subst e1
 cases r
 obtain ⟨its,rv,ht,hz⟩:=I.tuple hq
 refine assign_Tuple_tuple (I.ok.hd hc) ht (by simp [hn,<-hl,rv.length]) hst fun h' hx=>?_
 have I1:Inv X pins σ H { s with heap:=h' }:=I.kept (t':=s.toks) fun b o e=>hx b o (Nat.ne_of_lt (Heap.lt_size e)) e
 exact h pins _ σ H xs _ Q I1 (by simpa using rv) hw
abbrev zKR (te:TE) (g:TG):TS:=fun D σ H=>te σ H fun x H1=>g x σ H1 D.nx
theorem xI {i:Nat} {x:Str} {e:Expr} {te:TE} {pos':Pos} (hN:X.N.Nodup) (hi:X.N[i]?=some x) (hx:Loc X.env.scope x) (he:PE X e te) (hs:swapsWith e (some (.Name x pos')) pos.line X.env=pure false:=by rfl) (hf:X.fn x=true∨X.env.scope.names.lookup x=some .local:=by first | exact .inl rfl | exact .inr rfl | assumption):
  PS X (.Assign [.Name x pos'] e pos) (zKR te (gName i)):=by
 intro pins s σ H D I h
 refine wpAny_Assign_Name (thn (he pins s σ H _ I h) fun v s1 ⟨y,H1,I1,r1,q1⟩=>?_) hs
 exact mY I1 hN hi hx r1 (fun s2 I2=>⟨_,H1,I2,q1⟩) hf
end
section
variable {X:Cx} {pos:Pos}
def zJb (c:TT) (tb:TS):TS:=fun D σ H=>∃ W:Nat->St->Hp->Prop,(∃ m,W m σ H)/\∀ m σ H,W m σ H->
 c σ H fun b H1=>if b=true then ∃ N:St->Hp->Prop,(∀ σ' H',N σ' H'->∃ m',m' < m/\W m' σ' H')/\tb { D with nx:=N,ct:=N,bk:=D.nx } σ H1 else D.nx σ H1
theorem yD {c:Expr} {body:List Stmt} {tc:TT} {tb:TS} (hp:PassesOwn (model X.prog X.w) X.A X.env X.xe) (hc:PT X c tc) (hb:PSs X body tb):PS X (.While c body [] pos) (zJb tc tb):=by
 intro pins s σ H D I h
 obtain ⟨W,⟨m0,w0⟩,turn⟩:=h
 refine wpAny_While (codeAny_whileLoop (fun n s'=>∃ σ' H',Inv X pins σ' H' s'/\W n σ' H') ?_ m0 ⟨σ,H,I,w0⟩)
 rintro n s1 ⟨σ1,H1,I1,w1⟩
 refine wpAny_passesOwn hp (thn (hc pins s1 σ1 H1 _ I1 (turn n σ1 H1 w1)) fun b s2 ⟨H2,I2,q2⟩=>?_)
 cases b with
 | true=>
  obtain ⟨N,hN,q2⟩:=q2
  rw [if_pos rfl]
  refine wpAny_passesOwn hp (thn (hb pins s2 σ1 H2 _ I2 q2) fun f s3 q3=>?_)
  cases f with
  | next=>
   obtain ⟨σ3,H3,I3,n3⟩:=q3
   obtain ⟨m',hm,w3⟩:=hN σ3 H3 n3
   exact ⟨m',hm,σ3,H3,I3,w3⟩
  | cont=>
   obtain ⟨σ3,H3,I3,n3⟩:=q3
   obtain ⟨m',hm,w3⟩:=hN σ3 H3 n3
   exact ⟨m',hm,σ3,H3,I3,w3⟩
  | brk=>exact q3
  | ret v=>exact q3
 | false=>
  rw [if_neg Bool.false_ne_true]
  exact wpAny_execs_nil ⟨σ1,H2,I2,q2⟩
end
structure It where
 go:Nat->Hp->Prop
 yld:Nat->Hp->V->Hp->Prop
 stop:Nat->Hp->Prop
def vX (X:Cx) (pins:List (Addr×Obj)) (H:Hp) (b:Addr):Prop:=
 H b=none/\b≠X.env.locals/\b∉X.fs/\(b∈X.ex∨X.s₀.heap.objs.size<=b)/\(∀ x c,X.env.cells.lookup x=some c->c≠b)/\∀ p∈X.pn++pins,p.1≠b
theorem Inv.fpOk {X:Cx} {pins:List (Addr×Obj)} {σ:St} {H H':Hp} {s:Shared} {b:Addr} (I:Inv X pins σ H s) (hb:s.heap.objs.size<=b) (hn:H' b=none):vX X pins H' b:=by
 refine ⟨hn,Nat.ne_of_gt (Nat.lt_of_lt_of_le I.lt hb),I.nofs hb,.inr (Nat.le_trans I.sz hb),fun x c e z=>?_,fun p hp z=>?_⟩
 ·obtain ⟨v,q⟩:=I.cell x c e
  exact absurd (Nat.lt_of_lt_of_le q.lt (by rw [z];exact hb)) (Nat.lt_irrefl _)
 ·exact absurd (Nat.lt_of_lt_of_le (Heap.lt_size (I.pin p hp).1) (by rw [z];exact hb)) (Nat.lt_irrefl _)
structure Turn (P:Program) (w:World) (K:PySem.W.Frag) (tg:Expr) (J:It) (fp:List Addr) (it:Addr) (tn:Nat->Heap->Prop):Prop where
 mem:it∈fp
 obj:∀ i h,tn i h->∀ b∈fp,∃ o,h.get? b=some o/\∀ v,o.data≠.cell v
 keep:∀ i h h',tn i h->(∀ b∈fp,∀ o,h.get? b=some o->h'.get? b=some o)->tn i h'
 item:∀ (X:Cx),X.prog=P->X.w=w->X.K=K->X.calm=true->∀ (i:Nat) (pins:List (Addr×Obj)) (s:Shared) (σ:St) (H:Hp) (E:Value->Shared->Prop),Inv X pins σ H s->(∀ b∈fp,vX X pins H b)->tn i s.heap->J.go i H->
  wpAny (model P w) X.A (pyNext (.ref it)) (fun r s1=>∃ u,r=some u/\
   wpAny (model P w) X.A (letOwnedTupleGo tg (.ref it) u) (fun _ s2=>∃ x H',Inv X pins σ H' s2/\cI x u/\J.yld i H x H'/\tn (i+1) s2.heap/\∀ b∈fp,H' b=none) E s1) E s
 done:∀ (X:Cx),X.prog=P->X.w=w->X.K=K->X.calm=true->∀ (i:Nat) (pins:List (Addr×Obj)) (s:Shared) (σ:St) (H:Hp) (E:Value->Shared->Prop),Inv X pins σ H s->(∀ b∈fp,vX X pins H b)->tn i s.heap->J.stop i H->
  wpAny (model P w) X.A (pyNext (.ref it)) (fun r s1=>r=none/\Inv X pins σ H s1) E s
 self:∀ (A:Around) (i:Nat) (s:Shared) (Q:Value->Shared->Prop) (E:Value->Shared->Prop),tn i s.heap->Q (.ref it) s->wpAny (model P w) A (pyIter (.ref it)) Q E s
abbrev TI:=St->Hp->(It->Hp->Prop)->Prop
def PIE (X:Cx) (pins:List (Addr×Obj)) (σ:St) (tg:Expr) (R:It->Hp->Prop) (itv:Value) (s2:Shared):Prop:=
 ∃ (it:Addr) (fp:List Addr) (tn:Nat->Heap->Prop) (J:It) (H':Hp),itv=.ref it/\Inv X pins σ H' s2/\Turn X.prog X.w X.K tg J fp it tn/\tn 0 s2.heap/\(∀ b∈fp,vX X pins H' b)/\R J H'
def PI (X:Cx) (tg iter:Expr) (wi:TI):Prop:=
 ∀ (pins:List (Addr×Obj)) (s:Shared) (σ:St) (H:Hp) (R:It->Hp->Prop),Inv X pins σ H s->wi σ H R->
  wpAny (model X.prog X.w) X.A (eval iter X.env) (fun v s1=>wpAny (model X.prog X.w) X.A (pyIter v) (PIE X pins σ tg R) X.xe s1) X.xe s
theorem zDY {M:Model} {A:Around} {E:Value->Shared->Prop} {s:Shared} {tg:Expr} {it:Addr} {u:Value} {o:Obj} {n:String} {vs:Array Value} {Q:Unit->Shared->Prop} (ho:s.heap.get? it=some o) (hc:o.cls=.type n) (hd:o.data=.fields vs)
    (hn:["enumerate", "zip", "dict_itemiterator", "dict_reverseitemiterator", "odict_iterator", "itertools.zip_longest", "itertools.pairwise"].contains n=false) (hQ:Q () s):wpAny M A (letOwnedTupleGo tg (.ref it) u) Q E s:=by
  unfold letOwnedTupleGo
  cases tg<;>first
    | exact wpAny_pure hQ
    | (cases u<;>first
        | exact wpAny_pure hQ
        | (refine wpAny_bind (wpAny_load ho ?_)
           rw [hc,hd]
           show wpAny M A (if (["enumerate", "zip", "dict_itemiterator", "dict_reverseitemiterator", "odict_iterator", "itertools.zip_longest", "itertools.pairwise"].contains n && vs[0]?==some (rawInt _))=true then _ else _) Q E s
           rw [if_neg (by intro h;rw [hn,Bool.false_and] at h;cases h)]
           exact wpAny_pure hQ))
def Itl (K:PySem.W.Frag) (a:Addr):It:=
 ⟨fun i H=>∃ xs x,SqL K H a xs/\xs[i]?=some x,fun i H x H'=>H'=H/\∀ xs,SqL K H a xs->xs[i]?=some x,fun i H=>∃ xs,SqL K H a xs/\xs.length<=i⟩
def Itt (K:PySem.W.Frag) (a:Addr):It:=
 ⟨fun i H=>∃ xs x,SqT K H a xs/\xs[i]?=some x,fun i H x H'=>H'=H/\∀ xs,SqT K H a xs->xs[i]?=some x,fun i H=>∃ xs,SqT K H a xs/\xs.length<=i⟩
def Itr (lo:Int) (n:Nat):It:=⟨fun i _=>i < n,fun i H x H'=>H'=H/\x=.int (lo+i),fun i _=>n<=i⟩
theorem zCC {P:Program} {w:World} {K:PySem.W.Frag} {tg:Expr} (a it:Addr):Turn P w K tg (Itl K a) [it] it (fun i h=>h.IsListIter it a i) where
 mem:=by simp
 obj:=fun i h st b hb=>by
  have e:b=it:=by simpa using hb
  subst e
  obtain ⟨o,e,c,d⟩:=st
  exact ⟨o,e,fun v z=>by rw [d] at z;cases z⟩
 keep:=fun i h h' st k=>st.at fun o e=>k it (by simp) o e
 item:=by
  intro X hP hw hK hc i pins s σ H E I hf st hg
  subst hP hw hK
  obtain ⟨xs,x,hq,hx⟩:=hg
  obtain ⟨its,rv,p,hz⟩:=I.list hq
  obtain ⟨u,hu,ru⟩:=rv.get hx
  obtain ⟨f0,f1,f2,f3,f4,f5⟩:=hf it (by simp)
  refine wpAny_pyNext_list_item st p.isList (x:=u) (by simpa using hu) fun h' st' sb=>?_
  have I1:Inv X pins σ H { s with heap:=h' }:=I.turned (t':=s.toks) (fun b o hb e=>(sb.2 b hb).trans e) f0 f1 f3 f4 f5
  obtain ⟨o,e,c,d⟩:=id st'
  exact ⟨u,rfl,zDY (s:={ s with heap:=h' }) e c d (by decide) ⟨x,H,I1,ru,⟨rfl,fun ys hy=>by rw [I.list_inj hy hq];exact hx⟩,st',fun b hb=>(hf b hb).1⟩⟩
 done:=by
  intro X hP hw hK hc i pins s σ H E I hf st hg
  subst hP hw hK
  obtain ⟨xs,hq,hx⟩:=hg
  obtain ⟨its,rv,p,hz⟩:=I.list hq
  obtain ⟨f0,f1,f2,f3,f4,f5⟩:=hf it (by simp)
  have hl:=rv.length
  exact wpAny_pyNext_list_end (I.ok.hd hc) st p.isList (by simp;omega) fun h' eb=>⟨rfl,I.turned (t':=s.toks) (fun b o hb e=>eb b o hb e) f0 f1 f3 f4 f5⟩
 self:=fun _ _ _ _ _ st h=>wpAny_pyIter_listiter st h
theorem zI {P:Program} {w:World} {K:PySem.W.Frag} {tg:Expr} (a it:Addr):Turn P w K tg (Itt K a) [it] it (fun i h=>h.IsTupleIter it a i) where
 mem:=by simp
 obj:=fun i h st b hb=>by
  have e:b=it:=by simpa using hb
  subst e
  obtain ⟨o,e,c,d⟩:=st
  exact ⟨o,e,fun v z=>by rw [d] at z;cases z⟩
 keep:=fun i h h' st k=>st.at fun o e=>k it (by simp) o e
 item:=by
  intro X hP hw hK hc i pins s σ H E I hf st hg
  subst hP hw hK
  obtain ⟨xs,x,hq,hx⟩:=hg
  obtain ⟨its,rv,p,hz⟩:=I.tuple hq
  obtain ⟨u,hu,ru⟩:=rv.get hx
  obtain ⟨f0,f1,f2,f3,f4,f5⟩:=hf it (by simp)
  refine wpAny_pyNext_tuple_item st (show s.heap.IsTuple a its.toArray from p) (x:=u) (by simpa using hu) fun h' st' sb=>?_
  have I1:Inv X pins σ H { s with heap:=h' }:=I.turned (t':=s.toks) (fun b o hb e=>(sb.2 b hb).trans e) f0 f1 f3 f4 f5
  obtain ⟨o,e,c,d⟩:=id st'
  exact ⟨u,rfl,zDY (s:={ s with heap:=h' }) e c d (by decide) ⟨x,H,I1,ru,⟨rfl,fun ys hy=>by rw [I.tuple_inj hy hq];exact hx⟩,st',fun b hb=>(hf b hb).1⟩⟩
 done:=by
  intro X hP hw hK hc i pins s σ H E I hf st hg
  subst hP hw hK
  obtain ⟨xs,hq,hx⟩:=hg
  obtain ⟨its,rv,p,hz⟩:=I.tuple hq
  obtain ⟨f0,f1,f2,f3,f4,f5⟩:=hf it (by simp)
  have hl:=rv.length
  exact wpAny_pyNext_tuple_end (I.ok.hd hc) st (show s.heap.IsTuple a its.toArray from p) (by simp;omega) fun h' eb=>⟨rfl,I.turned (t':=s.toks) (fun b o hb e=>eb b o hb e) f0 f1 f3 f4 f5⟩
 self:=fun _ _ _ _ _ st h=>wpAny_pyIter_tupleiter st h
theorem zS {P:Program} {w:World} {K:PySem.W.Frag} {tg:Expr} (it:Addr) (lo:Int) (n:Nat):Turn P w K tg (Itr lo n) [it] it (fun i h=>IsRangeIter h it (lo+(i:Nat) * 1) ((n:Int) - (i:Nat)) 1) where
 mem:=by simp
 obj:=fun i h st b hb=>by
  have e:b=it:=by simpa using hb
  subst e
  exact ⟨_,st,fun v z=>by
   have z':Data.fields _=Data.cell v:=z
   cases z'⟩
 keep:=fun i h h' st k=>k it (by simp) _ st
 item:=by
  intro X hP hw hK hc i pins s σ H E I hf st hg
  subst hP hw hK
  obtain ⟨f0,f1,f2,f3,f4,f5⟩:=hf it (by simp)
  have W:=Walks.range (prog:=X.prog) (w:=X.w) (I.ok.hd hc) it lo 1 n
  refine W.item i s _ _ hg st fun v h' tk hv st' kk=>?_
  obtain ⟨t,rfl⟩:=hv
  have I1:Inv X pins σ H { s with heap:=h',toks:=tk }:=I.turned (fun b o hb e=>kk b o (by simpa using hb) e) f0 f1 f3 f4 f5
  refine ⟨_,rfl,zDY (s:={ s with heap:=h',toks:=tk }) (n := "range_iterator") st' rfl rfl (by decide) ⟨.int (lo+i),H,I1,⟨t,?_⟩,⟨rfl,rfl⟩,st',fun b hb=>(hf b hb).1⟩⟩
  rw [Int.mul_one]
 done:=by
  intro X hP hw hK hc i pins s σ H E I hf st hg
  subst hP hw hK
  obtain ⟨f0,f1,f2,f3,f4,f5⟩:=hf it (by simp)
  exact wpAny_pyNext_range_end (I.ok.hd hc) st (by have:n<=i:=hg;omega) fun h' eb=>⟨rfl,I.turned (t':=s.toks) (fun b o hb e=>eb b o hb e) f0 f1 f3 f4 f5⟩
 self:=fun _ _ _ _ _ st h=>wpAny_pyIter_rangeiter st h
end L2
namespace L2
open PySem PySem.Spec PyProof.Rows
section
variable {X:Cx} {tg:Expr}
theorem zEd {pins:List (Addr×Obj)} {σ:St} {H:Hp} {s:Shared} {R:It->Hp->Prop} {E:Value->Shared->Prop} {lo hi:Int} {t u v:Tok} {tk:Nat} (I:Inv X pins σ H s) (h1:-(2^62)<=lo) (h2:lo < 2^62) (h3:-(2^62)<=hi) (h4:hi < 2^62)
  (q:R (Itr lo (hi - lo).toNat) H):wpAny (model X.prog X.w) X.A (pyIter (.ref s.heap.objs.size)) (PIE X pins σ tg R) E { s with heap:=s.heap.push { cls:=.type "range", data:=.fields #[.int lo t,.int hi u,.int 1 v] },toks:=tk }:=by
 refine wpAny_pyIter_range (IsRange.new ..) (small_one h1 h2 h3 h4) ?_
 have I1:Inv X pins σ H { s with heap:=s.heap.push { cls:=.type "range", data:=.fields #[.int lo t,.int hi u,.int 1 v] },toks:=tk }:=I.kept fun b o e=>Heap.get?_push_of_some _ e
 refine ⟨(s.heap.push { cls:=.type "range", data:=.fields #[.int lo t,.int hi u,.int 1 v] }).objs.size,[(s.heap.push { cls:=.type "range", data:=.fields #[.int lo t,.int hi u,.int 1 v] }).objs.size],_,_,H,rfl,
  I1.kept (t':=tk) fun b o e=>Heap.get?_push_of_some _ e,zS _ lo (hi - lo).toNat,?_,fun b hb=>?_,q⟩
 ·have e1:lo+((0:Nat):Int) * 1=lo:=by simp
  have e2:(((hi - lo).toNat:Nat):Int) - ((0:Nat):Int)=Builtin.Range.rangeSize lo hi 1:=by rw [rangeSize_one];split<;>omega
  show IsRangeIter _ _ (lo+((0:Nat):Int) * 1) ((((hi - lo).toNat:Nat):Int) - ((0:Nat):Int)) 1
  rw [e1,e2]
  exact Heap.get?_push_size _ rfl
 ·have e:b=(s.heap.push { cls:=.type "range", data:=.fields #[.int lo t,.int hi u,.int 1 v] }).objs.size:=by simpa using hb
  subst e
  exact I1.fpOk (Nat.le_refl _) (I1.hok.fresh (Nat.le_refl _))
abbrev sP (ta:TA):TI:=fun σ H R=>ta σ H fun vs H1=>∃ j:Int,vs=[.int j]/\-(2^62)<=j/\j < 2^62/\R (Itr 0 j.toNat) H1
theorem zCq {a:Expr} {ta:TA} {p pos:Pos} (hg:Gl X "range") (hm:X.mg "range" = none) (ha:PA X [a] ta) (hs:starEach [a] X.env=[(false,eval a X.env)]:=by rfl):PI X tg (.Call (.Name "range" p) [a] [] pos) (sP ta):=by
 intro pins s σ H R I h
 refine Call_ (oV I hg hm boot_range (PyProof.Rows.callWith_type1 (thn (ha pos pins s σ H _ I h) fun us s1 ⟨vs,H1,I1,r1,q1⟩=>?_) hs rfl))
 obtain ⟨j,e,q1,q2,q⟩:=q1
 subst e
 cases r1 with
 | cons r rr=>
  cases rr
  obtain ⟨t,rfl⟩:=r
  exact call_range_1 (zEd I1 (by omega) (by omega) q1 q2 (by simpa using q))
abbrev zKX (wi:TI) (g:TG) (tb:TS):TS:=fun D σ H=>wi σ H fun J H1=>∃ W:Nat->Nat->St->Hp->Prop,(∃ m,W 0 m σ H1)/\∀ i m σ H,W i m σ H->
 (J.stop i H/\D.nx σ H)∨(J.go i H/\∃ N:St->Hp->Prop,(∀ σ' H',N σ' H'->∃ m',m' < m/\W (i+1) m' σ' H')/\∀ x H',J.yld i H x H'->g x σ H' fun σ2 H2=>tb { D with nx:=N,ct:=N,bk:=D.nx } σ2 H2)
def pM (fp:List Addr) (h:Heap):List (Addr×Obj):=fp.filterMap fun b=>(h.get? b).map fun o=>(b,o)
theorem fF {fp:List Addr} {h:Heap} {b:Addr} {o:Obj} (hb:b∈fp) (e:h.get? b=some o):(b,o)∈pM fp h:=List.mem_filterMap.mpr ⟨b,hb,by rw [e];rfl⟩
theorem zBg {fp:List Addr} {h:Heap} {p:Addr×Obj} (hp:p∈pM fp h):p.1∈fp/\h.get? p.1=some p.2:=by
 obtain ⟨b,hb,e⟩:=List.mem_filterMap.mp hp
 cases q:h.get? b with
 | none=>rw [q] at e;cases e
 | some o=>
  rw [q] at e
  have e':(b,o)=p:=Option.some.inj e
  subst e'
  exact ⟨hb,q⟩
theorem Inv.pinned {pins:List (Addr×Obj)} {σ:St} {H:Hp} {s:Shared} {fp:List Addr} (I:Inv X pins σ H s) (hf:∀ b∈fp,vX X pins H b) (ho:∀ b∈fp,∃ o,s.heap.get? b=some o/\∀ v,o.data≠.cell v):Inv X (pins++pM fp s.heap) σ H s:=
 I.pins_of fun p hp=>(List.mem_append.mp hp).elim (fun z=>I.pin p (List.mem_append_right _ z)) fun z=>by
  obtain ⟨hb,e⟩:=zBg z
  obtain ⟨f0,f1,f2,_⟩:=hf p.1 hb
  obtain ⟨o,e',d⟩:=ho p.1 hb
  rw [e] at e';cases e'
  exact ⟨e,f0,f1,f2,d⟩
theorem Inv.unpinned {pins pl:List (Addr×Obj)} {σ:St} {H:Hp} {s:Shared} (I:Inv X (pins++pl) σ H s):Inv X pins σ H s:=I.pins_of fun p hp=>I.pin p (List.mem_append_right _ (List.mem_append_left _ hp))
theorem zIW {iter:Expr} {body:List Stmt} {wi:TI} {g:TG} {tb:TS} {pos:Pos} (hp:PassesOwn (model X.prog X.w) X.A X.env X.xe) (hc:X.calm=true) (hi:PI X tg iter wi) (hg:PG X tg g) (hb:PSs X body tb)
  (hs:∀ x,foldedSetIterable iter X.env x=pure x:=by intro _;rfl):PS X (.For tg iter body [] pos) (zKX wi g tb):=by
 intro pins s σ H D I h
 refine wpAny_For (thn (hi pins s σ H _ I h) fun v s1 h1=>thn h1 fun itv s2 h2=>?_) hs
 obtain ⟨it,fp,tn,J,H2,e,I2,T,st2,f2,W,⟨m0,w0⟩,turn⟩:=h2
 subst e
 have stat:∀ {H':Hp},(∀ b∈fp,H' b=none)->∀ b∈fp,vX X pins H' b:=fun hn b hb=>⟨hn b hb,(f2 b hb).2⟩
 refine codeAny_forLoop_any (fun n s'=>∃ i σ' H',Inv X pins σ' H' s'/\tn i s'.heap/\(∀ b∈fp,H' b=none)/\W i n σ' H') ?_ m0 ⟨0,σ,H2,I2,st2,fun b hb=>(f2 b hb).1,w0⟩
 rintro n s3 ⟨i,σ3,H3,I3,st3,fr3,w3⟩
 rcases turn i n σ3 H3 w3 with ⟨stop,qn⟩ | ⟨go,N,hN,step⟩
 ·refine wpAny_passesOwn hp (thn (T.done X rfl rfl rfl hc i pins s3 σ3 H3 X.xe I3 (stat fr3) st3 stop) fun r s4 ⟨hr,I4⟩=>?_)
  subst hr
  exact wpAny_execs_nil ⟨σ3,H3,I4,qn⟩
 ·refine wpAny_passesOwn hp (thn (T.item X rfl rfl rfl hc i pins s3 σ3 H3 X.xe I3 (stat fr3) st3 go) fun r s4 ⟨u,hr,h4⟩=>?_)
  subst hr
  refine wpAny_passesOwn hp (thn h4 fun _ s5 ⟨x,H5,I5,r5,y5,st5,fr5⟩=>?_)
  have I5':=I5.pinned (stat fr5) (T.obj _ _ st5)
  refine wpAny_passesOwn hp (thn (hg _ s5 σ3 H5 x u _ I5' r5 (step x H5 y5)) fun _ s6 ⟨σ6,H6,I6,q6⟩=>?_)
  refine wpAny_passesOwn hp (thn (hb _ s6 σ6 H6 _ I6 q6) fun f s7 q7=>?_)
  have again:∀ {σ7:St} {H7:Hp},Inv X (pins++pM fp s5.heap) σ7 H7 s7->N σ7 H7->∃ m,m < n/\∃ i σ' H',Inv X pins σ' H' s7/\tn i s7.heap/\(∀ b∈fp,H' b=none)/\W i m σ' H':=fun {σ7 H7} I7 n7=>by
   obtain ⟨m',hm,w7⟩:=hN σ7 H7 n7
   refine ⟨m',hm,i+1,σ7,H7,I7.unpinned,T.keep _ _ _ st5 fun b hb o e=>(I7.pin (b,o) (List.mem_append_right _ (List.mem_append_right _ (fF hb e)))).1,fun b hb=>?_,w7⟩
   obtain ⟨o,e,d⟩:=T.obj _ _ st5 b hb
   exact (I7.pin (b,o) (List.mem_append_right _ (List.mem_append_right _ (fF hb e)))).2.1
  cases f with
  | next=>obtain ⟨σ7,H7,I7,n7⟩:=q7;exact again I7 n7
  | cont=>obtain ⟨σ7,H7,I7,n7⟩:=q7;exact again I7 n7
  | brk=>obtain ⟨σ7,H7,I7,q7⟩:=q7;exact ⟨σ7,H7,I7.unpinned,q7⟩
  | ret v=>obtain ⟨x7,σ7,H7,I7,r7,q7⟩:=q7;exact ⟨x7,σ7,H7,I7.unpinned,r7,q7⟩
end
end L2
namespace L2
open PySem PySem.Spec PyProof.Rows
abbrev R2:=V->V->Hp->VK->Prop
def OpR (X:Cx) (f:Value->Value->Sem Value) (r:R2):Prop:=
 ∀ (pins:List (Addr×Obj)) (s:Shared) (σ:St) (H:Hp) (x y:V) (v u:Value) (Q:VK),Inv X pins σ H s->cI x v->cI y u->r x y H Q->
  wpAny (model X.prog X.w) X.A (f v u) (EP X pins σ Q) X.xe s
def UnR (X:Cx) (f:Value->Sem Value) (r:V->Hp->VK->Prop):Prop:=
 ∀ (pins:List (Addr×Obj)) (s:Shared) (σ:St) (H:Hp) (x:V) (v:Value) (Q:VK),Inv X pins σ H s->cI x v->r x H Q->
  wpAny (model X.prog X.w) X.A (f v) (EP X pins σ Q) X.xe s
def lI (X:Cx) (f:Value) (r:List V->Hp->VK->Prop):Prop:=
 ∀ (pins:List (Addr×Obj)) (s:Shared) (σ:St) (H:Hp) (xs:List V) (us:List Value) (Q:VK),Inv X pins σ H s->dM xs us->r xs H Q->
  wpAny (model X.prog X.w) X.A (call f us) (EP X pins σ Q) X.xe s
abbrev tOp (r:R2) (ta tb:TE):TE:=fun σ H Q=>ta σ H fun x H1=>tb σ H1 fun y H2=>r x y H2 Q
abbrev tUn (r:V->Hp->VK->Prop) (ta:TE):TE:=fun σ H Q=>ta σ H fun x H1=>r x H1 Q
def rI (C:Int->Int->Prop) (g:Int->Int->V):R2:=fun x y H Q=>∃ i j,x=.int i/\y=.int j/\C i j/\Q (g i j) H
def rI0 (g:Int->Int->V):R2:=fun x y H Q=>∃ i j,x=.int i/\y=.int j/\Q (g i j) H
def rU (g:Int->V):V->Hp->VK->Prop:=fun x H Q=>∃ i,x=.int i/\Q (g i) H
section
variable {X:Cx} {a b c:Expr} {ta tb tc:TE} {pos:Pos}
theorem zJw (ha:PE X a ta) (hb:PE X b tb) {pins:List (Addr×Obj)} {s:Shared} {σ:St} {H:Hp} {R:V->V->Hp->Prop} (I:Inv X pins σ H s)
  (h:ta σ H fun x H1=>tb σ H1 fun y H2=>R x y H2) {Q:Value->Shared->Prop} {f:Value->Value->Sem Value}
  (hf:∀ v u s2 x y H2,Inv X pins σ H2 s2->cI x v->cI y u->R x y H2->wpAny (model X.prog X.w) X.A (f v u) Q X.xe s2):
  wpAny (model X.prog X.w) X.A (eval a X.env) (fun v s₁=>wpAny (model X.prog X.w) X.A (eval b X.env) (fun u s₂=>wpAny (model X.prog X.w) X.A (f v u) Q X.xe s₂) X.xe s₁) X.xe s:=by
 refine thn (ha pins s σ H _ I h) fun v s1 ⟨x,H1,I1,r1,q1⟩=>?_
 refine thn (hb pins s1 σ H1 _ I1 q1) fun u s2 ⟨y,H2,I2,r2,q2⟩=>?_
 exact hf v u s2 x y H2 I2 r1 r2 q2
theorem zHw {op:Operator} {r:R2} (ho:OpR X (binaryOp op) r) (ha:PE X a ta) (hb:PE X b tb):PE X (.BinOp a op b pos) (tOp r ta tb):=by
 intro pins s σ H Q I h
 exact wpAny_BinOp (zJw ha hb I h fun v u s2 x y H2 I2 rx ry q=>ho pins s2 σ H2 x y v u Q I2 rx ry q)
theorem zKr {op:UnaryOp} {r:V->Hp->VK->Prop} (ho:UnR X (unaryOp op) r) (ha:PE X a ta):PE X (.UnaryOp op a pos) (tUn r ta):=by
 intro pins s σ H Q I h
 exact UnaryOp_ (thn (ha pins s σ H _ I h) fun v s1 ⟨x,H1,I1,r1,q1⟩=>ho pins s1 σ H1 x v Q I1 r1 q1)
theorem opI {f:Value->Value->Sem Value} {C:Int->Int->Prop} {g:Int->Int->Int}
  (rule:∀ (i j:Int) (t u:Tok) (s:Shared) (Q:Value->Shared->Prop) (E:Value->Shared->Prop),C i j->Q (.int (g i j) s.toks) { s with toks:=s.toks+1 }->wpAny (model X.prog X.w) X.A (f (.int i t) (.int j u)) Q E s):
  OpR X f (rI C fun i j=>.int (g i j)):=by
 intro pins s σ H x y v u Q I rx ry h
 obtain ⟨i,j,rfl,rfl,hc,q⟩:=h
 obtain ⟨t,rfl⟩:=rx
 obtain ⟨t',rfl⟩:=ry
 exact rule i j t t' s _ _ hc ⟨.int (g i j),H,I.tok _,⟨_,rfl⟩,q⟩
theorem zLA {f:Value->Value->Sem Value} {g:Int->Int->Int}
  (rule:∀ (i j:Int) (t u:Tok) (s:Shared) (Q:Value->Shared->Prop) (E:Value->Shared->Prop),Q (.int (g i j) s.toks) { s with toks:=s.toks+1 }->wpAny (model X.prog X.w) X.A (f (.int i t) (.int j u)) Q E s):
  OpR X f (rI0 fun i j=>.int (g i j)):=by
 intro pins s σ H x y v u Q I rx ry h
 obtain ⟨i,j,rfl,rfl,q⟩:=h
 obtain ⟨t,rfl⟩:=rx
 obtain ⟨t',rfl⟩:=ry
 exact rule i j t t' s _ _ ⟨.int (g i j),H,I.tok _,⟨_,rfl⟩,q⟩
theorem zKF {f:Value->Value->Sem Value} {g:Int->Int->Bool}
  (rule:∀ (i j:Int) (t u:Tok) (s:Shared) (Q:Value->Shared->Prop) (E:Value->Shared->Prop),Q (.bool (g i j)) s->wpAny (model X.prog X.w) X.A (f (.int i t) (.int j u)) Q E s):
  OpR X f (rI0 fun i j=>.bl (g i j)):=by
 intro pins s σ H x y v u Q I rx ry h
 obtain ⟨i,j,rfl,rfl,q⟩:=h
 obtain ⟨t,rfl⟩:=rx
 obtain ⟨t',rfl⟩:=ry
 exact rule i j t t' s _ _ ⟨.bl (g i j),H,I,rfl,q⟩
def zJE (i j:Int):Prop:=(-(2^64) < i/\i < 2^64)∨(-(2^64) < j/\j < 2^64)
theorem zJE.ok {i j:Int} (h:zJE i j):IntMulOk i j:=by
 rcases h with ⟨h1,h2⟩ | ⟨h1,h2⟩
 ·exact .of_left (intBits_le_64 h1 h2)
 ·exact .of_right (intBits_le_64 h1 h2)
theorem zHV:OpR X (binaryOp .Add) (rI0 fun i j=>.int (i+j)):=zLA fun _ _ _ _ _ _ _ q=>add_int q
theorem bN:OpR X (binaryOp .Mod) (rI (fun _ j=>j≠0) fun i j=>.int (i.fmod j)):=opI fun _ _ _ _ _ _ _ hc q=>mod_int' hc q
theorem unI {f:Value->Sem Value} {g:Int->Int}
  (rule:∀ (i:Int) (t:Tok) (s:Shared) (Q:Value->Shared->Prop) (E:Value->Shared->Prop),Q (.int (g i) s.toks) { s with toks:=s.toks+1 }->wpAny (model X.prog X.w) X.A (f (.int i t)) Q E s):
  UnR X f (rU fun i=>.int (g i)):=by
 intro pins s σ H x v Q I rx h
 obtain ⟨i,rfl,q⟩:=h
 obtain ⟨t,rfl⟩:=rx
 exact rule i t s _ _ ⟨.int (g i),H,I.tok _,⟨_,rfl⟩,q⟩
theorem zIG:UnR X (unaryOp .USub) (rU fun i=>.int (-i)):=unI fun _ _ _ _ _ q=>neg_int q
end
section
variable {X:Cx} {a b c:Expr} {ta tb tc:TE} {pos:Pos}
theorem zEQ {pins:List (Addr×Obj)} {σ:St} {H:Hp} {s:Shared} {Q:VK} {k k':Bool} (I:Inv X pins σ H s) (q:Q (.bl k) H) (e:k=k'):EP X pins σ Q (.bool k') s:=by
 subst e
 exact ⟨.bl k,H,I,rfl,q⟩
theorem zDS:OpR X (compareOp .Lt) (rI0 fun i j=>.bl (decide (i < j))):=zKF fun _ _ _ _ _ _ _ q=>lt_int q
theorem zIw:OpR X (compareOp .LtE) (rI0 fun i j=>.bl (decide (i<=j))):=zKF fun _ _ _ _ _ _ _ q=>le_int q
theorem uC:OpR X (compareOp .Gt) (rI0 fun i j=>.bl (decide (j < i))):=zKF fun _ _ _ _ _ _ _ q=>gt_int q
theorem vM:OpR X (compareOp .In) (fun x y H Q=>∃ i j,x=.str i/\y=.str j/\Q (.bl (!(Builtin.Str.occurrences j i 0 j.length 1).isEmpty)) H):=by
 intro pins s σ H x y v u Q I rx ry h
 obtain ⟨i,j,rfl,rfl,q⟩:=h
 obtain ⟨t,rfl⟩:=rx
 obtain ⟨t',rfl⟩:=ry
 exact in_str (zEQ I q rfl)
theorem zEA:OpR X (compareOp .Is) (fun x y H Q=>y=.non/\Q (.bl (decide (x=.non))) H):=by
 intro pins s σ H x y v u Q I rx ry h
 obtain ⟨rfl,q⟩:=h
 cases ry
 refine is_none_gen (zEQ I q ?_)
 cases x<;>first
  | (cases rx;rfl)
  | (obtain ⟨t,rfl⟩:=rx;rfl)
theorem OpR.or {f:Value->Value->Sem Value} {r r':R2} (h:OpR X f r) (h':OpR X f r'):OpR X f (fun x y H Q=>r x y H Q∨r' x y H Q):=by
 intro pins s σ H x y v u Q I rx ry q
 rcases q with q | q
 ·exact h pins s σ H x y v u Q I rx ry q
 ·exact h' pins s σ H x y v u Q I rx ry q
theorem bR (b:Expr) {op:CmpOp} (h:op≠.In:=by decide) (h2:op≠.NotIn:=by decide):behindInMarks op b=false:=by
 have e1:(op==CmpOp.In)=false:=by cases op<;>first | rfl | exact absurd rfl h
 have e2:(op==CmpOp.NotIn)=false:=by cases op<;>first | rfl | exact absurd rfl h2
 cases b<;>simp [behindInMarks,e1,e2]
theorem zBr {op:CmpOp} {r:R2} (ho:OpR X (compareOp op) r) (ha:PE X a ta) (hb:PE X b tb) (hm:behindInMarks op b=false):PE X (.Compare a [op] [b] pos) (tOp r ta tb):=by
 intro pins s σ H Q I h
 exact wpAny_Compare1 (zJw ha hb I h fun v u s2 x y H2 I2 rx ry q=>ho pins s2 σ H2 x y v u Q I2 rx ry q) hm
abbrev zHu (t:TE):TT:=fun σ H Q=>t σ H fun x H'=>∃ k,x=.bl k/\Q k H'
theorem wP {op:CmpOp} {r:R2} (ho:OpR X (compareOp op) r) (ha:PE X a ta) (hb:PE X b tb) (hm:behindInMarks op b=false):PT X (.Compare a [op] [b] pos) (zHu (tOp r ta tb)):=by
 intro pins s σ H Q I h
 refine wpAny_isTrue_Compare1 (thn (ha pins s σ H _ I h) fun v s1 ⟨x,H1,I1,r1,q1⟩=>thn (hb pins s1 σ H1 _ I1 q1) fun u s2 ⟨y,H2,I2,r2,q2⟩=>
  thn (ho pins s2 σ H2 x y v u _ I2 r1 r2 q2) fun c s3 ⟨z,H3,I3,r3,k,e,q3⟩=>?_) hm
 subst e
 cases r3
 exact wpAny_truthy_bool ⟨H3,I3,q3⟩
abbrev zEM (r r':R2) (ta tb tc:TE):TE:=fun σ H Q=>ta σ H fun x H1=>tb σ H1 fun y H2=>r x y H2 fun z H3=>∃ k,z=.bl k/\
 (if k=true then tc σ H3 fun w' H4=>r' y w' H4 Q else Q (.bl false) H3)
theorem zDs {op op':CmpOp} {r r':R2} (ho:OpR X (compareOp op) r) (ho':OpR X (compareOp op') r') (ha:PE X a ta) (hb:PE X b tb) (hc:PE X c tc)
  (hm:lastMarks [op,op'] [b,c]=false:=by with_unfolding_all rfl):PE X (.Compare a [op,op'] [b,c] pos) (zEM r r' ta tb tc):=by
 intro pins s σ H Q I h
 refine Compare_chain (thn (ha pins s σ H _ I h) fun v s1 ⟨x,H1,I1,r1,q1⟩=>chain_link (thn (hb pins s1 σ H1 _ I1 q1) fun u s2 ⟨y,H2,I2,r2,q2⟩=>
  thn (ho pins s2 σ H2 x y v u _ I2 r1 r2 q2) fun d s3 ⟨z,H3,I3,r3,k,e,q3⟩=>?_)) hm
 subst e
 cases r3
 refine wpAny_truthy_bool ?_
 cases k with
 | false=>exact ite_ff ⟨.bl false,H3,I3,rfl,q3⟩
 | true=>exact ite_tt (chain_last (thn (hc pins s3 σ H3 _ I3 q3) fun w' s4 ⟨z',H4,I4,r4,q4⟩=>ho' pins s4 σ H4 y z' u w' Q I4 r2 r4 q4))
theorem xC:(sizeLine:Nat) < 2^63:=by rw [sizeLine_eq];decide
theorem zAs:OpR X (binaryOp .Add) (fun x y H Q=>∃ i j,x=.str i/\y=.str j/\i.length+j.length<=sizeLine/\Q (.str (i++j)) H):=by
 intro pins s σ H x y v u Q I rx ry h
 obtain ⟨i,j,rfl,rfl,hz,q⟩:=h
 obtain ⟨t,rfl⟩:=rx
 obtain ⟨t',rfl⟩:=ry
 exact add_str (fun t' tk=>⟨.str (i++j),H,I.tok _,⟨_,rfl⟩,q⟩) hz
def yU (b:Expr):Prop:=∀ o i,subscripted b false o i=operate [o,i] (getItem o i)
theorem vO (ha:PE X a ta) (hb:PE X b tb) (hs:yU b):
  PE X (.Subscript a b pos) (tOp (fun x y H Q=>∃ z i c,x=.str z/\y=.int i/\0<=i/\i < 2^63/\i < z.length/\z.cps[i.toNat]?=some c/\Q (.str ⟨#[c]⟩) H) ta tb):=by
 intro pins s σ H Q I h
 refine Subscript_ (zJw ha hb I h fun v u s2 x y H2 I2 rx ry q=>?_)
 obtain ⟨z,i,c,rfl,rfl,h0,h63,h1,hc,q⟩:=q
 obtain ⟨t,rfl⟩:=rx
 obtain ⟨t',rfl⟩:=ry
 have e:seqIndex? i z.length=some i.toNat:=PySem.StrLaws.seqIndex_nonneg h0 h1
 exact tail_any (typeIs_str s2 z t) slot_str_getitem.lookup (getItem_str (c:=c) (by
  have e1:decide (i < -(2^63:Int))=false:=decide_eq_false (by omega)
  have e2:decide (i ≥ 2^63)=false:=decide_eq_false (by omega)
  rw [e1,e2]<;>rfl) (by rw [e];exact hc) ⟨.str ⟨#[c]⟩,H2,I2.tok _,⟨_,rfl⟩,q⟩) (hs _ _)
theorem wV {x:V} {us:List Value} (r:dM [x] us):∃ u,us=[u]/\cI x u:=by
 cases r with
 | cons r1 r2=>cases r2;exact ⟨_,rfl,r1⟩
theorem zHq {x y:V} {us:List Value} (r:dM [x,y] us):∃ u w',us=[u,w']/\cI x u/\cI y w':=by
 cases r with
 | cons r1 r2=>
  cases r2 with
  | cons r3 r4=>cases r4;exact ⟨_,_,rfl,r1,r3⟩
theorem zBj (hc:X.calm=true):lI X (.builtin "min") (fun xs H Q=>∃ i j,xs=[.int i,.int j]/\Q (.int (if j < i then j else i)) H):=by
 intro pins s σ H xs us Q I r h
 obtain ⟨i,j,rfl,q⟩:=h
 obtain ⟨u,w',rfl,⟨t,rfl⟩,⟨t',rfl⟩⟩:=zHq r
 refine min_two_ints (I.ok.hd hc) fun h' tk k=>⟨_,H,I.kept k,?_,q⟩
 by_cases hj:j < i
 ·rw [if_pos hj,if_pos hj];exact ⟨_,rfl⟩
 ·rw [if_neg hj,if_neg hj];exact ⟨_,rfl⟩
def zKQ (K:PySem.W.Frag) (x:V) (H:Hp) (n:Nat):Prop:=
 match x with
 | .str y=>y.length<=sizeLine/\n=y.length
 | .byt y=>y.size<=sizeLine/\n=y.size
 | .ref p=>(∃ xs,SqL K H p xs/\n=xs.length)∨∃ xs,SqT K H p xs/\n=xs.length
 | _=>False
theorem jY:lI X (.builtin "len") (fun xs H Q=>∃ x n,xs=[x]/\zKQ X.K x H n/\Q (.int n) H):=by
 intro pins s σ H xs us Q I r h
 obtain ⟨x,n,rfl,e,q⟩:=h
 obtain ⟨u,rfl,rx⟩:=wV r
 have hl:=xC
 have hs:sizeLine=16777216:=sizeLine_eq
 cases x with
 | str y=>
  obtain ⟨t,rfl⟩:=rx
  obtain ⟨hy,e'⟩:y.length<=sizeLine/\n=y.length:=e
  subst e'
  exact len_str (by omega) ⟨.int _,H,I.tok _,⟨_,rfl⟩,q⟩
 | byt y=>
  obtain ⟨t,rfl⟩:=rx
  obtain ⟨hy,e'⟩:y.size<=sizeLine/\n=y.size:=e
  subst e'
  exact PySem.W.len_bytes (by omega) ⟨.int _,H,I.tok _,⟨_,rfl⟩,q⟩
 | ref p=>
  cases rx
  have e':(∃ xs,SqL X.K H p xs/\n=xs.length)∨∃ xs,SqT X.K H p xs/\n=xs.length:=e
  rcases e' with ⟨xs,hx,e'⟩ | ⟨xs,hx,e'⟩
  ·subst e'
   obtain ⟨its,r',pl,hz⟩:=I.list hx
   have hlen:=r'.length
   exact Calls.call_len_list pl.isList (by simp only [List.size_toArray];omega) ⟨.int xs.length,H,I.tok _,⟨_,by simp only [List.size_toArray];rw [hlen]⟩,q⟩
  ·subst e'
   obtain ⟨its,r',pl,hz⟩:=I.tuple hx
   have hlen:=r'.length
   exact len_tuple pl (by simp only [List.size_toArray];omega) ⟨.int xs.length,H,I.tok _,⟨_,by simp only [List.size_toArray];rw [hlen]⟩,q⟩
 | _=>exact (show False from e).elim
end
end L2
namespace L2
open PySem PySem.Spec PyProof.Rows
structure ObjM (h:Heap) (x dx C:Addr) (mA:Str->Option Value):Prop where
 obj:h.get? x=some (PySem.W.instObj C dx)
 ns:h.Ns1 dx mA
 ne:dx≠x
theorem zAA {h:Heap} {dx:Addr} {mA:Str->Option Value} (n:h.Ns1 dx mA):∃ od,h.get? dx=some od/\∀ name,PySem.W.lookIn name od=some (mA name):=by
 obtain ⟨o,es,ep,ho,hd,hk,_,hm⟩:=n
 refine ⟨o,ho,fun name=>?_⟩
 have e:=hm name
 unfold nsFind findBy at e
 rw [<-Array.find?_toList] at e
 unfold PySem.W.lookIn
 rw [hd]
 dsimp only
 split
 ·rename_i y q
  rw [q] at e
  exact congrArg some e
 ·rename_i q
  rw [q] at e
  have a:es.toList.any (·.refKey)=false:=by
   rw [List.any_eq_false]
   intro y hy
   obtain ⟨z,t,hkey⟩:=hk y (Array.mem_toList_iff.mp hy)
   simp [DictEntry.refKey,hkey]
  have a':¬ es.toList.any (·.refKey)=true:=by rw [a];exact Bool.false_ne_true
  rw [if_neg a']
  exact congrArg some e
theorem ObjM.look {h:Heap} {x dx C:Addr} {mA:Str->Option Value} (I:ObjM h x dx C mA):∃ od,PySem.W.InstAt h x (PySem.W.instObj C dx) C (some od)/\∀ name,PySem.W.lookIn name od=some (mA name):=
 let ⟨od,ho,hl⟩:=zAA I.ns
 ⟨od,⟨I.obj,rfl,rfl,ho⟩,hl⟩
section
variable {prog:Program} {w:World} {A:Around} {E:Value->Shared->Prop} {s:Shared} {K:PySem.W.Frag} {x dx C f:Addr} {mA:Str->Option Value} {name:Str} {v:Value}
theorem zGf {expr:Bool} {Q:Value->Shared->Prop} (X:K.In s.heap) (I:ObjM s.heap x dx C mA) (hg:PySem.W.plainGet K C name=true) (hh:PySem.W.hasDictIn K C=true)
  (ha:PySem.W.findIn K (.ref C) name=some none) (hv:mA name=some v) (hv':PySem.W.handedIn v=true) (h:Q v { s with toks:=s.toks+1 }):
  wpAny (model prog w) A (getAttr (.ref x) name expr) Q E s:=by
 obtain ⟨od,J,hl⟩:=I.look
 exact PySem.W.get_value X J (PySem.W.plainGet_of hg).1 (PySem.W.findObj_own hh ha rfl (by rw [hl,hv])) hv' h
theorem zDI {pl:Sem Bool} {Q:Value×List Value->Shared->Prop} (X:K.In s.heap) (I:ObjM s.heap x dx C mA) (hg:PySem.W.plainGet K C name=true)
  (hf:PySem.W.findIn K (.ref C) name=some (some (.ref f))) (ht:PySem.W.isFn K (.ref f)=true) (hv:mA name=none) (h:Q (.ref f,[.ref x]) s):
  wpAny (model prog w) A (getMethod (.ref x) name pl) Q E s:=by
 obtain ⟨od,J,hl⟩:=I.look
 exact PySem.W.method_fn X J (PySem.W.plainGet_of hg).1 (PySem.W.plainGet_of hg).2 hf (beq_iff_eq.mp ht) (by show (PySem.W.lookIn name od).map (·.isSome)=some false;rw [hl,hv];rfl) h
theorem zGb {ns:List Str} {Q:Unit->Shared->Prop} (X:K.In s.heap) (I:ObjM s.heap x dx C mA)
  (hs:PySem.W.findIn K (.ref C) "__setattr__" = some (some (.builtin "object.__setattr__"))) (hp:PySem.W.plainOver K C=true) (ht:PySem.W.takerIn K C name=some none) (hh:PySem.W.hasDictIn K C=true)
  (hw:PySem.Within mA ns) (hsz:ns.length<=sizeLine)
  (h:∀ h',ObjM h' x dx C (fun y=>if y=name then some v else mA y)->Heap.SameBut dx s.heap h'->Q () { s with heap:=h',toks:=s.toks+2 }):
  wpAny (model prog w) A (setAttr (.ref x) name v) Q E s:=by
 obtain ⟨od,J,hl⟩:=I.look
 refine PySem.W.set_plain X J hs (PySem.W.osa_open (s:={ s with toks:=s.toks+1 }) (r:=none) X J hp ht fun b=>?_)
 obtain ⟨cd,hc,hd'⟩:=PySem.W.any_some hh
 have hx:s.heap.get? x=some ⟨.ref C,some dx,.plain,#[]⟩:=I.obj
 refine wpAny_bind (wpAny_pure (wpAny_bind (wpAny_bind (wpAny_loadPart hx (wpAny_bind (PySem.W.Looks.here (s:={ s with toks:=s.toks+1 }) (PySem.W.looks_clsIn X hc) ?_))))))
 rw [hd']
 refine wpAny_pure (a:=some dx) (wpAny_bind (wpAny_pure (wpAny_bind ?_)))
 refine wpAny_nsSet1 (s:={ s with toks:=s.toks+1 }) I.ns fun h' hn2 hs2=>?_
 obtain ⟨oD,esD,epD,hoD,hdD,hcD⟩:=hn2.count (PySem.Within.cons name v hw)
 refine wpAny_bind (wpAny_lookBehind hoD (by rw [hdD];exact pastItsLine_dict (Nat.le_trans hcD (by rw [List.length_cons];omega))) ?_)
 exact wpAny_pure (h _ ⟨(hs2.2 _ (Ne.symm I.ne)).trans I.obj,hn2,I.ne⟩ hs2)
theorem zDM {R:Result->Shared->Prop} {vs:List Value} {kw:List (Str×Value)} (X:K.In s.heap) (hm:PySem.W.makesIn K C=true)
    (hi:PySem.W.findIn K (.ref C) "__init__" = some (some (.ref f))) (hf:PySem.W.typeIn K (.ref f)=some (.type "function"))
    (h:codeAny (model prog w) (A.under (.builtin "type.__call__" ⟨.ref C::vs,kw⟩)) (.call (.ref f) ⟨.ref (s.heap.objs.size+1)::vs,kw⟩) (PySem.W.InitBack (s.heap.objs.size+1) R)
      { s with heap:=(s.heap.push PySem.W.emptyDict).push (PySem.W.instObj C s.heap.objs.size) }):
    codeAny (model prog w) A (.call (.ref C) ⟨vs,kw⟩) R s:=by
  obtain ⟨hh,g,d,t,os⟩:=s
  exact PySem.W.make_core (PySem.W.makes_of X hm) (PySem.W.looks_findIn X hi) (fun self=>PySem.W.bind_fn X self hf) (.inl rfl) h
end
def mR (f:Str) (v:V):List (Str×V)->List (Str×V)
 | []=>[(f,v)]
 | (g,x)::r=>if g=f then (g,v)::r else (g,x)::mR f v r
theorem fO (f g:Str) (v:V):∀ fs:List (Str×V),(mR f v fs).lookup g=if g=f then some v else fs.lookup g
 | []=>by
  show List.lookup g [(f,v)]=_
  by_cases h:g=f
  ·have hb:(g==f)=true:=beq_iff_eq.mpr h
   simp only [List.lookup,hb,if_pos h]
  ·have hb:(g==f)=false:=beq_eq_false_iff_ne.mpr h
   simp only [List.lookup,hb,if_neg h]
 | (k,x)::r=>by
  have ih:=fO f g v r
  rw [show mR f v ((k,x)::r)=(if k=f then (k,v)::r else (k,x)::mR f v r) from rfl]
  by_cases hk:k=f
  ·rw [if_pos hk]
   by_cases h:g=k
   ·have hb:(g==k)=true:=beq_iff_eq.mpr h
    simp only [List.lookup,hb,if_pos (h.trans hk)]
   ·have hb:(g==k)=false:=beq_eq_false_iff_ne.mpr h
    simp only [List.lookup,hb,if_neg (fun e:g=f=>h (e.trans hk.symm))]
  ·rw [if_neg hk]
   by_cases h:g=k
   ·have hb:(g==k)=true:=beq_iff_eq.mpr h
    simp only [List.lookup,hb,if_neg (fun e:g=f=>hk (h.symm.trans e))]
   ·have hb:(g==k)=false:=beq_eq_false_iff_ne.mpr h
    simp only [List.lookup,hb]
    exact ih
theorem nG (f:Str) (v:V):∀ fs:List (Str×V),f∈(mR f v fs).map (·.1)/\∀ g,g∈fs.map (·.1)->g∈(mR f v fs).map (·.1)
 | []=>⟨by simp [mR],fun g h=>by simp at h⟩
 | (k,x)::r=>by
  obtain ⟨i1,i2⟩:=nG f v r
  rw [show mR f v ((k,x)::r)=(if k=f then (k,v)::r else (k,x)::mR f v r) from rfl]
  by_cases hk:k=f
  ·rw [if_pos hk]
   subst hk
   exact ⟨by simp,fun g h=>by simpa using h⟩
  ·rw [if_neg hk]
   refine ⟨?_,fun g h=>?_⟩
   ·rw [List.map_cons]
    exact List.mem_cons_of_mem _ i1
   ·rw [List.map_cons] at h ⊢
    rcases List.mem_cons.mp h with e | e
    ·exact List.mem_cons.mpr (.inl e)
    ·exact List.mem_cons_of_mem _ (i2 g e)
theorem nY (f:Str) (v:V):∀ fs:List (Str×V),(mR f v fs).length<=fs.length+1
 | []=>by simp [mR]
 | (k,x)::r=>by
  have ih:=nY f v r
  rw [show mR f v ((k,x)::r)=(if k=f then (k,v)::r else (k,x)::mR f v r) from rfl]
  by_cases hk:k=f
  ·rw [if_pos hk,List.length_cons,List.length_cons];omega
  ·rw [if_neg hk,List.length_cons,List.length_cons];omega
theorem zDb.some_of {v:V} {o:Option Value} (r:zDb (some v) o):∃ u,o=some u/\cI v u:=by
 cases o with
 | none=>exact (show False from r).elim
 | some u=>exact ⟨u,rfl,r⟩
theorem zDb.none_of {o:Option Value} (r:zDb none o):o=none:=by
 cases o with
 | none=>rfl
 | some u=>exact (show False from r).elim
theorem zAP {v:V} {u:Value} (r:cI v u):PySem.W.handedIn u=true:=by
 cases v with
 | non=>cases (show u=Value.none from r);rfl
 | bl b=>cases (show u=Value.bool b from r);rfl
 | int i=>obtain ⟨t,e⟩:=(show ∃ t,u=Value.int i t from r);cases e;rfl
 | str x=>obtain ⟨t,e⟩:=(show ∃ t,u=Value.str x t from r);cases e;rfl
 | byt b=>obtain ⟨t,e⟩:=(show ∃ t,u=Value.bytes b t from r);cases e;rfl
 | flt b=>obtain ⟨t,e⟩:=(show ∃ t,u=Value.float b t from r);cases e;rfl
 | ref a=>cases (show u=Value.ref a from r);rfl
 | ty n=>cases (show u=Value.type n from r);rfl
section
variable {P:Program} {w:World} {H H':Hp} {h h':Heap} {a C dx:Addr} {fs fs':List (Str×V)}
theorem wW (hok:HOk P w H h) (e:H a=some (.ins C dx fs)):∃ mA,ObjM h a dx C mA/\(∀ f,zDb (fs.lookup f) (mA f))/\PySem.Within mA (fs.map (·.1))/\fs.length<=1000/\H dx=some (.own a):=by
 obtain ⟨d,z,ne,ob,mA,n,r,q⟩:=(show hJ P w H h a (.ins C dx fs) from hok a _ e)
 exact ⟨mA,⟨ob,n,ne⟩,r,q,z,d⟩
end
structure Cls (K:PySem.W.Frag) (C:Addr):Prop where
 pg:PySem.W.plainGet K C Str.empty=true
 hd:PySem.W.hasDictIn K C=true
 po:PySem.W.plainOver K C=true
 sa:PySem.W.findIn K (.ref C) "__setattr__" = some (some (.builtin "object.__setattr__"))
theorem Cls.get {K:PySem.W.Frag} {C:Addr} (c:Cls K C) (f:Str):PySem.W.plainGet K C f=true:=c.pg
def dW (K:PySem.W.Frag) (C:Addr) (f:Str):Prop:=PySem.W.findIn K (.ref C) f=some none
theorem dW.taker {K:PySem.W.Frag} {C:Addr} {f:Str} (n:dW K C f):PySem.W.takerIn K C f=some none:=by
 unfold PySem.W.takerIn
 rw [show PySem.W.findIn K (.ref C) f=some none from n]
 rfl
structure Meth (K:PySem.W.Frag) (C:Addr) (m:Str) (f:Addr):Prop where
 at_:PySem.W.findIn K (.ref C) m=some (some (.ref f))
 fn:PySem.W.isFn K (.ref f)=true
 kp:PySem.W.keepIn K (.ref f)=true
section
variable {X:Cx} {pins:List (Addr×Obj)} {σ:St} {H:Hp} {s:Shared} {a C dx:Addr} {fs:List (Str×V)} {f:Str} {v:V} {A:Around} {E:Value->Shared->Prop}
theorem qE {b:Bool} {Q:Value->Shared->Prop} (I:Inv X pins σ H s) (e:H a=some (.ins C dx fs)) (c:Cls X.K C) (n:dW X.K C f) (l:fs.lookup f=some v)
  (h:∀ u s',Inv X pins σ H s'->cI v u->Q u s'):wpAny (model X.prog X.w) A (getAttr (.ref a) f b) Q E s:=by
 obtain ⟨mA,O,r,_,_,_⟩:=wW I.hok e
 obtain ⟨u,hu,ru⟩:=zDb.some_of (v:=v) (o:=mA f) (by rw [<-l];exact r f)
 exact zGf I.kIn O (c.get f) c.hd n hu (zAP ru) (h u _ (I.tok _) ru)
theorem lJ {m:Str} {g:Addr} {pl:Sem Bool} {Q:Value×List Value->Shared->Prop} (I:Inv X pins σ H s) (e:H a=some (.ins C dx fs)) (c:Cls X.K C) (k:Meth X.K C m g) (l:fs.lookup m=none)
  (h:Q (.ref g,[.ref a]) s):wpAny (model X.prog X.w) A (getMethod (.ref a) m pl) Q E s:=by
 obtain ⟨mA,O,r,_,_,_⟩:=wW I.hok e
 have hn:mA m=none:=zDb.none_of (by rw [<-l];exact r m)
 exact zDI I.kIn O (c.get m) k.at_ k.fn hn h
theorem qA {y:V} {u:Value} {Q:Unit->Shared->Prop} (I:Inv X pins σ H s) (e:H a=some (.ins C dx fs)) (c:Cls X.K C) (n:dW X.K C f) (hl:fs.length < 1000) (ry:cI y u)
  (h:∀ s',Inv X pins σ (upd H a (.ins C dx (mR f y fs))) s'->Q () s'):wpAny (model X.prog X.w) A (setAttr (.ref a) f u) Q E s:=by
 obtain ⟨mA,O,r,wi,_,ho⟩:=wW I.hok e
 have hz:(fs.map (·.1)).length<=sizeLine:=by rw [List.length_map,sizeLine_eq];omega
 refine zGb I.kIn O c.sa c.po n.taker c.hd wi hz fun h' O' sb=>h _ ?_
 have hd:∃ o,h'.get? dx=some o:=let ⟨o,_,_,e',_⟩:=O'.ns;⟨o,e'⟩
 refine I.write (x:=a) (e:=dx) (by rw [e];exact True.intro) (.inr ho) (fun b q hb z=>(sb.2 b hb).trans z) hd ?_
 refine ⟨by rw [aG O.ne];exact ho,?_,O.ne,O'.obj,_,O'.ns,fun g=>?_,fun g hg=>?_⟩
 ·have:=nY f y fs;omega
 ·show zDb ((mR f y fs).lookup g) (if g=f then some u else mA g)
  rw [fO]
  by_cases q:g=f
  ·rw [if_pos q,if_pos q];exact ry
  ·rw [if_neg q,if_neg q];exact r g
 ·by_cases q:g=f
  ·rw [q];exact (nG f y fs).1
  ·refine (nG f y fs).2 g (wi g fun z=>hg ?_)
   show (if g=f then some u else mA g)=none
   rw [if_neg q];exact z
theorem Inv.made (I:Inv X pins σ H s):Inv X pins σ (upd (upd H s.heap.objs.size (.own (s.heap.objs.size+1))) (s.heap.objs.size+1) (.ins C s.heap.objs.size []))
    { s with heap:=(s.heap.push PySem.W.emptyDict).push (PySem.W.instObj C s.heap.objs.size) }:=by
  have e1:(s.heap.push PySem.W.emptyDict).get? s.heap.objs.size=some PySem.W.emptyDict:=Heap.get?_push_size s.heap rfl
  have e2:((s.heap.push PySem.W.emptyDict).push (PySem.W.instObj C s.heap.objs.size)).get? (s.heap.objs.size+1)=some (PySem.W.instObj C s.heap.objs.size):=by
    have:=Heap.get?_push_size (s.heap.push PySem.W.emptyDict) (o:=PySem.W.instObj C s.heap.objs.size) rfl
    rwa [Heap.size_push] at this
  have e3:(s.heap.push PySem.W.emptyDict).Ns s.heap.objs.size (fun _=>none):=⟨PySem.W.emptyDict,#[],_,e1,rfl,(fun e he=>absurd he (by simp)),fun _=>rfl⟩
  have I1:=I.laid (a:=s.heap.objs.size) (o:=.own (s.heap.objs.size+1)) (h':=s.heap.push PySem.W.emptyDict) (t':=s.toks) (fun b u q=>Heap.get?_push_of_some _ q) (Nat.le_refl _) ⟨_,e1⟩
  refine I1.laid (a:=s.heap.objs.size+1) (o:=.ins C s.heap.objs.size []) (t':=s.toks) (fun b u q=>Heap.get?_push_of_some _ q) (Nat.le_of_eq (Heap.size_push _ _)) ?_
  have ne:s.heap.objs.size≠s.heap.objs.size+1:=Nat.ne_of_lt (Nat.lt_succ_self _)
  refine ⟨by rw [aG ne,aE],Nat.zero_le _,ne,e2,fun _=>none,(Heap.Ns1.of_empty e3).at fun o q=>Heap.get?_push_of_some _ q,fun _=>True.intro,fun y hy=>absurd rfl hy⟩
theorem zGv {prog:Program} {w:World} {env:Env} {e:Expr} {f:Str} {pos:Pos} {s:Shared} {Q:Value->Shared->Prop} (hb:attributeBase e f env (eval e env)=eval e env)
  (h:wpAny (model prog w) A (eval e env) (fun o s₁=>wpAny (model prog w) A (getAttr o f true) Q E s₁) E s):wpAny (model prog w) A (eval (.Attribute e f pos) env) Q E s:=
 Attribute_any_ h (by rw [arm_eval_Attribute,hb])
end
def zLw (K:PySem.W.Frag) (ta:TE) (f:Str):TE:=fun σ H Q=>ta σ H fun x H1=>∃ a C dx fs v,x=.ref a/\H1 a=some (.ins C dx fs)/\Cls K C/\dW K C f/\fs.lookup f=some v/\Q v H1
def zLV (K:PySem.W.Frag) (ta tv:TE) (f:Str):TS:=fun D σ H=>tv σ H fun y H1=>ta σ H1 fun x H2=>∃ a C dx fs,x=.ref a/\H2 a=some (.ins C dx fs)/\Cls K C/\dW K C f/\fs.length < 1000/\
 D.nx σ (upd H2 a (.ins C dx (mR f y fs)))
def zLj (X:Cx) (op:Operator) (rd:V->V->Hp->VK->Prop):Prop:=
 ∀ (pins:List (Addr×Obj)) (s:Shared) (σ:St) (H:Hp) (x y:V) (u v:Value) (Q:VK),Inv X pins σ H s->cI x u->cI y v->rd x y H Q->wpAny (model X.prog X.w) X.A (inplaceOp op u v) (EP X pins σ Q) X.xe s
def zFR (K:PySem.W.Frag) (ta tv:TE) (rd:V->V->Hp->VK->Prop) (f:Str):TS:=fun D σ H=>ta σ H fun x H1=>∃ a C dx fs v,x=.ref a/\H1 a=some (.ins C dx fs)/\Cls K C/\dW K C f/\fs.lookup f=some v/\
 tv σ H1 fun y H2=>rd v y H2 fun z H3=>∃ dx' fs',H3 a=some (.ins C dx' fs')/\fs'.length < 1000/\D.nx σ (upd H3 a (.ins C dx' (mR f z fs')))
section
variable {X:Cx} {o e value:Expr} {f:Str} {pos pos' tpos:Pos} {ta tv:TE}
theorem xO (he:PE X e ta) (hb:attributeBase e f X.env (eval e X.env)=eval e X.env):PE X (.Attribute e f pos) (zLw X.K ta f):=by
 intro pins s σ H Q I h
 refine zGv hb (thn (he pins s σ H _ I h) fun u s1 ⟨x,H1,I1,rx,a,C,dx,fs,v,ex,ea,c,n,l,q⟩=>?_)
 subst ex
 obtain rfl:u=Value.ref a:=rx
 exact qE I1 ea c n l fun u' s2 I2 ru=>⟨v,H1,I2,ru,q⟩
theorem zEU (ha:PE X o ta) (hv:PE X value tv) (hs:swapsWith value (some (.Attribute o f pos')) pos.line X.env=pure false):PS X (.Assign [.Attribute o f pos'] value pos) (zLV X.K ta tv f):=by
 intro pins s σ H D I h
 refine plainObj_wpAny_Assign_Attribute (thn (hv pins s σ H _ I h) fun u s1 ⟨y,H1,I1,ry,q⟩=>thn (ha pins s1 σ H1 _ I1 q) fun ov s2 ⟨x,H2,I2,rx,a,C,dx,fs,ex,ea,c,n,l,q2⟩=>?_) hs
 subst ex
 obtain rfl:ov=Value.ref a:=rx
 exact qA I2 ea c n l ry fun s3 I3=>⟨σ,_,I3,q2⟩
theorem zBf {op:Operator} {rd:V->V->Hp->VK->Prop} (ha:PE X o ta) (hv:PE X value tv) (hop:zLj X op rd):PS X (.AugAssign (.Attribute o f tpos) op value pos) (zFR X.K ta tv rd f):=by
 intro pins s σ H D I h
 refine wpAny_AugAssign_AttributeAny (thn (ha pins s σ H _ I h) fun ov s1 ⟨x,H1,I1,rx,a,C,dx,fs,v,ex,ea,c,n,l,q⟩=>?_)
 subst ex
 obtain rfl:ov=Value.ref a:=rx
 refine qE I1 ea c n l fun u s2 I2 ru=>thn (hv pins s2 σ H1 _ I2 q) fun w3 s3 ⟨y,H2,I3,ry,q3⟩=>thn (hop pins s3 σ H2 v y u w3 _ I3 ru ry q3) fun w4 s4 ⟨z,H3,I4,rz,dx',fs',ea',l',q4⟩=>?_
 exact qA I4 ea' c n l' rz fun s5 I5=>⟨σ,_,I5,q4⟩
def zLp:V->V->Hp->VK->Prop:=fun x y H Q=>∃ i j,x=.int i/\y=.int j/\Q (.int (i+j)) H
theorem zJt:zLj X .Add zLp:=by
 rintro pins s σ H x y u v Q I rx ry ⟨i,j,rfl,rfl,q⟩
 obtain ⟨t,rfl⟩:=(show ∃ t,u=Value.int i t from rx)
 obtain ⟨t',rfl⟩:=(show ∃ t',v=Value.int j t' from ry)
 exact PyProof.Rows.iadd_int ⟨.int (i+j),H,I.tok _,⟨_,rfl⟩,q⟩
theorem zGi {pl:Sem Bool} {m:Str} {apos:Pos} {args:List Expr} {pins:List (Addr×Obj)} {s:Shared} {σ:St} {H:Hp} {Q:Value->Shared->Prop} {te:TE} (he:PE X e te) (I:Inv X pins σ H s)
  (h:te σ H fun x H1=>∃ a C dx fs g,x=.ref a/\H1 a=some (.ins C dx fs)/\Cls X.K C/\Meth X.K C m g/\fs.lookup m=none/\
   ∀ s1,Inv X pins σ H1 s1->wpAny (model X.prog X.w) X.A (callWith pos (.ref g) [.ref a] (backTo pos (starEach args X.env)) (backToKw pos (keywordEach [] X.env))) Q X.xe s1)
  (ht:eval (.Call (.Attribute e m apos) args [] pos) X.env=(do
   let ov <-eval e X.env
   standAt apos.atName
   let (f,first) <-holding [ov] (getMethod ov m pl)
   callWith pos f first (backTo pos (starEach args X.env)) (backToKw pos (keywordEach [] X.env)))):
  wpAny (model X.prog X.w) X.A (eval (.Call (.Attribute e m apos) args [] pos) X.env) Q X.xe s:=by
 refine PySem.W.methodCall_KW (pl:=pl) (thn (he pins s σ H _ I h) fun u s1 ⟨x,H1,I1,rx,a,C,dx,fs,g,ex,ea,c,k,l,q⟩=>?_) ht
 subst ex
 obtain rfl:u=Value.ref a:=rx
 exact lJ I1 ea c k l (q s1 I1)
end
section
variable {X:Cx} {pins:List (Addr×Obj)} {σ:St} {H:Hp} {s:Shared} {A:Around} {E:Value->Shared->Prop} {Q:Value->Shared->Prop} {c:Value} {b:Bool}
end
end L2
namespace L2
open PySem PySem.Spec PyProof.Rows
structure Room (k:Nat) (A:Around):Prop where
 hd:A.handled=none
 dp:A.depth+3 * k+5 < recursionLimit
 un:A.units+16 * k+200 < cLine
theorem Room.mono {j k:Nat} {A:Around} (r:Room k A) (h:j<=k):Room j A:=⟨r.hd,by have:=r.dp;omega,by have:=r.un;omega⟩
theorem Room.deeper {k:Nat} {A:Around} (r:Room (k+1) A) (env:Env):Room k (A.deeper env):=
 ⟨r.hd,by have:=r.dp;show A.depth+1+3 * k+5 < _;omega,by have:=r.un;show A.units+3+16 * k+200 < _;omega⟩
theorem zH {A:Around} {C:Addr} {us:List Value} {kw:List (Str×Value)}:(A.under (.builtin "type.__call__" ⟨.ref C::us,kw⟩)).depth=A.depth+1:=by
 first | rfl | simp [Around.under,Code.weight,Code.isCreation,Code.isGuard,Code.isCaller,Code.frames,Code.isFrame,guardIds]
theorem zQ {A:Around} {C:Addr} {us:List Value} {kw:List (Str×Value)}:(A.under (.builtin "type.__call__" ⟨.ref C::us,kw⟩)).units=A.units+1:=by
 first | rfl | simp [Around.under,Code.cUnits,Code.frames,Code.isFrame]
theorem Room.make {k:Nat} {A:Around} (r:Room (k+1) A) (C:Addr) (us:List Value) (kw:List (Str×Value)):Room k (A.under (.builtin "type.__call__" ⟨.ref C::us,kw⟩)):=
 ⟨r.hd,by have:=r.dp;rw [zH];omega,by have:=r.un;rw [zQ];omega⟩
theorem Room.depth {k:Nat} {A:Around} (r:Room k A):A.depth < recursionLimit:=by have:=r.dp;omega
theorem Room.units {k:Nat} {A:Around} (r:Room k A):A.units+64 < cLine:=by have:=r.un;omega
abbrev zLl:TA:=fun _ H Q=>Q [] H
abbrev zKL (ta:TE) (tr:TA):TA:=fun σ H Q=>ta σ H fun x H1=>tr σ H1 fun xs H2=>Q (x::xs) H2
section
variable {X:Cx} {e:Expr} {es:List Expr} {te:TE} {t:TA} {pos:Pos}
theorem gK:PA X [] zLl:=fun _ _ _ _ H Q I h=>Calls.spliced_nil ⟨[],H,I,.nil,h⟩
theorem cT (ha:PE X e te) (hr:PA X es t) (hs:starEach (e::es) X.env=(false,eval e X.env)::starEach es X.env:=by rfl):PA X (e::es) (zKL te t):=by
 intro pos pins s σ H Q I h
 rw [hs]
 show wpAny _ _ (spliced ((false,eval e X.env)::backTo pos (starEach es X.env))) _ _ s
 refine Calls.spliced_cons (thn (ha pins s σ H _ I h) fun u s1 ⟨x,H1,I1,r1,q1⟩=>?_)
 exact thn (hr pos pins s1 σ H1 _ I1 q1) fun us s2 ⟨xs,H2,I2,r2,q2⟩=>⟨x::xs,H2,I2,.cons r1 r2,q2⟩
abbrev zLE (t:TA):TE:=fun σ H Q=>t σ H fun xs H1=>xs.length<=sizeLine/\∀ p,H1 p=none->Q (.ref p) (upd H1 p (.tup xs))
abbrev zMc (t:TA):TE:=fun σ H Q=>t σ H fun xs H1=>xs.length<=sizeLine/\∀ p,H1 p=none->Q (.ref p) (upd H1 p (.lst xs))
theorem zEZ {x1} (h:PA X es t):PE X (.Tuple es x1 pos) (zLE t):=by
 intro pins s σ H Q I hq
 refine wpAny_Tuple_spliced (thn (h pos pins s σ H _ I hq) fun us s1 ⟨xs,H1,I1,r,z,q⟩=>⟨by rw [<-r.length];exact z,?_⟩)
 have hf:H1 s1.heap.objs.size=none:=I1.hok.fresh (Nat.le_refl _)
 refine ⟨.ref s1.heap.objs.size,upd H1 s1.heap.objs.size (.tup xs),I1.laid (t':=s1.toks) (fun b u e=>Heap.get?_push_of_some _ e) (Nat.le_refl _) ?_,rfl,q _ hf⟩
 exact ⟨z,us,r,⟨_,Heap.get?_push_size _ rfl,rfl,_,rfl⟩⟩
theorem zIn (h:PA X es t):PE X (.List es pos) (zMc t):=by
 intro pins s σ H Q I hq
 refine wpAny_List_spliced (thn (h pos pins s σ H _ I hq) fun us s1 ⟨xs,H1,I1,r,z,q⟩=>⟨by rw [<-r.length];exact z,?_⟩)
 have hf:H1 s1.heap.objs.size=none:=I1.hok.fresh (Nat.le_refl _)
 refine ⟨.ref s1.heap.objs.size,upd H1 s1.heap.objs.size (.lst xs),I1.laid (t':=s1.toks) (fun b u e=>Heap.get?_push_of_some _ e) (Nat.le_refl _) ?_,rfl,q _ hf⟩
 exact ⟨z,us,0,r,Heap.get?_push_size _ rfl⟩
end
abbrev Sp:=List V->Hp->VK->XK->Prop
abbrev CXT:=List Env->Hp->Shared->XK->Value->Shared->Prop
structure Env0 (P:Program) (w:World) (K:PySem.W.Frag) (mg:Str->Option Value) (base:Heap) (A:Around) (outer:List Env) (s:Shared) (H:Hp):Prop where
 frames:A.frames=some outer
 mod:Mod K mg base
 bs:∀ b o,base.get? b=some o->s.heap.get? b=some o/\H b=none
 bsz:base.objs.size<=s.heap.objs.size
 funs:s.heap.FunFrames base outer
 frf:∀ b∈frs outer,H b=none
 hok:HOk P w H s.heap
 bare:AllBare s.gens
def CE (outer:List Env) (P:Program) (w:World) (H:Hp) (s:Shared) (Q:VK) (u:Value) (s':Shared):Prop:=
 ∃ v H',s'.os=s.os/\AllBare s'.gens/\Un (frs outer) [] H H' s.heap s'.heap/\HOk P w H' s'.heap/\cI v u/\Q v H'
def CR (CX:CXT) (outer:List Env) (P:Program) (w:World) (H:Hp) (s:Shared) (Q:VK) (E:XK) (r:Result) (s':Shared):Prop:=
 match r with
 | .ok (.ret u)=>CE outer P w H s Q u s'
 | .ok _=>False
 | .error e=>CX outer H s E e s'
structure FnOk (P:Program) (w:World) (K:PySem.W.Frag) (mg:Str->Option Value) (base:Heap) (CX:CXT) (k:Nat) (f:Addr) (fd:FuncData) (ps:List Str) (sp:Sp):Prop where
 len:∀ vs H Q E,sp vs H Q E->vs.length=ps.length
 run:∀ (A:Around) (outer:List Env) (s:Shared) (H:Hp) (args:Args) (us:List Value) (vs:List V) (Q:VK) (E:XK),Room k A->Env0 P w K mg base A outer s H->BindsTo s fd args (ps.zip us)->dM vs us->sp vs H Q E->
  codeAny (model P w) A (.call (.ref f) args) (CR CX outer P w H s Q E) s
theorem FnOk.mono {P:Program} {w:World} {K:PySem.W.Frag} {mg:Str->Option Value} {base:Heap} {CX:CXT} {j k:Nat} {f:Addr} {fd:FuncData} {ps:List Str} {sp:Sp} (F:FnOk P w K mg base CX j f fd ps sp) (h:j<=k):
  FnOk P w K mg base CX k f fd ps sp:=⟨F.len,fun A outer s H args us vs Q E hr=>F.run A outer s H args us vs Q E (hr.mono h)⟩
theorem FnOk.imp {P:Program} {w:World} {K:PySem.W.Frag} {mg:Str->Option Value} {base:Heap} {CX:CXT} {k:Nat} {f:Addr} {fd:FuncData} {ps:List Str} {sp sp':Sp} (F:FnOk P w K mg base CX k f fd ps sp)
  (h:∀ vs H Q E,sp' vs H Q E->sp vs H Q E):FnOk P w K mg base CX k f fd ps sp':=
 ⟨fun vs H Q E q=>F.len vs H Q E (h _ _ _ _ q),fun A outer s H args us vs Q E hr he hb hv hs=>F.run A outer s H args us vs Q E hr he hb hv (h _ _ _ _ hs)⟩
theorem Env0.make {P:Program} {w:World} {K:PySem.W.Frag} {mg:Str->Option Value} {base:Heap} {A:Around} {outer:List Env} {s:Shared} {H:Hp} (e:Env0 P w K mg base A outer s H) (C:Addr) (us:List Value) (kw:List (Str×Value)):
  Env0 P w K mg base (A.under (.builtin "type.__call__" ⟨.ref C::us,kw⟩)) outer s H:=⟨by first | exact e.frames | (simpa [Around.under,Code.envs,Code.isFrame,pushEnvs] using e.frames),e.mod,e.bs,e.bsz,e.funs,e.frf,e.hok,e.bare⟩
section
variable {X:Cx} {pins:List (Addr×Obj)} {σ:St} {H:Hp} {s s':Shared}
theorem Inv.env0 (I:Inv X pins σ H s):Env0 X.prog X.w X.K X.mg X.base X.A X.stack s H:=
 ⟨I.ok.frames,I.ok.mod,I.bs,Nat.le_trans I.ok.bsz I.sz,I.stack,I.stkFree,I.hok,I.bare⟩
theorem Inv.after {Q:VK} {u:Value} (I:Inv X pins σ H s) (h:CE X.stack X.prog X.w H s Q u s'):EP X pins σ Q u s':=by
 obtain ⟨v,H',os,bare,un,hok,r,q⟩:=h
 obtain ⟨hh,g,d,t,os'⟩:=s'
 obtain rfl:os'=s.os:=os
 exact ⟨v,H',I.call (h':=hh) (g':=g) (d':=d) (t':=t) (ch:=[]) un hok bare (fun b z=>absurd z (by simp)),r,q⟩
end
abbrev zFU (sp:Sp) (dvs:List V) (E:XK) (t:TA):TE:=fun σ H Q=>t σ H fun vs H1=>sp (vs++dvs) H1 Q E
def zFV (C:Addr) (m:Str) (sp:Sp) (dvs:List V) (E:XK) (ta:TE) (t:TA):TE:=fun σ H Q=>ta σ H fun x H1=>∃ a dx fs,x=.ref a/\H1 a=some (.ins C dx fs)/\fs.lookup m=none/\
 t σ H1 fun vs H2=>sp (x::(vs++dvs)) H2 Q E
def lV (K:PySem.W.Frag) (fd:FuncData) (ps:List Str) (ds:List Value):Prop:=
 ∀ (s:Shared) (us:List Value),K.In s.heap->(us++ds).length=ps.length->BindsTo s fd ⟨us,[]⟩ (ps.zip (us++ds))
theorem lV.all {K:PySem.W.Frag} {fd:FuncData} {ps:List Str} (h:∀ us:List Value,us.length=ps.length->bindArgs fd ⟨us,[]⟩=pure (ps.zip us)):lV K fd ps []:=fun s us _ hl=>by
 rw [List.append_nil] at hl ⊢
 exact .of_eq (h us hl)
def pU (CX:CXT) (X:Cx) (E:XK):Prop:=∀ (pins:List (Addr×Obj)) (σ:St) (H:Hp) (s:Shared) (e:Value) (s':Shared),Inv X pins σ H s->CX X.stack H s E e s'->X.xe e s'
section
variable {X:Cx} {CX:CXT} {k:Nat} {f C:Addr} {fd:FuncData} {ps:List Str} {sp:Sp} {dvs:List V} {ds:List Value} {E:XK} {x m:Str} {p pos apos:Pos} {e o:Expr} {es:List Expr} {ta:TE} {t:TA}
theorem zBp {pins:List (Addr×Obj)} {σ:St} {H:Hp} {s:Shared} {Q:VK} {us:List Value} {vs:List V} (F:FnOk X.prog X.w X.K X.mg X.base CX k f fd ps sp) (hr:Room k X.A) (hb:lV X.K fd ps ds) (hd:dM dvs ds) (hx:pU CX X E)
  (I:Inv X pins σ H s) (r:dM vs us) (h:sp (vs++dvs) H Q E):wpAny (model X.prog X.w) X.A (call (.ref f) us) (EP X pins σ Q) X.xe s:=by
 have r2:dM (vs++dvs) (us++ds):=r.append hd
 have hl:(us++ds).length=ps.length:=by rw [<-r2.length];exact F.len _ _ _ _ h
 refine wpAny_call (codeAny_mono (F.run X.A X.stack s H ⟨us,[]⟩ (us++ds) (vs++dvs) Q E hr I.env0 (hb s us I.kIn hl) r2 h) fun r s' hq=>?_)
 cases r with
 | error e=>exact hx pins σ H s e s' I hq
 | ok fl=>
  cases fl with
  | ret u=>exact I.after hq
  | next=>exact False.elim hq
  | brk=>exact False.elim hq
  | cont=>exact False.elim hq
theorem qT (F:FnOk X.prog X.w X.K X.mg X.base CX k f fd ps sp) (hr:Room k X.A) (hg:Gl X x) (hm:X.mg x=some (.ref f)) (hk:PySem.W.keepIn X.K (.ref f)=true) (hb:lV X.K fd ps ds) (hd:dM dvs ds) (hx:pU CX X E)
  (ha:PA X (e::es) t) (hdb:(x==("__debug__" : Str))=false:=by decide) (he:starEach (e::es) X.env=(false,eval e X.env)::starEach es X.env:=by rfl) (hpl:(backTo pos (starEach es X.env)).any (·.1)=false:=by rfl):
  PE X (.Call (.Name x p) (e::es) [] pos) (zFU sp dvs E t):=by
 intro pins s σ H Q I h
 refine wpAny_Call_Name_kw (sE I hg hm ?_ hdb)
 refine PySem.W.callWith_K (h₀:=X.base) I.ok.mod.kin hk (thn (ha pos pins s σ H _ I h) fun us s1 ⟨vs,H1,I1,r,q⟩=>⟨I1.kIn,?_⟩) he hpl
 exact zBp F hr hb hd hx I1 r q
theorem zGl {pl:Sem Bool} (he:PE X o ta) (c:Cls X.K C) (hm:Meth X.K C m f) (F:FnOk X.prog X.w X.K X.mg X.base CX k f fd ps sp) (hr:Room k X.A) (hb:lV X.K fd ps ds) (hd:dM dvs ds) (hx:pU CX X E) (ha:PA X (e::es) t)
  (hst:starEach (e::es) X.env=(false,eval e X.env)::starEach es X.env:=by rfl) (hpl:(backTo pos (starEach es X.env)).any (·.1)=false:=by rfl)
  (ht:eval (.Call (.Attribute o m apos) (e::es) [] pos) X.env=(do
   let ov <-eval o X.env
   standAt apos.atName
   let (f,first) <-holding [ov] (getMethod ov m pl)
   callWith pos f first (backTo pos (starEach (e::es) X.env)) (backToKw pos (keywordEach [] X.env))):=by rfl):
  PE X (.Call (.Attribute o m apos) (e::es) [] pos) (zFV C m sp dvs E ta t):=by
 intro pins s σ H Q I h
 refine PySem.W.methodCall_KW (pl:=pl) (thn (he pins s σ H _ I h) fun u s1 ⟨x,H1,I1,rx,a,dx,fs,ex,ea,l,q⟩=>?_) ht
 subst ex
 obtain rfl:u=Value.ref a:=rx
 refine lJ I1 ea c hm l ?_
 refine PySem.W.callWith_K (first:=[.ref a]) (h₀:=X.base) I.ok.mod.kin hm.kp (thn (ha pos pins s1 σ H1 _ I1 q) fun us s2 ⟨vs,H2,I2,r,q2⟩=>⟨I2.kIn,?_⟩) hst hpl
 exact zBp (us:=.ref a::us) (vs:=.ref a::vs) F hr hb hd hx I2 (.cons rfl r) q2
theorem zDC {pl:Sem Bool} (he:PE X o ta) (c:Cls X.K C) (hm:Meth X.K C m f) (F:FnOk X.prog X.w X.K X.mg X.base CX k f fd ps sp) (hr:Room k X.A) (hb:lV X.K fd ps ds) (hd:dM dvs ds) (hx:pU CX X E)
  (ht:eval (.Call (.Attribute o m apos) [] [] pos) X.env=(do
   let ov <-eval o X.env
   standAt apos.atName
   let (f,first) <-holding [ov] (getMethod ov m pl)
   callWith pos f first (backTo pos (starEach [] X.env)) (backToKw pos (keywordEach [] X.env))):=by rfl):
  PE X (.Call (.Attribute o m apos) [] [] pos) (zFV C m sp dvs E ta zLl):=by
 intro pins s σ H Q I h
 refine PySem.W.methodCall_KW (pl:=pl) (thn (he pins s σ H _ I h) fun u s1 ⟨x,H1,I1,rx,a,dx,fs,ex,ea,l,q⟩=>?_) ht
 subst ex
 obtain rfl:u=Value.ref a:=rx
 refine lJ I1 ea c hm l ?_
 exact PySem.W.callWith_K0 (first:=[.ref a]) I1.kIn hm.kp (zBp (us:=[.ref a]) (vs:=[.ref a]) F hr hb hd hx I1 (.cons rfl .nil) q)
structure Mk (K:PySem.W.Frag) (C f:Addr):Prop where
 makes:PySem.W.makesIn K C=true
 init:PySem.W.findIn K (.ref C) "__init__" = some (some (.ref f))
 fn:PySem.W.isFn K (.ref f)=true
 kp:PySem.W.keepIn K (.ref C)=true
end
section
variable {X:Cx} {CX:CXT} {k:Nat} {f C:Addr} {fd:FuncData} {ps ks:List Str} {sp:Sp} {E:XK} {x m:Str} {p pos apos kpos:Pos} {e o:Expr} {es:List Expr} {kws:List Keyword} {te ta:TE} {t tk:TA} {nm:Option Str}
variable {g:List Value->List Value->List Value} {gV:List V->List V->List V}
end
structure FnScope (N P:List Str) (sc:Scope):Prop where
 kind:sc.kind=.function
 co:sc.isCoroutine=false
 gen:sc.isGenerator=false
 nd:N.Nodup
 pre:N.take P.length=P
 par:∀ x∈P,sc.names.lookup x=some .local∨sc.names.lookup x=some .cell
 nofree:∀ y∈sc.names,y.2≠.free
theorem vH {kindOf:Str->Option NameKind} {x:Str}:∀ {binds:List (Str×Value)} {m:Str->Option Value},(∀ v,(x,v)∉binds)->bindL kindOf binds m x=m x
 | [],_,_=>rfl
 | (n,v)::r,m,h=>by
  unfold bindL
  rw [vH fun w hw=>h w (List.mem_cons_of_mem _ hw)]
  split
  ·have:x≠n:=by rintro rfl;exact h v List.mem_cons_self
   simp [this]
  ·rfl
theorem tE {kindOf:Str->Option NameKind} {x:Str}:∀ {binds:List (Str×Value)} {m:Str->Option Value},(∀ v,(x,v)∉binds)->bindC kindOf binds m x=m x
 | [],_,_=>rfl
 | (n,v)::r,m,h=>by
  unfold bindC
  rw [tE fun w hw=>h w (List.mem_cons_of_mem _ hw)]
  split
  ·rfl
  ·have:x≠n:=by rintro rfl;exact h v List.mem_cons_self
   simp [this]
theorem uS {kindOf:Str->Option NameKind} {x:Str} {v:Value}:∀ {P:List Str} {vs:List Value} {i:Nat} {m:Str->Option Value},P.Nodup->P[i]?=some x->vs[i]?=some v->kindOf x=some .local->
  bindL kindOf (P.zip vs) m x=some v
 | [],_,_,_,_,h,_,_=>by simp at h
 | _::_,[],_,_,_,_,h,_=>by simp at h
 | p::P,w::vs,0,m,nd,h1,h2,hk=>by
  simp at h1 h2;subst h1;subst h2
  show bindL kindOf ((p,w)::P.zip vs) m p=_
  unfold bindL
  rw [vH fun v hv=>(List.nodup_cons.mp nd).1 (List.of_mem_zip hv).1,if_pos hk]
  simp
 | p::P,w::vs,i+1,m,nd,h1,h2,hk=>by
  show bindL kindOf ((p,w)::P.zip vs) m x=_
  unfold bindL
  exact uS (i:=i) (List.nodup_cons.mp nd).2 (by simpa using h1) (by simpa using h2) hk
theorem vL {kindOf:Str->Option NameKind} {x:Str} {v:Value}:∀ {P:List Str} {vs:List Value} {i:Nat} {m:Str->Option Value},P.Nodup->P[i]?=some x->vs[i]?=some v->kindOf x≠some .local->
  bindC kindOf (P.zip vs) m x=some v
 | [],_,_,_,_,h,_,_=>by simp at h
 | _::_,[],_,_,_,_,h,_=>by simp at h
 | p::P,w::vs,0,m,nd,h1,h2,hk=>by
  simp at h1 h2;subst h1;subst h2
  show bindC kindOf ((p,w)::P.zip vs) m p=_
  unfold bindC
  rw [tE fun v hv=>(List.nodup_cons.mp nd).1 (List.of_mem_zip hv).1,if_neg hk]
  simp
 | p::P,w::vs,i+1,m,nd,h1,h2,hk=>by
  show bindC kindOf ((p,w)::P.zip vs) m x=_
  unfold bindC
  exact vL (i:=i) (List.nodup_cons.mp nd).2 (by simpa using h1) (by simpa using h2) hk
def start (N:List Str) (vs:List V):St:=vs.map some++List.replicate (N.length - vs.length) none
def zAb (CX:CXT) (P:Program) (w:World) (K:PySem.W.Frag) (mg:Str->Option Value) (base:Heap) (N:List Str) (qual:Str) (scope:Scope) (f:Addr) (cd:Value) (A:Around) (outer:List Env) (s:Shared) (H:Hp) (E:XK):Cx where
 prog:=P
 w:=w
 K:=K
 mg:=mg
 base:=base
 A:=A.deeper (envOfC qual scope s.heap.objs.size f cd)
 N:=N
 s₀:=s
 H₀:=H
 env:=envOfC qual scope s.heap.objs.size f cd
 outer:=outer
 stack:=envOfC qual scope s.heap.objs.size f cd::outer
 ex:=[]
 calm:=true
 fn:=fun _=>true
 pn:=[]
 xe:=fun e s'=>wpAny (model P w) (A.deeper (envOfC qual scope s.heap.objs.size f cd)) (leaving (envOfC qual scope s.heap.objs.size f cd) e) (fun _ s''=>CX outer H s E e s'') (fun e' s''=>CX outer H s E e' s'') s'
theorem yM {sc:Scope} {n:Nat} {x:Str} (h:sc.names.lookup x=some .cell):∃ c,(cellsFrom n sc.names []).lookup x=some c:=by
 have q:=PySem.W.cellsFrom_some sc.names n [] (.inl h)
 exact Option.isSome_iff_exists.mp q
theorem zBe {CX:CXT} {P:Program} {w:World} {K:PySem.W.Frag} {mg:Str->Option Value} {base:Heap} {N ps:List Str} {qual:Str} {scope:Scope} {f:Addr} {cd:Value} {A:Around} {outer:List Env} {s s1:Shared} {H:Hp} {E:XK} {us:List Value} {vs:List V}
  (S:FnScope N ps scope) (hd:A.handled=none) (e0:Env0 P w K mg base A outer s H) (hl:vs.length=ps.length) (r:dM vs us)
  (x:InCallC s s.heap.objs.size (bindL (envOfC qual scope s.heap.objs.size f cd).kindOf (ps.zip us) fun _=>none) (cellsFrom (s.heap.objs.size+1) scope.names []) (bindC (envOfC qual scope s.heap.objs.size f cd).kindOf (ps.zip us) fun _=>none) s1):
  Inv (zAb CX P w K mg base N qual scope f cd A outer s H E) [] (start N vs) H s1:=by
 have hpl:ps.length<=N.length:=by have:=congrArg List.length S.pre;rw [List.length_take] at this;omega
 obtain ⟨h1,tk,rfl,hk⟩:=x.done
 have noA:∀ b:Addr,b∉(zAb CX P w K mg base N qual scope f cd A outer s H E).ex:=fun b z=>absurd (show b∈([]:List Addr) from z) (by simp)
 refine ⟨⟨e0.mod,S.kind,rfl,rfl,Nat.le_refl _,fun y z c h1 h2=>?_,fun y hy=>?_,fun y c _ h=>?_,fun _=>hd,Around.frames_deeper e0.frames,.inr ⟨rfl,rfl⟩,fun b z=>absurd z (noA b),e0.bs,e0.bsz,fun b _ _=>noA b,fun b z=>absurd z (noA b),e0.funs,e0.frf⟩,
  rfl,e0.bare,Un.kept hk,⟨_,x.toInCall.ns,fun i y v h1 h2 h3=>?_⟩,fun y c h=>⟨_,x.cell y c h⟩,e0.hok.fresh (Nat.le_refl _),fun y c h=>?_,fun p hp=>absurd (show p∈([]:List (Addr×Obj)) from hp) (by simp),e0.hok.kept hk,?_⟩
 ·exact name_of_addr x.apart (PySem.mem_of_lookup h1) (PySem.mem_of_lookup h2)
 ·have hy:scope.names.lookup y=some .cell∨scope.names.lookup y=some .free:=hy
  rcases hy with hy | hy
  ·exact yM hy
  ·exact absurd rfl (S.nofree _ (PySem.mem_of_lookup hy))
 ·exact Nat.le_of_lt (x.above y c (PySem.mem_of_lookup h))
 ·have hi:i < vs.length:=by
   unfold start at h2
   by_cases hi:i < vs.length
   ·exact hi
   ·rw [List.getElem?_append_right (by simpa using hi)] at h2
    rw [List.getElem?_replicate] at h2
    split at h2<;>cases h2
  have ha:vs[i]?=some v:=by
   unfold start at h2
   rw [List.getElem?_append_left (by simpa using hi),List.getElem?_map] at h2
   cases e:vs[i]? with
   | none=>rw [e] at h2;cases h2
   | some a=>rw [e] at h2;cases h2;rfl
  obtain ⟨u,hu,rv⟩:=r.get ha
  have hp:ps[i]?=some y:=by
   rw [<-S.pre,List.getElem?_take_of_lt (by omega)];exact h1
  have ndP:ps.Nodup:=by rw [<-S.pre];exact S.nd.sublist (List.take_sublist _ _)
  refine ⟨u,rv,?_⟩
  rcases S.par y (List.mem_of_getElem? hp) with k | k
  ·exact .inl ⟨k,uS ndP hp hu k⟩
  ·obtain ⟨c,e⟩:=yM (n:=s.heap.objs.size+1) k
   refine .inr ⟨.inl k,c,e,?_⟩
   have q:=x.cell y c e
   rw [vL ndP hp hu (by show scope.names.lookup y≠_;rw [k];decide)] at q
   exact q
 ·exact e0.hok.fresh (Nat.le_of_lt (x.above y c (PySem.mem_of_lookup h)))
 ·unfold start
  show _=N.length
  rw [List.length_append,List.length_map,List.length_replicate]
  omega
theorem zDu {CX:CXT} {P:Program} {w:World} {K:PySem.W.Frag} {mg:Str->Option Value} {base:Heap} {k:Nat} {f:Addr} {name qual:Str} {params:Arguments} {body:List Stmt} {scope:Scope} {dV kV doc pm cdv ct oc:Value} {an od:Option Addr}
  {osl:Array (Option Value)} {N ps:List Str} {sp:Sp} (lk:K.lookup f=some ⟨oc,od,.func (PySem.W.fnOf name qual params body scope dV kV doc pm an cdv ct),osl⟩) (hcd:PySem.W.codeIn K cdv qual=true) (S:FnScope N ps scope)
  (len:∀ vs H Q E,sp vs H Q E->vs.length=ps.length)
  (hbody:∀ (A:Around) (outer:List Env) (s:Shared) (H:Hp) (vs:List V) (Q:VK) (E:XK),Room k (A.deeper (envOfC qual scope s.heap.objs.size f cdv))->sp vs H Q E->
   ∃ t,PSs (zAb CX P w K mg base N qual scope f cdv A outer s H E) body t/\t { nx:=fun _ H'=>Q .non H',rt:=Q } (start N vs) H):
  FnOk P w K mg base CX (k+1) f (PySem.W.fnOf name qual params body scope dV kV doc pm an cdv ct) ps sp:=by
 refine ⟨len,fun A outer s H args us vs Q E hr e0 hb r hsp=>?_⟩
 have hl:=len _ _ _ _ hsp
 have KX:K.In s.heap:=e0.mod.kin.keeps fun b o e=>(e0.bs b o e).1
 have lim:s.heap.NoLimit:=e0.mod.nolimit.keeps fun b o e=>(e0.bs b o e).1
 have hkind:∀ y∈ps.zip us,scope.names.lookup y.1=some .local∨(scope.names.lookup y.1=some .cell/\((cellsFrom (s.heap.objs.size+1) scope.names []).lookup y.1).isSome=true):=fun ⟨n,v⟩ hy=>by
  rcases S.par n (List.of_mem_zip hy).1 with q | q
  ·exact .inl q
  ·exact .inr ⟨q,PySem.W.cellsFrom_some _ _ _ (.inl q)⟩
 refine codeAny_call_function hr.depth (KX _ _ lk) rfl S.co S.gen rfl (PySem.W.codeRec_of KX hcd) (hb _ _ _ _ ?_)
 refine wpAny_newFunctionEnv_cells S.kind hkind fun env he s1 x=>?_
 subst he
 refine ⟨lim.keeps x.toInCall.keep,codeAny_func ?_⟩
 obtain ⟨t,ht,hq⟩:=hbody A outer s H vs Q E (hr.deeper _) hsp
 have I:Inv (zAb CX P w K mg base N qual scope f cdv A outer s H E) [] (start N vs) H s1:=zBe S hr.hd e0 hl r x
 refine wpAny_mono (ht [] s1 (start N vs) H _ I hq) (fun fl s' hs=>?_) fun e s' hs=>hs
 have fin:∀ {σ':St} {H':Hp} {v:V} {u:Value},Inv (zAb CX P w K mg base N qual scope f cdv A outer s H E) [] σ' H' s'->cI v u->Q v H'->CE outer P w H s Q u s':=
  fun {σ' H' v u} J rv q=>⟨v,H',J.os,J.bare,J.base,J.hok,rv,q⟩
 cases fl with
 | ret u=>
  obtain ⟨v,σ',H',J,rv,q⟩:=hs
  exact fin J rv q
 | next=>
  obtain ⟨σ',H',J,q⟩:=hs
  exact fin (v:=V.non) (u:=Value.none) J rfl q
 | brk=>
  obtain ⟨_,_,_,q⟩:=hs
  exact False.elim q
 | cont=>
  obtain ⟨_,_,_,q⟩:=hs
  exact False.elim q
end L2
namespace L2
open PySem PySem.Spec PyProof.Rows
section
variable {X:Cx} {x:Str} {p pos:Pos} {e:Expr} {es:List Expr} {t:TA} {id T:String} {r:List V->Hp->VK->Prop}
abbrev tCB (r:List V->Hp->VK->Prop) (t:TA):TE:=fun σ H Q=>t σ H fun vs H1=>r vs H1 Q
theorem xJ (hc:lI X (.builtin id) r) (hg:Gl X x) (hm:X.mg x=none) (hv:bootBuiltins x=some (.builtin id)) (ha:PA X (e::es) t) (hn:x ≠ "__name__" := by decide) (hdb:(x==("__debug__" : Str))=false:=by decide)
  (he:starEach (e::es) X.env=(false,eval e X.env)::starEach es X.env:=by rfl) (hpl:(backTo pos (starEach es X.env)).any (·.1)=false:=by rfl):PE X (.Call (.Name x p) (e::es) [] pos) (tCB r t):=by
 intro pins s σ H Q I h
 refine wpAny_Call_Name_kw (oV I hg hm hv ?_ hn hdb)
 exact PyProof.Rows.callWith_builtin1 (thn (ha pos pins s σ H _ I h) fun us s1 ⟨vs,H1,I1,r1,q1⟩=>hc pins s1 σ H1 vs us Q I1 r1 q1) he hpl
theorem tH (hc:lI X (.type T) r) (hg:Gl X x) (hm:X.mg x=none) (hv:bootBuiltins x=some (.type T)) (ha:PA X (e::es) t) (hn:x ≠ "__name__" := by decide) (hdb:(x==("__debug__" : Str))=false:=by decide)
  (he:starEach (e::es) X.env=(false,eval e X.env)::starEach es X.env:=by rfl) (hpl:(backTo pos (starEach es X.env)).any (·.1)=false:=by rfl):PE X (.Call (.Name x p) (e::es) [] pos) (tCB r t):=by
 intro pins s σ H Q I h
 refine wpAny_Call_Name_kw (oV I hg hm hv ?_ hn hdb)
 exact PyProof.Rows.callWith_type1 (thn (ha pos pins s σ H _ I h) fun us s1 ⟨vs,H1,I1,r1,q1⟩=>hc pins s1 σ H1 vs us Q I1 r1 q1) he hpl
end
end L2
namespace HT
open PySem PyProof.Rows
section
open PySem.SeqAt
open PySem.AutoSeq1 (wpAny_loadPart')
open PySem.MeetsSeq PySem.MeetsSeq2 PySem.MeetsSeq3
end
section
variable {prog:Program} {w:World} {A:Around} {E:Value->Shared->Prop} {s:Shared}
theorem cat_tup {t b:Addr} {vs ws:List Value} {Q:Value->Shared->Prop} (ht:IsTup s.heap t vs.toArray) (hb:IsTup s.heap b ws.toArray) (hv:vs≠[])
  (h1:ws=[]->Q (.ref t) s) (h2:ws≠[]->Q (.ref s.heap.objs.size) { s with heap:=s.heap.push { cls:=.type "tuple", data:=.seq (vs++ws).toArray } })
  (hsz:vs.length+ws.length<=sizeLine):wpAny (model prog w) A (binaryOp .Add (.ref t) (.ref b)) Q E s:=by
 obtain ⟨⟨cls,dd,data,sl⟩,ho,hc,n,hd⟩:=id ht
 obtain ⟨⟨cls2,dd2,data2,sl2⟩,ho2,hc2,n2,hd2⟩:=id hb
 simp only at hc hd hc2 hd2
 subst hc hd hc2 hd2
 have e:vs.toArray++ws.toArray=(vs++ws).toArray:=by simp
 by_cases hw:ws=[]
 ·exact concat_meets ⟨_,ho,rfl⟩ ⟨_,ho2,rfl⟩ noFill_tuple_add seq_tuple_add PySem.F.slot_tuple_add PySem.F.entry_tuple_add (PySem.F.args_tuple_add_2 _ _)
   (tuple_addW1 t b vs.toArray ws.toArray n n2 dd dd2 sl sl2 (by simpa using hv) (by simp [hw])) ⟨ho,ho2,h1 hw⟩
 ·refine concat_meets ⟨_,ho,rfl⟩ ⟨_,ho2,rfl⟩ noFill_tuple_add seq_tuple_add PySem.F.slot_tuple_add PySem.F.entry_tuple_add (PySem.F.args_tuple_add_2 _ _)
   (tuple_addW2 t b vs.toArray ws.toArray n n2 dd dd2 sl sl2 (by simpa using hv) (by simpa using hw) (by rw [List.size_toArray,List.size_toArray];exact hsz)) ⟨ho,ho2,?_⟩
  rw [e]
  exact h2 hw
def sIx (n d:Nat):Option Int->Nat
 | none=>d
 | some v=>if v < 0 then (v+(n:Int)).toNat else min v.toNat n
theorem zHz (n d:Nat) (hd:d<=n) (o:Option Int):sIx n d o<=n:=by
 cases o with
 | none=>exact hd
 | some v=>
  show (if v < 0 then (v+(n:Int)).toNat else min v.toNat n)<=n
  by_cases hv:v < 0
  ·rw [if_pos hv];omega
  ·rw [if_neg hv];exact Nat.min_le_right _ _
theorem zBS (v:Int) (n d:Nat):(if v < 0 then max (v+(n:Int)) 0 else min v (n:Int))=((sIx n d (some v):Nat):Int):=by
 show (if v < 0 then max (v+(n:Int)) 0 else min v (n:Int))=(((if v < 0 then (v+(n:Int)).toNat else min v.toNat n):Nat):Int)
 by_cases hv:v < 0
 ·simp only [if_pos hv];omega
 ·simp only [if_neg hv];omega
theorem zM (lo hi:Option Int) (n:Nat):Builtin.Slice.sliceAdjust lo hi 1 (n:Int)=(((sIx n 0 lo:Nat):Int),((sIx n n hi:Nat):Int)):=by
 have h1:¬ ((1:Int) < 0):=by omega
 unfold Builtin.Slice.sliceAdjust
 simp only [h1,if_false]
 refine Prod.ext ?_ ?_
 ·cases lo with
  | none=>rfl
  | some v=>exact zBS v n 0
 ·cases hi with
  | none=>rfl
  | some v=>exact zBS v n n
theorem zU (i j:Nat):Builtin.Slice.slicePlaces (i:Int) (j:Int) 1=j - i:=by
 unfold Builtin.Slice.slicePlaces
 have h1:(1:Int) > 0:=by omega
 simp only [h1,if_true,Int.ediv_one]
 split<;>omega
theorem qG {v:Value} {o:Option Int} {Q:Option Int->Shared->Prop} (p:IsPart v o) (h:Q o s):wpAny (model prog w) A (Builtin.Slice.slicePartIndex v) Q E s:=by
 cases p with
 | none=>exact slicePart_none h
 | int i t=>exact slicePart_int h
theorem sliceApplied_gen {sl:Addr} {vl vu:Value} {lo hi:Option Int} {n:Nat} {Q:Int×Int×Nat->Shared->Prop} (hs:s.heap.IsSliceOf sl vl vu .none) (pl:IsPart vl lo) (pu:IsPart vu hi)
  (h:Q (((sIx n 0 lo:Nat):Int),1,sIx n n hi - sIx n 0 lo) s):wpAny (model prog w) A (Builtin.Slice.sliceApplied (.ref sl) (pure (n:Int))) Q E s:=by
 obtain ⟨os,hos,hcs,hds⟩:=id hs
 unfold Builtin.Slice.sliceApplied Builtin.Slice.sliceFields
 refine wpAny_bind (wpAny_bind (wpAny_field hos hds (x:=vl) rfl (wpAny_bind (wpAny_field hos hds (x:=vu) rfl (wpAny_bind (wpAny_field hos hds (x:=.none) rfl (wpAny_pure ?_)))))))
 refine wpAny_bind (slicePart_none ?_)
 show wpAny _ _ (if ((1:Int)==0)=true then _ else _) _ _ s
 rw [if_neg (by decide)]
 refine wpAny_bind (qG pl (wpAny_bind (qG pu (wpAny_bind (wpAny_pure ?_)))))
 show wpAny _ _ (match Builtin.Slice.sliceAdjust lo hi 1 (n:Int) with | (lo,hi)=>pure (lo,(1:Int),Builtin.Slice.slicePlaces lo hi 1)) _ _ s
 rw [zM lo hi n]
 show wpAny _ _ (pure (((sIx n 0 lo:Nat):Int),(1:Int),Builtin.Slice.slicePlaces ((sIx n 0 lo:Nat):Int) ((sIx n n hi:Nat):Int) 1)) _ _ s
 rw [zU]
 exact wpAny_pure h
theorem zEm (xs:Array Value) (i k:Nat):((List.range k).filterMap fun (m:Nat)=>xs[((i:Int)+(m:Int) * 1).toNat]?).toArray=((xs.toList.drop i).take k).toArray:=by
 have e:(fun (m:Nat)=>xs[((i:Int)+(m:Int) * 1).toNat]?)=fun m=>xs[i+m]?:=by
  funext m
  have:((i:Int)+(m:Int) * 1).toNat=i+m:=by omega
  rw [this]
 rw [e]
 have:=pick_run xs i k
 rw [List.filterMap_map] at this
 have e2:((fun x=>xs[x]?) ∘ fun x=>i+x)=fun m=>xs[i+m]?:=rfl
 rw [e2] at this
 rw [this]
theorem getItem_tuple_cut {t sl:Addr} {items:Array Value} {vl vu:Value} {lo hi:Option Int} {Q:Value->Shared->Prop} (ht:IsTup s.heap t items) (hs:s.heap.IsSliceOf sl vl vu .none) (pl:IsPart vl lo) (pu:IsPart vu hi)
  (hw:¬ (sIx items.size 0 lo=0/\sIx items.size items.size hi=items.size))
  (h:Q (.ref s.heap.objs.size) { s with heap:=s.heap.push { cls:=.type "tuple", data:=.seq ((items.toList.drop (sIx items.size 0 lo)).take (sIx items.size items.size hi - sIx items.size 0 lo)).toArray } })
  (hsz:items.size<=sizeLine):wpAny (model prog w) A (getItem (.ref t) (.ref sl)) Q E s:=by
 have htake:sizeOk (.seq ((items.toList.drop (sIx items.size 0 lo)).take (sIx items.size items.size hi - sIx items.size 0 lo)).toArray):=by
  show ((items.toList.drop (sIx items.size 0 lo)).take (sIx items.size items.size hi - sIx items.size 0 lo)).toArray.size<=sizeLine
  rw [List.size_toArray,List.length_take,List.length_drop,Array.length_toList]
  omega
 have hj:sIx items.size items.size hi<=items.size:=zHz _ _ (Nat.le_refl _) hi
 obtain ⟨os,hos,hcs,hds⟩:=id hs
 have hTs:s.TypeIs (.ref sl) "slice" := ⟨os,hos,hcs⟩
 unfold getItem
 try with_reducible refine wpAny_holding ?_
 first | refine wpAny_bind (wpAny_pure ?_) | skip
 refine wpAny_bind (wpAny_sequenceKey ht.typeIs (by decide) ?_)
 refine wpAny_bind (wpAny_callSpecial?_slot (name:=Str.ofString "__getitem__") ht.typeIs PyProof.Rows.slot_tuple_getitem
  (wpAny_call_entry PyProof.Rows.slot_tuple_getitem ht.typeIs entry_tuple_getitem ?_ (args_tuple_getitem _ _)))
 show wpAny _ _ (Builtin.Tuple.tupleItemsOf (.ref t) >>= _) _ _ s
 refine wpAny_bind (tupleItemsOf_ ht ?_)
 refine wpAny_bind (wpAny_typeOf hTs ?_)
 rw [if_pos (by decide)]
 refine wpAny_bind (sliceApplied_gen hs pl pu ?_)
 have hno:¬ ((((sIx items.size 0 lo:Nat):Int)==0 && (1:Int)==1 && (sIx items.size items.size hi - sIx items.size 0 lo)==items.size)=true):=by
  intro q
  rw [Bool.and_eq_true,Bool.and_eq_true] at q
  have q1:((sIx items.size 0 lo:Nat):Int)=0:=eq_of_beq q.1.1
  have q2:sIx items.size items.size hi - sIx items.size 0 lo=items.size:=eq_of_beq q.2
  exact hw ⟨by omega,by omega⟩
 show wpAny _ _ (if (((sIx items.size 0 lo:Nat):Int)==0 && (1:Int)==1 && (sIx items.size items.size hi - sIx items.size 0 lo)==items.size)=true then _ else _) _ _ s
 rw [if_neg hno,zEm]
 first
  | exact wpAny_bind (m:=Builtin.Tuple.tupleExact _) (wpAny_newObj_type (wpAny_pure ⟨_,rfl,wpAny_pure h⟩) htake)
  | exact wpAny_bind (m:=Builtin.Tuple.tupleExact _) (wpAny_newObj_type (wpAny_bind (wpAny_pure (wpAny_pure ⟨_,rfl,wpAny_pure h⟩))) htake)
  | exact wpAny_bind (wpAny_bind (m:=Builtin.Tuple.tupleExact _) (wpAny_newObj_type (wpAny_pure (wpAny_pure ⟨_,rfl,wpAny_pure h⟩)) htake))
  | exact wpAny_bind (wpAny_bind (m:=Builtin.Tuple.tupleExact _) (wpAny_newObj_type (wpAny_pure ⟨_,rfl,wpAny_pure h⟩) htake))
end
end HT
namespace L2
open PySem PySem.Spec PyProof.Rows
abbrev TO:=St->Hp->(Option Int->Hp->Prop)->Prop
def PO (X:Cx) (e:Option Expr) (t:TO):Prop:=
 ∀ (pins:List (Addr×Obj)) (s:Shared) (σ:St) (H:Hp) (Q:Option Int->Hp->Prop),Inv X pins σ H s->t σ H Q->
  wpAny (model X.prog X.w) X.A (evalPart e X.env) (fun u s'=>∃ o H',Inv X pins σ H' s'/\IsPart u o/\Q o H') X.xe s
abbrev zFM:TO:=fun _ H Q=>Q none H
abbrev zKH (t:TE):TO:=fun σ H Q=>t σ H fun x H1=>∃ i,x=.int i/\Q (some i) H1
section
variable {X:Cx} {e:Expr} {te:TE} {lo hi:Option Expr} {tl th:TO} {pos p2:Pos}
theorem zGN:PO X none zFM:=by
 intro pins s σ H Q I h
 rw [evalPart_none]
 exact wpAny_pure ⟨none,H,I,.none,h⟩
theorem zFy (h:PE X e te):PO X (some e) (zKH te):=by
 intro pins s σ H Q I hw
 rw [evalPart_some]
 refine thn (h pins s σ H _ I hw) fun u s1 ⟨x,H1,I1,r1,q1⟩=>?_
 obtain ⟨i,rfl,q⟩:=q1
 obtain ⟨t,rfl⟩:=r1
 exact ⟨some i,H1,I1,.int i t,q⟩
def SlR (X:Cx) (r:V->Option Int->Option Int->Hp->VK->Prop):Prop:=
 ∀ (pins:List (Addr×Obj)) (s:Shared) (σ:St) (H:Hp) (x:V) (v vl vu:Value) (lo hi:Option Int) (sl:Addr) (Q:VK),Inv X pins σ H s->cI x v->s.heap.IsSliceOf sl vl vu .none->IsPart vl lo->IsPart vu hi->r x lo hi H Q->
  ∃ T id,typeLookup (.type T) "__getitem__" = pure (some (.builtin id))/\s.TypeIs v T/\wpAny (model X.prog X.w) X.A (getItem v (.ref sl)) (EP X pins σ Q) X.xe s
theorem SlR.or {r r':V->Option Int->Option Int->Hp->VK->Prop} (h:SlR X r) (h':SlR X r'):SlR X (fun x lo hi H Q=>r x lo hi H Q∨r' x lo hi H Q):=by
 intro pins s σ H x v vl vu lo hi sl Q I rx hs pl pu q
 rcases q with q | q
 ·exact h pins s σ H x v vl vu lo hi sl Q I rx hs pl pu q
 ·exact h' pins s σ H x v vl vu lo hi sl Q I rx hs pl pu q
abbrev tSl (r:V->Option Int->Option Int->Hp->VK->Prop) (te:TE) (tl th:TO):TE:=fun σ H Q=>te σ H fun x H1=>tl σ H1 fun l H2=>th σ H2 fun u H3=>r x l u H3 Q
theorem sN {r:V->Option Int->Option Int->Hp->VK->Prop} (hr:SlR X r) (he:PE X e te) (hl:PO X lo tl) (hu:PO X hi th):PE X (.Subscript e (.Slice lo hi none p2) pos) (tSl r te tl th):=by
 intro pins s σ H Q I h
 refine Subscript_ (thn (he pins s σ H _ I h) fun v s1 ⟨x,H1,I1,r1,q1⟩=>?_)
 refine wpAny_Slice (thn (hl pins s1 σ H1 _ I1 q1) fun vl s2 ⟨l,H2,I2,pl,q2⟩=>thn (hu pins s2 σ H2 _ I2 q2) fun vu s3 ⟨u,H3,I3,pu,q3⟩=>?_)
 rw [evalPart_none]
 refine wpAny_pure ?_
 have I4:Inv X pins σ H3 { s3 with heap:=s3.heap.push { cls:=.type "slice", data:=.fields #[vl,vu,.none] } }:=I3.kept (t':=s3.toks) fun b ob q=>Heap.get?_push_of_some _ q
 obtain ⟨T,id,hT,ht,hg⟩:=hr pins { s3 with heap:=s3.heap.push { cls:=.type "slice", data:=.fields #[vl,vu,.none] } } σ H3 x v vl vu l u s3.heap.objs.size Q I4 r1 (Heap.IsSliceOf.new ..) pl pu q3
 show wpAny (model X.prog X.w) X.A (subscriptTail e (.Slice lo hi none p2) v (.ref s3.heap.objs.size)) (EP X pins σ Q) X.xe { s3 with heap:=s3.heap.push { cls:=.type "slice", data:=.fields #[vl,vu,.none] } }
 exact tail_any (ops:=[.ref s3.heap.objs.size,v]) ht hT hg (by with_unfolding_all rfl)
def zDe (xs:List V) (lo hi:Option Int):List V:=(xs.drop (HT.sIx xs.length 0 lo)).take (HT.sIx xs.length xs.length hi - HT.sIx xs.length 0 lo)
theorem oG (xs:List V) (lo hi:Option Int):(zDe xs lo hi).length<=xs.length:=by
 unfold zDe
 rw [List.length_take,List.length_drop]
 omega
def zLB (K:PySem.W.Frag):V->Option Int->Option Int->Hp->VK->Prop:=fun x lo hi H Q=>∃ a xs,x=.ref a/\SqT K H a xs/\
 ¬ (HT.sIx xs.length 0 lo=0/\HT.sIx xs.length xs.length hi=xs.length)/\∀ p,H p=none->Q (.ref p) (upd H p (.tup (zDe xs lo hi)))
theorem zIc:SlR X (zLB X.K):=by
 intro pins s σ H x v vl vu lo hi sl Q I rx hs pl pu h
 obtain ⟨a,xs,rfl,hx,hw,q⟩:=h
 cases rx
 obtain ⟨its,r,ht,hz⟩:=I.tuple hx
 have hlen:its.toArray.size=xs.length:=by rw [List.size_toArray];exact r.length.symm
 refine ⟨"tuple", _,PyProof.Rows.slot_tuple_getitem.lookup,ht.typeIs,?_⟩
 refine HT.getItem_tuple_cut ht hs pl pu (by rw [hlen];exact hw) ?_ (by rw [hlen];exact hz)
 rw [hlen]
 refine ⟨.ref s.heap.objs.size,_,I.laid (t':=s.toks) (o:=.tup (zDe xs lo hi)) (fun b ob q=>Heap.get?_push_of_some _ q) (Nat.le_refl _) ?_,rfl,q _ (I.hok.fresh (Nat.le_refl _))⟩
 exact ⟨Nat.le_trans (oG xs lo hi) hz,_,(r.drop (HT.sIx xs.length 0 lo)).take (HT.sIx xs.length xs.length hi - HT.sIx xs.length 0 lo),IsTup.new _ _⟩
def zHv (K:PySem.W.Frag):R2:=fun x y H Q=>∃ a b xs ys,x=.ref a/\y=.ref b/\SqT K H a xs/\SqT K H b ys/\xs≠[]/\xs.length+ys.length<=sizeLine/\
 (ys=[]->Q (.ref a) H)/\(ys≠[]->∀ p,H p=none->Q (.ref p) (upd H p (.tup (xs++ys))))
theorem dM.nil_iff {xs:List V} {us:List Value} (r:dM xs us):us=[] ↔ xs=[]:=by
 cases r with
 | nil=>simp
 | cons _ _=>simp
theorem zGF:OpR X (binaryOp .Add) (zHv X.K):=by
 intro pins s σ H x y v u Q I rx ry h
 obtain ⟨a,b,xs,ys,rfl,rfl,ha,hb,hx,hz,q1,q2⟩:=h
 cases rx
 cases ry
 obtain ⟨its,r1,p1,_⟩:=I.tuple ha
 obtain ⟨its2,r2,p2,_⟩:=I.tuple hb
 refine HT.cat_tup p1 p2 (fun z=>hx (r1.nil_iff.mp z)) (fun z=>⟨.ref a,H,I,rfl,q1 (r2.nil_iff.mp z)⟩) (fun z=>?_) (by rw [<-r1.length,<-r2.length];exact hz)
 refine ⟨.ref s.heap.objs.size,_,I.laid (t':=s.toks) (o:=.tup (xs++ys)) (fun b ob q=>Heap.get?_push_of_some _ q) (Nat.le_refl _) ?_,rfl,q2 (fun w=>z (r2.nil_iff.mpr w)) _ (I.hok.fresh (Nat.le_refl _))⟩
 exact ⟨by rw [List.length_append];exact hz,_,r1.append r2,IsTup.new _ _⟩
end
end L2
namespace L2
open PySem PySem.Spec PyProof.Rows
def ixN (n:Nat) (i:Int):Option Nat:=if 0<=i then (if i < n then some i.toNat else none) else if -(n:Int)<=i then some (i+n).toNat else none
def atI {α:Type} (xs:List α) (i:Int):Option α:=(ixN xs.length i).bind fun j=>xs[j]?
theorem zFv {n:Nat} {i:Int} {j:Nat} (h:ixN n i=some j):seqIndex? i n=some j/\j < n/\-(n:Int)<=i/\i < n:=by
 unfold ixN at h
 by_cases h0:0<=i
 ·rw [if_pos h0] at h
  by_cases h1:i < n
  ·rw [if_pos h1] at h
   have e:i.toNat=j:=Option.some.inj h
   exact ⟨by rw [seqIndex_of h0 h1,e],by omega,by omega,h1⟩
  ·rw [if_neg h1] at h;cases h
 ·rw [if_neg h0] at h
  by_cases h1:-(n:Int)<=i
  ·rw [if_pos h1] at h
   have e:(i+n).toNat=j:=Option.some.inj h
   exact ⟨by rw [seqIndex_neg (by omega) h1,e],by omega,h1,by omega⟩
  ·rw [if_neg h1] at h;cases h
theorem zAG {α:Type} {xs:List α} {i:Int} {v:α} (h:atI xs i=some v):∃ j,seqIndex? i xs.length=some j/\xs[j]?=some v/\j < xs.length/\-(xs.length:Int)<=i/\i < xs.length:=by
 unfold atI at h
 cases e:ixN xs.length i with
 | none=>rw [e] at h;cases h
 | some j=>
  rw [e] at h
  obtain ⟨h1,h2,h3,h4⟩:=zFv e
  exact ⟨j,h1,h,h2,h3,h4⟩
theorem zFO {α:Type} {xs:List α} {j:Nat} {v:α} (h:xs[j]?=some v):atI xs (j:Int)=some v:=by
 have hj:j < xs.length:=(List.getElem?_eq_some_iff.mp h).1
 have e:ixN xs.length (j:Int)=some j:=by
  unfold ixN
  rw [if_pos (by omega),if_pos (by omega)];simp
 unfold atI;rw [e];exact h
def vP (b:Expr):Prop:=∀ o i,subscripted b false o i=operate [o,i] (getItem o i)
def IxR (X:Cx) (r:R2):Prop:=
 ∀ (value slice:Expr) (pins:List (Addr×Obj)) (s:Shared) (σ:St) (H:Hp) (x y:V) (v u:Value) (Q:VK),Inv X pins σ H s->cI x v->cI y u->r x y H Q->
  subscripted slice false v u=operate [v,u] (getItem v u)->wpAny (model X.prog X.w) X.A (subscriptTail value slice v u) (EP X pins σ Q) X.xe s
def MtR (X:Cx) (id:String) (r:V->List V->Hp->VK->Prop):Prop:=
 ∀ (pins:List (Addr×Obj)) (s:Shared) (σ:St) (H:Hp) (x:V) (xs:List V) (v:Value) (us:List Value) (Q:VK),Inv X pins σ H s->cI x v->dM xs us->r x xs H Q->
  wpAny (model X.prog X.w) X.A (call (.builtin id) (v::us)) (EP X pins σ Q) X.xe s
section
variable {X:Cx} {a b:Expr} {ta tb:TE} {pos:Pos}
theorem IxR.or {r r':R2} (h:IxR X r) (h':IxR X r'):IxR X (fun x y H Q=>r x y H Q∨r' x y H Q):=by
 intro value slice pins s σ H x y v u Q I rx ry q hs
 rcases q with q | q
 ·exact h value slice pins s σ H x y v u Q I rx ry q hs
 ·exact h' value slice pins s σ H x y v u Q I rx ry q hs
theorem zHm {r:R2} (hr:IxR X r) (ha:PE X a ta) (hb:PE X b tb) (hs:vP b):PE X (.Subscript a b pos) (tOp r ta tb):=by
 intro pins s σ H Q I h
 exact Subscript_ (zJw ha hb I h fun v u s2 x y H2 I2 rx ry q=>hr a b pins s2 σ H2 x y v u Q I2 rx ry q (hs _ _))
def zJS (K:PySem.W.Frag):R2:=fun x y H Q=>∃ p xs i v,x=.ref p/\y=.int i/\SqL K H p xs/\atI xs i=some v/\Q v H
def zJH (K:PySem.W.Frag):R2:=fun x y H Q=>∃ p xs i v,x=.ref p/\y=.int i/\SqT K H p xs/\atI xs i=some v/\Q v H
def zLK:R2:=fun x y H Q=>∃ z i c,x=.str z/\y=.int i/\z.length<=sizeLine/\atI z.cps.toList i=some c/\Q (.str ⟨#[c]⟩) H
theorem zGy:IxR X (zJS X.K):=by
 intro value slice pins s σ H x y v u Q I rx ry h hs
 obtain ⟨p,xs,i,z,rfl,rfl,hq,he,q⟩:=h
 cases rx
 obtain ⟨t,rfl⟩:=ry
 obtain ⟨its,r,pl,hz⟩:=I.list hq
 obtain ⟨j,h1,h2,h3,h4,h5⟩:=zAG he
 obtain ⟨w,ew,rw'⟩:=r.get h2
 have hl:=r.length
 have hn:=xC
 have fin:EP X pins σ Q w s:=⟨z,H,I,rw',q⟩
 by_cases h0:0<=i
 ·have hj:i.toNat=j:=by
   rw [seqIndex_of h0 h5] at h1
   exact Option.some.inj h1
  exact item_listR pl.isList h0 (by omega) (by rw [hj];simpa using ew) fin hs
 ·have hj:(i+(its.toArray.size:Int)).toNat=j:=by
   rw [seqIndex_neg (by omega) h4] at h1
   rw [List.size_toArray,<-hl]
   exact Option.some.inj h1
  exact subscriptTail_builtinR (x:=w) pl.isList.typeIs slot_list_getitem.lookup
   (wpAny_getItem_list_neg (Q:=fun r s'=>r=w/\EP X pins σ Q r s') pl.isList (by omega) (by rw [List.size_toArray]<;>omega) (by omega) (by rw [hj];simpa using ew) ⟨rfl,fin⟩) hs
theorem zEv:IxR X (zJH X.K):=by
 intro value slice pins s σ H x y v u Q I rx ry h hs
 obtain ⟨p,xs,i,z,rfl,rfl,hq,he,q⟩:=h
 cases rx
 obtain ⟨t,rfl⟩:=ry
 obtain ⟨its,r,pl,hz⟩:=I.tuple hq
 obtain ⟨j,h1,h2,h3,h4,h5⟩:=zAG he
 obtain ⟨w,ew,rw'⟩:=r.get h2
 have hl:=r.length
 have hn:=xC
 have fin:EP X pins σ Q w s:=⟨z,H,I,rw',q⟩
 exact subscriptTail_builtinR (x:=w) pl.typeIs slot_tuple_getitem.lookup
  (getItem_tuple (j:=j) (Q:=fun r s'=>r=w/\EP X pins σ Q r s') pl (by omega) (by omega) (by rw [List.size_toArray,<-hl];exact h1) (by simpa using ew) ⟨rfl,fin⟩) hs
def rIx (K:PySem.W.Frag):R2:=fun x y H Q=>zJS K x y H Q∨zJH K x y H Q∨zLK x y H Q
theorem uA (lo hi:Option Int) (n:Nat):(sliceBounds lo hi none n).1=((HT.sIx n 0 lo:Nat):Int)/\(sliceBounds lo hi none n).2.1=((HT.sIx n n hi:Nat):Int)/\(sliceBounds lo hi none n).2.2=1:=by
 refine ⟨?_,?_,rfl⟩
 ·cases lo with
  | none=>simp [sliceBounds,HT.sIx]
  | some i=>
   simp only [sliceBounds,HT.sIx,Option.getD_none,show (1:Int) > 0 by decide,if_true]
   by_cases h:i < 0
   ·simp only [h,if_true]<;>omega
   ·simp only [h,if_false]<;>omega
 ·cases hi with
  | none=>simp [sliceBounds,HT.sIx]
  | some i=>
   simp only [sliceBounds,HT.sIx,Option.getD_none,show (1:Int) > 0 by decide,if_true]
   by_cases h:i < 0
   ·simp only [h,if_true]<;>omega
   ·simp only [h,if_false]<;>omega
theorem rC (its:List Value) (lo hi:Option Int):slicePick its.toArray lo hi none=((its.drop (HT.sIx its.length 0 lo)).take (HT.sIx its.length its.length hi - HT.sIx its.length 0 lo)).toArray:=by
 obtain ⟨h1,h2,h3⟩:=uA lo hi its.toArray.size
 unfold slicePick
 rw [h1,h2,h3]
 simp only [sliceRange_one,pick_run,List.size_toArray]<;>rfl
def zLW (K:PySem.W.Frag):V->Option Int->Option Int->Hp->VK->Prop:=fun x lo hi H Q=>∃ a xs,x=.ref a/\SqL K H a xs/\∀ p,H p=none->Q (.ref p) (upd H p (.lst (zDe xs lo hi)))
theorem zBs:SlR X (zLW X.K):=by
 intro pins s σ H x v vl vu lo hi sl Q I rx hs pl pu h
 obtain ⟨a,xs,rfl,hx,q⟩:=h
 cases rx
 obtain ⟨its,r,ht,hz⟩:=I.list hx
 have hlen:=r.length
 refine ⟨"list", _,slot_list_getitem.lookup,ht.isList.typeIs,?_⟩
 refine wpAny_getItem_list_slice ht.isList hs pl pu .none (by simp) ?_ (by rw [List.size_toArray]<;>omega)
 rw [rC,<-hlen]
 refine ⟨.ref s.heap.objs.size,_,I.laid (t':=s.toks) (o:=.lst (zDe xs lo hi)) (fun b ob q=>Heap.get?_push_of_some _ q) (Nat.le_refl _) ?_,rfl,q _ (I.hok.fresh (Nat.le_refl _))⟩
 exact ⟨Nat.le_trans (oG xs lo hi) hz,_,0,(r.drop (HT.sIx xs.length 0 lo)).take (HT.sIx xs.length xs.length hi - HT.sIx xs.length 0 lo),Heap.get?_push_size _ rfl⟩
def zJr:V->Bool
 | .non=>true
 | .bl _=>true
 | .int _=>true
 | .str _=>true
 | _=>false
def eqV:V->V->Bool
 | .non,.non=>true
 | .bl a,.bl b=>a==b
 | .bl a,.int b=>(if a then 1 else 0)==b
 | .int a,.bl b=>a==(if b then 1 else 0)
 | .int a,.int b=>a==b
 | .str a,.str b=>a==b
 | _,_=>false
def inV (x:V) (xs:List V):Bool:=xs.any fun y=>eqV y x
def rIn (K:PySem.W.Frag) (neg:Bool):R2:=fun x y H Q=>∃ p xs,y=.ref p/\(SqL K H p xs∨SqT K H p xs)/\zJr x=true/\xs.all zJr=true/\Q (.bl (if neg then !inV x xs else inV x xs)) H
theorem aR:lI X (.builtin "len") (fun xs H Q=>∃ p ys,xs=[.ref p]/\(SqL X.K H p ys∨SqT X.K H p ys)/\Q (.int ys.length) H):=by
 intro pins s σ H xs us Q I r h
 obtain ⟨p,ys,rfl,hq,q⟩:=h
 obtain ⟨u,rfl,rx⟩:=wV r
 cases rx
 have hn:=xC
 rcases hq with hq | hq
 ·obtain ⟨its,r',pl,hz⟩:=I.list hq
  have hlen:=r'.length
  exact Calls.call_len_list pl.isList (by simp only [List.size_toArray]<;>omega) ⟨.int ys.length,H,I.tok _,⟨s.toks+1,by rw [List.size_toArray,hlen]⟩,q⟩
 ·obtain ⟨its,r',pl,hz⟩:=I.tuple hq
  have hlen:=r'.length
  exact len_tuple pl (by simp only [List.size_toArray]<;>omega) ⟨.int ys.length,H,I.tok _,⟨s.toks+1,by rw [List.size_toArray,hlen]⟩,q⟩
theorem uB:lI X (.type "list") (fun xs H Q=>∃ p ys,xs=[.ref p]/\(SqL X.K H p ys∨SqT X.K H p ys)/\∀ l,H l=none->Q (.ref l) (upd H l (.lst ys))):=by
 intro pins s σ H xs us Q I r h
 obtain ⟨p,ys,rfl,hq,q⟩:=h
 obtain ⟨u,rfl,rx⟩:=wV r
 cases rx
 have fin:∀ (its:List Value),dM ys its->ys.length<=sizeLine->∀ (h':Heap) (c':Nat),(∀ b o',s.heap.get? b=some o'->h'.get? b=some o')->
   h'.get? s.heap.objs.size=some { cls:=.type "list", dict:=none,data:=.seq its.toArray c',slots:=#[] }->EP X pins σ Q (.ref s.heap.objs.size) { s with heap:=h' }:=fun its r' hz h' c' kp e=>
  ⟨.ref s.heap.objs.size,_,I.laid (t':=s.toks) kp (Nat.le_refl _) (show hJ X.prog X.w _ h' _ (.lst ys) from ⟨hz,its,c',r',e⟩),rfl,q _ (I.hok.fresh (Nat.le_refl _))⟩
 rcases hq with hq | hq
 ·obtain ⟨its,r',pl,hz⟩:=I.list hq
  have hlen:=r'.length
  obtain ⟨o,ho,hc,n,hd⟩:=pl.isList
  exact call_list_seq p (.inl rfl) ho hc hd (fun h' c' kp e=>fin its r' hz h' c' kp e) (by simp only [List.size_toArray]<;>omega)
 ·obtain ⟨its,r',pl,hz⟩:=I.tuple hq
  have hlen:=r'.length
  obtain ⟨o,ho,hc,n,hd⟩:=pl
  exact call_list_seq p (.inr rfl) ho hc hd (fun h' c' kp e=>fin its r' hz h' c' kp e) (by simp only [List.size_toArray]<;>omega)
theorem kL:lI X (.type "tuple") (fun xs H Q=>∃ p ys,xs=[.ref p]/\((SqL X.K H p ys/\∀ l,H l=none->Q (.ref l) (upd H l (.tup ys)))∨(SqT X.K H p ys/\Q (.ref p) H))):=by
 intro pins s σ H xs us Q I r h
 obtain ⟨p,ys,rfl,h⟩:=h
 obtain ⟨u,rfl,rx⟩:=wV r
 cases rx
 rcases h with ⟨hq,q⟩ | ⟨hq,q⟩
 ·obtain ⟨its,r',pl,hz⟩:=I.list hq
  have hlen:=r'.length
  refine call_tuple_list pl.isList (fun h' kp=>?_) (by simp only [List.size_toArray]<;>omega)
  have I1:Inv X pins σ H { s with heap:=h' }:=I.kept (t':=s.toks) kp
  have I2:Inv X pins σ (upd H h'.objs.size (.tup ys)) { s with heap:=h'.push { cls:=.type "tuple", data:=.seq its.toArray } }:=
   I1.laid (t':=s.toks) (fun b o e=>Heap.get?_push_of_some _ e) (Nat.le_refl _) (show hJ X.prog X.w _ _ _ (.tup ys) from ⟨hz,its,r',IsTup.new _ _⟩)
  exact ⟨.ref h'.objs.size,_,I2,rfl,q _ (I1.hok.fresh (Nat.le_refl _))⟩
 ·obtain ⟨its,r',pl,hz⟩:=I.tuple hq
  exact call_tuple_same pl ⟨.ref p,H,I,rfl,q⟩
def tyV (K:PySem.W.Frag) (T:String) (x:V) (H:Hp):Prop:=match x with
 | .str _=>T = "str"
 | .int _=>T = "int"
 | .ref p=>(T = "list" /\ ∃ xs,SqL K H p xs)∨(T = "tuple" /\ ∃ o,K.lookup p=some o/\o.cls=.type "tuple" /\ o.dict=none)∨
   (T = "dict" /\ ((∃ kvs,H p=some (.dK kvs))∨∃ kvs,H p=some (.dT kvs)))∨(T = "set" /\ ∃ S n,H p=some (.set S n))
 | _=>False
theorem zJa {pins:List (Addr×Obj)} {σ:St} {H:Hp} {s:Shared} {T:String} {x:V} {v:Value} (I:Inv X pins σ H s) (r:cI x v) (ty:tyV X.K T x H):
  s.TypeIs v T/\∀ a,v=.ref a->∃ ob,s.heap.get? a=some ob/\ob.dict=none:=by
 cases x with
 | str z=>
  obtain ⟨t,rfl⟩:=r
  cases (show T = "str" from ty)
  exact ⟨typeIs_str s z t,fun _ e=>nomatch e⟩
 | int i=>
  obtain ⟨t,rfl⟩:=r
  cases (show T = "int" from ty)
  exact ⟨typeIs_int s i t,fun _ e=>nomatch e⟩
 | ref p=>
  cases r
  rcases ty with ⟨rfl,xs,hq⟩ | ⟨rfl,o,hk,hc,hd⟩ | ⟨rfl,hk⟩ | ⟨rfl,S,n,hk⟩
  ·obtain ⟨its,_,pl,_⟩:=I.list hq
   refine ⟨pl.isList.typeIs,fun a e=>?_⟩
   cases e
   obtain ⟨o,n,e,c,hd,_⟩:=pl
   exact ⟨o,e,hd⟩
  ·refine ⟨⟨o,I.kIn p o hk,hc⟩,fun a e=>?_⟩
   cases e
   exact ⟨o,I.kIn _ o hk,hd⟩
  ·have z:∃ o,s.heap.get? p=some o/\o.ExactDict:=by
    rcases hk with ⟨kvs,hk⟩ | ⟨kvs,hk⟩
    ·obtain ⟨_,_,_,_,o,_,_,e,ex,_⟩:=I.hok p _ hk
     exact ⟨o,e,ex⟩
    ·obtain ⟨_,_,_,_,o,_,_,e,ex,_⟩:=I.hok p _ hk
     exact ⟨o,e,ex⟩
   obtain ⟨o,e,ex⟩:=z
   refine ⟨⟨o,e,ex.1⟩,fun a e2=>?_⟩
   cases e2
   exact ⟨o,e,ex.2.1⟩
  ·obtain ⟨o,_,_,_,e,ex,_⟩:=I.hok p _ hk
   refine ⟨⟨o,e,ex.1⟩,fun a e2=>?_⟩
   cases e2
   exact ⟨o,e,ex.2.1⟩
 | _=>exact False.elim ty
abbrev tBM (K:PySem.W.Frag) (T:String) (r:V->List V->Hp->VK->Prop) (to:TE) (t:TA):TE:=fun σ H Q=>to σ H fun x H1=>tyV K T x H1/\t σ H1 fun xs H2=>r x xs H2 Q
variable {o e:Expr} {es:List Expr} {to:TE} {t:TA} {name:Str} {apos cpos:Pos} {T id:String} {r:V->List V->Hp->VK->Prop}
theorem wB (pa:PlainAttrs T) (slot:Slot T name id) (hty:typeOf (.builtin id)=pure (.type "method_descriptor")) (hm:MtR X id r) (ho:PE X o to) (ha:PA X (e::es) t)
  (hbase:attributeBase o name X.env (eval o X.env)=eval o X.env:=by rfl)
  (hfew:((backTo cpos (starEach (e::es) X.env)).all (fun x=>!x.1) && (backToKw cpos (keywordEach [] X.env)).all (fun x=>x.1.isSome)
   && decide ((e::es).length+([]:List Keyword).length+(if ([]:List Keyword).isEmpty then 0 else 1) < 30))=true:=by rfl)
  (hline:(apos.endLine==cpos.line)=true:=by rfl) (hs:starEach (e::es) X.env=(false,eval e X.env)::starEach es X.env:=by rfl) (hplain:(backTo cpos (starEach es X.env)).any (·.1)=false:=by rfl):
  PE X (.Call (.Attribute o name apos) (e::es) [] cpos) (tBM X.K T r to t):=by
 intro pins s σ H Q I h
 refine wpAny_Call_method_late hbase hfew hline rfl (thn (ho pins s σ H _ I h) fun v s1 ⟨x,H1,I1,r1,ty,q1⟩=>?_)
 obtain ⟨h1,h2⟩:=zJa I1 r1 ty
 refine ⟨T,id,pa,slot,hty,h1,h2,?_⟩
 have hA:=ha cpos pins s1 σ H1 _ I1 q1
 rw [hs] at hA ⊢
 refine Calls.callWith_builtin (by show (false || (backTo cpos (starEach es X.env)).any (·.1))=false;rw [hplain]<;>rfl) (Calls.evalArgs_plain ?_)
 exact thn hA fun us s2 ⟨vs,H2,I2,r2,q2⟩=>hm pins s2 σ H2 x vs v us Q I2 r1 r2 q2
end
end L2
namespace L2
open PySem PySem.Spec PyProof.Rows
def MtM (X:Cx) (id:String) (r:V->List V->Hp->VK->Prop):Prop:=
 ∀ (pins:List (Addr×Obj)) (s:Shared) (σ:St) (H:Hp) (x:V) (xs:List V) (v:Value) (us:List Value) (Q:VK),Inv X pins σ H s->cI x v->dM xs us->r x xs H Q->
  wpAny (model X.prog X.w) X.A (call (.builtin id) (v::us)) (EP X pins σ Q) X.xe s
theorem dM.one:∀ {x:V} {us:List Value},dM [x] us->∃ u,us=[u]/\cI x u
 | _,_,.cons r .nil=>⟨_,rfl,r⟩
section
variable {X:Cx} {pins:List (Addr×Obj)} {σ:St} {H:Hp} {s:Shared} {l b:Addr} {xs ys zs:List V}
theorem Inv.lset {its its':List Value} {n:Nat} {f:Array Value->Array Value} {t':Nat} (I:Inv X pins σ H s) (hH:H l=some (.lst xs))
  (e:s.heap.get? l=some { cls:=.type "list", data:=.seq its.toArray n }) (hf:f its.toArray=its'.toArray) (hv:dM ys its') (hz:ys.length<=sizeLine):
  Inv X pins σ (upd H l (.lst ys)) { s with heap:=s.heap.update l (Obj.mapSeq f),toks:=t' }:=by
 have q:=PySem.IsL.update e f
 rw [hf] at q
 refine I.write (x:=l) (e:=l) (by rw [hH];exact trivial) (.inl rfl) (fun b' u hb hu=>(Heap.get?_update_other s.heap (Obj.mapSeq f) (Ne.symm hb)).trans hu) ⟨_,q⟩ ?_
 exact ⟨hz,its',_,hv,q⟩
theorem Inv.lnew {its:List Value} {t':Nat} (I:Inv X pins σ H s) (hv:dM ys its) (hz:ys.length<=sizeLine):
  Inv X pins σ (upd H s.heap.objs.size (.lst ys)) { s with heap:=s.heap.push { cls:=.type "list", data:=.seq its.toArray },toks:=t' }:=
 I.laid (fun _ _ q=>Heap.get?_push_of_some _ q) (Nat.le_refl _) ⟨hz,its,0,hv,Heap.get?_push_size _ rfl⟩
theorem Inv.fresh (I:Inv X pins σ H s):H s.heap.objs.size=none:=I.hok.fresh (Nat.le_refl _)
theorem Inv.lstM (I:Inv X pins σ H s) (hH:H l=some (.lst xs)):xs.length<=sizeLine/\∃ (its:List Value) (n:Nat),dM xs its/\xs.length=its.length/\s.heap.get? l=some { cls:=.type "list", data:=.seq its.toArray n }:=by
 obtain ⟨z,its,n,r,e⟩:=I.hok l _ hH
 exact ⟨z,its,n,r,r.length,e⟩
theorem zEc {n:Nat} (h:n<=sizeLine):Builtin.List.listTooLong n=false:=by
 unfold Builtin.List.listTooLong
 exact decide_eq_false (by omega)
end
section
variable {X:Cx}
def zGz:V->List V->Hp->VK->Prop:=fun x vs H Q=>∃ l xs y,x=.ref l/\vs=[y]/\H l=some (.lst xs)/\xs.length < sizeLine/\Q .non (upd H l (.lst (xs++[y])))
theorem gJ:MtM X "list.append" zGz:=by
 intro pins s σ H x vs v us Q I rx rv h
 obtain ⟨l,xs,y,rfl,rfl,hH,hz,q⟩:=h
 cases rx
 obtain ⟨u,rfl,ru⟩:=rv.one
 obtain ⟨z,its,n,r,hl,e⟩:=I.lstM hH
 refine call_meets F.slot_list_append ⟨_,e,rfl⟩ F.entry_list_append (F.args_list_append_2 _ _) (PySem.list_append l its.toArray n u (by rw [List.size_toArray];omega)) ⟨e,?_⟩
 refine ⟨.non,_,I.lset (its':=its++[u]) hH e (by simp) (r.append (.cons ru .nil)) ?_,rfl,q⟩
 rw [List.length_append,List.length_singleton]
 omega
def zFz:V->List V->Hp->VK->Prop:=fun x vs H Q=>∃ l b xs zs,x=.ref l/\vs=[.ref b]/\H l=some (.lst xs)/\H b=some (.lst zs)/\xs.length+zs.length<=sizeLine/\Q .non (upd H l (.lst (xs++zs)))
theorem zBR:MtM X "list.extend" zFz:=by
 intro pins s σ H x vs v us Q I rx rv h
 obtain ⟨l,b,xs,zs,rfl,rfl,hH,hB,hz,q⟩:=h
 cases rx
 obtain ⟨u,rfl,ru⟩:=rv.one
 cases ru
 obtain ⟨z,its,n,r,hl,e⟩:=I.lstM hH
 obtain ⟨z2,its2,n2,r2,hl2,e2⟩:=I.lstM hB
 have hsz:its.toArray.size+its2.toArray.size<=sizeLine:=by rw [List.size_toArray,List.size_toArray];omega
 have hlong:¬ (!its.toArray.isEmpty && Builtin.List.listTooLong (its.toArray.size+its2.toArray.size))=true:=by
  rw [zEc hsz,Bool.and_false]
  exact Bool.false_ne_true
 refine call_meets F.slot_list_extend ⟨_,e,rfl⟩ F.entry_list_extend (F.args_list_extend_2 _ _)
  (AutoSeq1.list_extend_list_list_0 l its.toArray n b its2.toArray n2 hlong (by rw [List.size_toArray];omega) (by omega)) ⟨e,e2,?_⟩
 refine ⟨.non,_,I.lset (its':=its++its2) hH e (by simp) (r.append r2) ?_,rfl,q⟩
 rw [List.length_append]
 omega
end
section
variable {prog:Program} {w:World} {A:Around} {E:Value->Shared->Prop} {s:Shared}
set_option maxRecDepth 100000 in
end
section
variable {X:Cx}
end
end L2
namespace Att
open PySem PySem.W PySem.Calls PyProof.Rows
theorem oK {P:Params} {h:Heap}:∀ (ns:List Int) (vs:List Value),WellAll P h vs (ns.map WData.int)->IntsAre vs ns:=by
 intro ns
 induction ns with
 | nil=>
  intro vs w
  rw [List.map_nil] at w
  cases w
  exact .nil
 | cons n ns ih=>
  intro vs w
  rw [List.map_cons] at w
  cases w with
  | cons a b=>
   cases a
   exact .cons _ _ (ih _ b)
theorem zCW {l:OpenLaw} {n:Nat} (hn:l.most=some n) {P:Params} {h:Heap} {args:List WData} {vals:List Value}
  (hpre:l.row.toRowW.claim.pre args=true) (hwl:WellAll P h vals args):
  ∃ a vs ns,vals=[Value.ref a]/\args=[WData.list (ns.map WData.int)]/\h.get? a=some { cls:=.type "list", data:=.seq vs.toArray }/\IntsAre vs ns/\ns.length<=n:=by
 have hsh:WShape.hasAll [] args [.list .int]=true:=(pre_splitW hpre).1
 have hc:l.pre.holds [] { args:=args }=true:=(pre_splitW hpre).2
 obtain ⟨d,r,rfl,h1,h2⟩:=hasAllW_cons hsh
 obtain rfl:=hasAllW_nil h2
 obtain ⟨xs,rfl,h3⟩:=hasW_list h1
 obtain ⟨ns,rfl⟩:=items_int h3
 have hlen:ns.length<=n:=by
  unfold OpenLaw.pre at hc
  have h4:(WTm.not (.lt (.lit (.int (n:Int))) (.len (.arg 0)))).holds [] { args:=[.list (ns.map .int)] }=true:=by
   have h4:=(holds_andW hc).1
   rw [hn] at h4
   exact h4
  have h5:=condW_of h4 (w_not (w_lt w_lit (w_len_list (w_arg rfl))))
  rw [List.length_map] at h5
  refine Nat.le_of_not_lt fun q=>?_
  have q':(n:Int) < ((ns.length:Nat):Int):=by omega
  first
   | (rw [decide_eq_true q'] at h5;exact absurd h5 (by decide))
   | (simp at h5;omega)
 cases hwl with
 | cons w1 w2=>
  cases w2
  cases w1 with
  | list ho hall=>exact ⟨_,_,ns,rfl,rfl,ho,oK ns _ hall,hlen⟩
theorem zBd (l:OpenLaw) (args:List WData):l.row.toRowW.claim.post args (.bool true) args=true:=
 postW_of (r:=l.row.toRowW) (X:=(true==true))
  (show WShape.has [] (.bool true) .bool=true by first | rfl | decide | simp [WShape.has,WShape.arms,WShape.armsAll])
  (show (WTm.eq .res (.lit (.bool true))).value [] { args:=args,res:=some (.bool true),after:=args }=some (.bool (true==true)) from w_eq_bool (w_res rfl) w_lit) rfl
theorem attach_call {l:OpenLaw} {n:Nat} {q:Program} {loose:List Str} {XP:(Str->Option Value)->Heap->Prop} {YP:World->Heap->Prop} {d:DefRec}
  (hn:l.most=some n) (hdf:d.params.defaults=[])
  (call:∀ (w:World) (s₀ s₁:Shared) (mg mb:Str->Option Value) (fa:Addr) (o:Obj) (pm cd doc:Value) (a:Addr) (vs:List Value) (ns:List Int),
   Ground q loose [] XP w s₀ mg mb s₁.heap->YP w s₁.heap->
   s₁.heap.get? fa=some o->o.data=.func (docDef d.name d.params d.body d.scope pm cd doc)->s₁.heap.CodeRec cd d.name->mg d.name=some (.ref fa)->
   s₁.heap.get? a=some { cls:=.type "list", data:=.seq vs.toArray }->IntsAre vs ns->ns.length<=n->s₁.gens=#[]->
   codeAny (model l.prog w) callerA (.call (.ref fa) ⟨[.ref a],[]⟩) (fun r s'=>r=.ok (.ret (.bool true))/\OldK s₁.heap s'.heap/\s'.os=s₁.os/\AllBare s'.gens) s₁):
  WalkO q loose XP YP l.row.toRowW d [] (fun f vs=>PySem.call f vs):=by
 intro w s₀ s₁ mg mb G Y fa o pm cd doc dV kV ho hd hcd hD hmg hg args vals as hpre hlay hrd hwl hlo
 obtain rfl:dV=.none:=Dflts.none hD hdf
 obtain rfl:kV=.none:=Dflts.noKw hD
 obtain ⟨a,vs,ns,rfl,rfl,hobj,hints,hlen⟩:=zCW hn hpre hwl
 refine enter_call (codeAny_mono (call w s₀ s₁ mg mb fa o pm cd doc a vs ns G Y ho (fd_plain hd) hcd hmg hobj hints hlen hg) fun r s' hq=>?_)
 obtain ⟨rfl,h2,h3,h4⟩:=hq
 exact ⟨.inl ⟨.bool true,.bool true,[],rfl,fun _=>rfl,.bool true,zBd l _,fun _=>⟨List.Pairwise.nil,fun _ hm=>(nomatch hm)⟩⟩,h2,h3,h4⟩
section
variable {prog:Program} {w:World} {A:Around} {E:Value->Shared->Prop} {s:Shared} {K:Frag}
end
end Att
namespace L2
open PySem PySem.Spec PyProof.Rows
theorem sZ:∀ {vs:List Value} {ns:List Int},IntsAre vs ns->dM (ns.map V.int) vs
 | _,_,.nil=>.nil
 | _,_,.cons n t h=>.cons ⟨t,rfl⟩ (sZ h)
def zKm (H:Hp):Prop:=∀ b,H b=none∨∃ o xs,H b=some (.frz o (.lst xs))
theorem zEr {P:Program} {w:World} {K:PySem.W.Frag} {mg mb:Str->Option Value} {CX:CXT} {k:Nat} {fa a:Addr} {fd:FuncData} {x:Str} {sp:Sp} {s₁:Shared} {vs:List Value} {ns:List Int}
  (KX:K.In s₁.heap) (hns:s₁.heap.Ns mainGlobals mg) (hb:s₁.heap.Ns builtinsNs mb) (hbb:∀ x:Str,x ≠ "__name__" -> mb x=bootBuiltins x) (hlim:s₁.heap.NoLimit) (hg:s₁.gens=#[])
  (ha:s₁.heap.get? a=some { cls:=.type "list", data:=.seq vs.toArray }) (hi:IntsAre vs ns) (hl:ns.length<=sizeLine) (hr:Room k callerA)
  (F:∀ base:Heap,K.In base->base.Ns mainGlobals mg->FnOk P w K mg base CX k fa fd [x] sp) (hbind:∀ (s:Shared) (u:Value),BindsTo s fd ⟨[u],[]⟩ [(x,u)])
  (hsp:∀ H:Hp,zKm H->SqL K H a (ns.map V.int)->sp [.ref a] H (fun v _=>v=.bl true) fun _ _ _=>False)
  (hCX:∀ H e s',CX [] H s₁ (fun _ _ _=>False) e s'->False):
  codeAny (model P w) callerA (.call (.ref fa) ⟨[.ref a],[]⟩) (fun r s'=>r=.ok (.ret (.bool true))/\OldK s₁.heap s'.heap/\s'.os=s₁.os/\AllBare s'.gens) s₁:=by
 have rv:=sZ hi
 have lenV:=hi.length
 have core:∀ H:Hp,zKm H->SqL K H a (ns.map V.int)->HOk P w H s₁.heap->(∀ b,H b≠none->b=a)->(H a≠none->K.lookup a=none)->
   codeAny (model P w) callerA (.call (.ref fa) ⟨[.ref a],[]⟩) (fun r s'=>r=.ok (.ret (.bool true))/\OldK s₁.heap s'.heap/\s'.os=s₁.os/\AllBare s'.gens) s₁:=by
  intro H hO hS hok hA hK
  have base_of:∀ {b:Addr} {o:Obj},s₁.heap.get? b=some o->H b=none->(zEg s₁.heap H).get? b=some o:=fun e n=>zDF e n
  have noA:∀ {b:Addr} {o:Obj} {es:Array DictEntry} {ep:Nat},s₁.heap.get? b=some o->o.data=.dict es ep->H b=none:=fun {b o es ep} e d=>by
   cases q:H b with
   | none=>rfl
   | some u=>
    have e':b=a:=hA b (by rw [q];simp)
    subst e'
    rw [ha] at e;cases e
    have d':Data.seq vs.toArray _=Data.dict es ep:=d
    cases d'
  have nsK:∀ {b:Addr} {m:Str->Option Value},s₁.heap.Ns b m->(zEg s₁.heap H).Ns b m:=fun {b m} ⟨o,es,ep,e,d,r⟩=>⟨o,es,ep,base_of e (noA e d),d,r⟩
  have hKb:K.In (zEg s₁.heap H):=fun b o e=>base_of (KX b o e) (by
   cases q:H b with
   | none=>rfl
   | some u=>
    have e':b=a:=hA b (by rw [q];simp)
    subst e'
    rw [hK (by rw [q];simp)] at e;cases e)
  have hM:Mod K mg (zEg s₁.heap H):=⟨hKb,nsK hns,⟨mb,nsK hb,hbb⟩,let ⟨mc,h1,h2⟩:=hlim;⟨mc,nsK h1,h2⟩⟩
  have e0:Env0 P w K mg (zEg s₁.heap H) callerA [] s₁ H:=⟨rfl,hM,fun b o e=>zFN e,Nat.le_of_eq (zAI _ _),trivial,fun b hb=>absurd (show b∈([]:List Addr) from hb) (by simp),hok,.of_eq hg⟩
  refine codeAny_mono ((F _ hKb (nsK hns)).run callerA [] s₁ H ⟨[.ref a],[]⟩ [.ref a] [.ref a] _ _ hr e0 (hbind s₁ (.ref a)) (.cons rfl .nil) (hsp H hO hS)) fun r s' h=>?_
  cases r with
  | error e=>exact (hCX H e s' h).elim
  | ok fl=>
   cases fl with
   | next=>exact False.elim h
   | brk=>exact False.elim h
   | cont=>exact False.elim h
   | ret u=>
    obtain ⟨v,H',os,bare,un,hok',r',q⟩:=h
    have q':v=.bl true:=q
    subst q'
    obtain rfl:u=Value.bool true:=r'
    refine ⟨rfl,OldK.of_keep fun b o e=>?_,os,bare⟩
    cases q:H b with
    | none=>exact un.keep b o e q (by intro z;exact absurd (show b∈([]:List Addr) from z) (by simp)) (by simp)
    | some u=>
     rcases hO b with z | ⟨ob,xs,z⟩
     ·rw [q] at z;cases z
     ·have z2:=un.frzs b ob _ z
      obtain ⟨e1,_⟩:=hok b _ z
      obtain ⟨e2,_⟩:=hok' b _ z2
      rw [e] at e1;cases e1
      exact e2
 cases hk:K.lookup a with
 | some o=>
  have e:=KX a o hk
  rw [ha] at e
  cases e
  refine core (fun _=>none) (fun _=>.inl rfl) (.inr ⟨_,vs.toArray,_,hk,rfl,rfl,rfl,by rw [List.size_toArray,lenV];exact hl,by simpa using rv⟩) (fun b u z=>by have z':(none:Option HO)=some u:=z;cases z') (fun b z=>absurd rfl z) fun z=>absurd rfl z
 | none=>
  refine core (fun b=>if b=a then some (.frz { cls:=.type "list", data:=.seq vs.toArray } (.lst (ns.map V.int))) else none) (fun b=>?_) (.inl (.inr ⟨{ cls:=.type "list", data:=.seq vs.toArray },if_pos rfl⟩)) (fun b u z=>?_) (fun b z=>?_) fun _=>hk
  ·by_cases hb:b=a
   ·exact .inr ⟨_,_,if_pos hb⟩
   ·exact .inl (if_neg hb)
  ·by_cases hb:b=a
   ·have z':=(if_pos hb).symm.trans z
    cases z'
    subst hb
    exact ⟨ha,by rw [List.length_map];exact hl,vs,_,rv,ha⟩
   ·have z':=(if_neg hb).symm.trans z
    cases z'
  ·by_cases hb:b=a
   ·exact hb
   ·exact absurd (if_neg hb) z
end L2
namespace L2
open PySem PySem.Spec PyProof.Rows
theorem zGR {l:PySem.W.OpenLaw} {n k:Nat} {q:Program} {loose:List Str} {XP:(Str->Option Value)->Heap->Prop} {YP:World->Heap->Prop} {d:DefRec} {K:Params->PySem.W.Frag} {CX:World->CXT} {sp:World->Sp} {x:Str}
  (hn:l.most=some n) (hn2:n<=sizeLine) (hdf:d.params.defaults=[]) (hr:Room k callerA)
  (hY:∀ (w:World) (h:Heap),YP w h->(K w.params).In h)
  (F:∀ (w:World) (mg:Str->Option Value) (fa:Addr) (h:Heap),(K w.params).In h->h.Ns mainGlobals mg->mg d.name=some (.ref fa)->
   ∃ fd:FuncData,(∀ (s:Shared) (u:Value),BindsTo s fd ⟨[u],[]⟩ [(x,u)])/\
    ∀ base:Heap,(K w.params).In base->base.Ns mainGlobals mg->FnOk l.prog w (K w.params) mg base (CX w) k fa fd [x] (sp w))
  (hsp:∀ (w:World) (H:Hp) (a:Addr) (ns:List Int),ns.length<=n->zKm H->SqL (K w.params) H a (ns.map V.int)->sp w [.ref a] H (fun v _=>v=.bl true) fun _ _ _=>False)
  (hCX:∀ (w:World) (H:Hp) (s:Shared) (e:Value) (s':Shared),CX w [] H s (fun _ _ _=>False) e s'->False):
  PySem.W.WalkO q loose XP YP l.row.toRowW d [] (fun f vs=>PySem.call f vs):=by
 refine Att.attach_call hn hdf fun w s₀ s₁ mg mb fa o pm cd doc a vs ns G Y ho hd hcd hmg hobj hints hlen hg=>?_
 have KX:=hY w _ Y
 obtain ⟨fd,hb,hF⟩:=F w mg fa _ KX G.T.g hmg
 exact zEr KX G.T.g G.T.b G.T.builtins G.T.nolimit hg hobj hints (Nat.le_trans hlen hn2) hr hF hb (fun H hO hS=>hsp w H a ns hlen hO hS) fun H e s'=>hCX w H s₁ e s'
end L2
namespace L2
open PySem PySem.Spec PyProof.Rows
def eS (s:Stmt):Arguments:=match s with
 | .FunctionDef _ a _ _ _ _ _ _ _ _=>a
 | _=>{ posonlyargs:=[],args:=[],vararg:=none,kwonlyargs:=[],kw_defaults:=[],kwarg:=none,defaults:=[] }
def cD (s:Stmt):List Stmt:=match s with
 | .FunctionDef _ _ b _ _ _ _ _ _ _=>b
 | _=>[]
def aF (s:Stmt):Scope:=match s with
 | .FunctionDef _ _ _ _ _ _ sc _ _ _=>sc
 | _=>{ kind:=.function,names:=[],isGenerator:=false,isCoroutine:=false }
structure Fun (K:PySem.W.Frag) (x qual:Str) (st:Stmt) (f:Addr) (fd:FuncData):Prop where
 ex:∃ (oc:Value) (od:Option Addr) (kV doc pm:Value) (an:Option Addr) (cdv ct:Value) (osl:Array (Option Value)),
  fd=PySem.W.fnOf x qual (eS st) (cD st) (aF st) .none kV doc pm an cdv ct/\K.lookup f=some ⟨oc,od,.func fd,osl⟩/\PySem.W.codeIn K cdv qual=true
 kp:PySem.W.keepIn K (.ref f)=true
section
variable {P:Program} {w:World} {K:PySem.W.Frag} {mg:Str->Option Value} {base:Heap}
theorem Fun.binds {x qual:Str} {st:Stmt} {f:Addr} {fd:FuncData} {ps:List Str} (F:Fun K x qual st f fd)
  (h:∀ (kV doc pm:Value) (an:Option Addr) (cdv ct:Value) (us:List Value),us.length=ps.length->bindArgs (PySem.W.fnOf x qual (eS st) (cD st) (aF st) .none kV doc pm an cdv ct) ⟨us,[]⟩=pure (ps.zip us)):lV K fd ps []:=by
 obtain ⟨oc,od,kV,doc,pm,an,cdv,ct,osl,rfl,lk,hcd⟩:=F.ex
 exact .all (h kV doc pm an cdv ct)
theorem pT {x qual:Str} {st:Stmt} {f:Addr} {oc:Value} {od an:Option Addr} {osl:Array (Option Value)} {kV doc pm cdv ct:Value} (l:K.lookup f=some ⟨oc,od,.func (PySem.W.fnOf x qual (eS st) (cD st) (aF st) .none kV doc pm an cdv ct),osl⟩)
  (c:PySem.W.codeIn K cdv qual=true) (k:PySem.W.keepIn K (.ref f)=true):Fun K x qual st f (PySem.W.fnOf x qual (eS st) (cD st) (aF st) .none kV doc pm an cdv ct):=⟨⟨oc,od,kV,doc,pm,an,cdv,ct,osl,rfl,l,c⟩,k⟩
end
section
variable {X:Cx}
theorem pv (i:Nat) {x:Str} {pos:Pos} (hN:X.N[i]?=some x:=by rfl) (hv:Vis X.env.scope x:=by first | exact Or.inl rfl | exact Or.inr (Or.inl rfl) | exact Or.inr (Or.inr rfl)) (hd:(x==("__debug__" : Str))=false:=by decide)
  (hcd:(x==("__classdict__" : Str))=false:=by decide):PE X (.Name x pos) (qJ i):=zHP hN hv hd hcd
end
def Same (H H':Hp):Prop:=∀ b o,H b=some o->H' b=some o
theorem Same.refl (H:Hp):Same H H:=fun _ _ h=>h
theorem Same.trans {H H1 H2:Hp} (a:Same H H1) (b:Same H1 H2):Same H H2:=fun c o h=>b c o (a c o h)
end L2
set_option maxHeartbeats 4000000
set_option exponentiation.threshold 20000
namespace L2
open PySem PySem.Spec PyProof.Rows
section
variable {X:Cx}
variable {tg:Expr}
end
end L2
namespace L2
open PySem PySem.Spec PyProof.Rows
end L2
namespace L2
open PySem PySem.Spec PyProof.Rows
def Ex2 (h:Heap) (e:Addr):Prop:=∃ o vs,h.get? e=some o/\o.data=.fields vs/\vs[2]?=some .none
def P2 (f:Obj->Obj):Prop:=∀ o vs,o.data=.fields vs->vs[2]?=some .none->(f o).isFreed=o.isFreed/\∃ ws,(f o).data=.fields ws/\ws[2]?=some .none
def Pr {α:Type}:Sem α->Prop
 | .pure _=>True
 | .raise _=>True
 | .unsupported _=>True
 | .finish _=>True
 | .rule _ k=>Pr (k ())
 | .at _ k=>Pr (k ())
 | .load _ _ k=>∀ o,Pr (k o)
 | .update _ _ f k=>P2 f/\Pr (k ())
 | .loadIfAlive _ k=>∀ o,Pr (k o)
 | .point _ k=>Pr (k ())
 | .alloc _ k=>∀ a,Pr (k a)
 | .fresh k=>∀ a,Pr (k a)
 | .ask k=>∀ a,Pr (k a)
 | .choose _ _ k=>∀ a,Pr (k a)
 | .handled _ k=>∀ a,Pr (k a)
 | .stack k=>∀ a,Pr (k a)
 | .thread k=>∀ a,Pr (k a)
 | _=>False
theorem zKz {α:Type} {M:Model} {Γ:PySem.Ctx} {e:Addr} {Q:α->Pos->Shared->Prop} {E:Value->Pos->Shared->Prop}:∀ (t:Sem α) (p:Pos) (s:Shared),Pr t->Ex2 s.heap e->Sem.wp M Γ t Q E p s->Sem.wp M Γ t (fun a p' s'=>Q a p' s'/\Ex2 s'.heap e) E p s:=by
 intro t
 induction t with
 | pure a=>intro p s _ x h;exact ⟨h,x⟩
 | raise a=>intro p s _ x h;exact h
 | unsupported a=>intro p s _ x h;exact h
 | finish a=>intro p s _ x h;exact h
 | rule a k ih=>intro p s h1 x h;exact ih () p s h1 x h
 | «at» a k ih=>intro p s h1 x h;exact ih () a s h1 x h
 | load a b k ih=>intro p s h1 x h;obtain ⟨o,e1,h⟩:=h;exact ⟨o,e1,ih o p s (h1 o) x h⟩
 | update a b f k ih=>
  intro p s h1 x h
  refine ⟨h.1,ih () p _ h1.2 ?_ h.2⟩
  obtain ⟨o,vs,g1,g2,g3⟩:=x
  by_cases z:a=e
  ·subst z
   obtain ⟨fr,ws,w1,w2⟩:=h1.1 o vs g2 g3
   exact ⟨f o,ws,Heap.get?_update_self _ g1 (Obj.isFreed_of_fields w1),w1,w2⟩
  ·exact ⟨o,vs,(Heap.get?_update_other _ _ z).trans g1,g2,g3⟩
 | alloc o k ih=>
  intro p s h1 x h
  refine ih _ p _ (h1 _) ?_ h
  obtain ⟨o',vs,g1,g2,g3⟩:=x
  exact ⟨o',vs,Heap.get?_push_of_some _ g1,g2,g3⟩
 | loadIfAlive a k ih=>intro p s h1 x h;exact ih _ p s (h1 _) x h
 | point a k ih=>intro p s h1 x h;exact ih () p s h1 x h
 | fresh k ih=>intro p s h1 x h;exact ih _ p _ (h1 _) x h
 | ask k ih=>intro p s h1 x h;exact ih _ p _ (h1 _) x h
 | choose a b k ih=>intro p s h1 x h;exact ⟨h.1,ih _ p _ (h1 _) x h.2⟩
 | handled a k ih=>intro p s h1 x h;exact ih _ p _ (h1 _) x h
 | stack k ih=>intro p s h1 x h;exact ih _ p _ (h1 _) x h
 | thread k ih=>intro p s h1 x h;exact ih _ p _ (h1 _) x h
 | _=>intro p s h1;exact h1.elim
theorem yG {α:Type} {M:Model} {A:Around} {t:Sem α} {e:Addr} {Q:α->Shared->Prop} {E:Value->Shared->Prop} {s:Shared} (h1:Pr t) (x:Ex2 s.heap e) (h:wpAny M A t Q E s):wpAny M A t (fun a s'=>Q a s'/\Ex2 s'.heap e) E s:=fun Γ p hΓ=>zKz t p s h1 x (h Γ p hΓ)
theorem Pr.bind {α β:Type} {f:α->Sem β} (hf:∀ a,Pr (f a)):∀ {t:Sem α},Pr t->Pr (t >>= f):=by
 intro t
 induction t with
 | pure a=>intro _;exact hf a
 | raise a=>intro _;trivial
 | unsupported a=>intro _;trivial
 | finish a=>intro _;trivial
 | rule a k ih=>intro h;exact ih () h
 | «at» a k ih=>intro h;exact ih () h
 | load a b k ih=>intro h o;exact ih o (h o)
 | update a b g k ih=>intro h;exact ⟨h.1,ih () h.2⟩
 | alloc o k ih=>intro h a;exact ih a (h a)
 | loadIfAlive a k ih=>intro h o;exact ih o (h o)
 | point a k ih=>intro h;exact ih () h
 | fresh k ih=>intro h o;exact ih o (h o)
 | ask k ih=>intro h o;exact ih o (h o)
 | choose a b k ih=>intro h o;exact ih o (h o)
 | handled a k ih=>intro h o;exact ih o (h o)
 | stack k ih=>intro h o;exact ih o (h o)
 | thread k ih=>intro h o;exact ih o (h o)
 | _=>intro h;exact h.elim
theorem Pr.map {α β:Type} {t:Sem α} {g:α->β} (h:Pr t):Pr (t >>= fun x=>pure (g x)):=Pr.bind (f:=fun x=>pure (g x)) (fun _=>True.intro) h
theorem Pr.stk:Pr PySem.stack:=fun _=>True.intro
theorem Pr.fieldsOf (v:Value):Pr (PySem.fieldsOf v):=by
 unfold PySem.fieldsOf
 cases v<;>first | exact True.intro | (refine Pr.bind (fun o=>?_) (t:=PySem.load _) (fun o=>True.intro);cases o.data<;>exact True.intro)
theorem Pr.field (v:Value) (i:Nat):Pr (PySem.field v i):=by
 unfold PySem.field
 refine Pr.bind (fun vs=>?_) (Pr.fieldsOf v)
 split<;>exact True.intro
theorem P2.set {i:Nat} {v:Value} (hi:i≠2):P2 (Obj.mapFields (·.setIfInBounds i v)):=by
 intro o vs e e2
 have q:(Obj.mapFields (·.setIfInBounds i v) o).data=.fields (vs.setIfInBounds i v):=by
  obtain ⟨c,d,dd,sl⟩:=o
  cases e
  rfl
 refine ⟨?_,_,q,by rw [Array.getElem?_setIfInBounds_ne hi];exact e2⟩
 rw [Obj.isFreed_of_fields q,Obj.isFreed_of_fields e]
theorem Pr.updateField {a:Addr} {i:Nat} {v:Value} (hi:i≠2):Pr (PySem.updateField a i v):=by
 unfold PySem.updateField
 refine Pr.bind (fun o=>?_) (t:=PySem.load _) (fun o=>True.intro)
 split
 ·split
  ·exact ⟨P2.set hi,True.intro⟩
  ·exact True.intro
 ·exact True.intro
theorem Pr.setField {w:Value} {i:Nat} {v:Value} (hi:i≠2):Pr (PySem.setField w i v):=by
 unfold PySem.setField
 cases w<;>first | exact True.intro | exact Pr.updateField hi
theorem Pr.newFields (ty:String) (vs:List Value):Pr (PySem.newFields ty vs):=by
 unfold PySem.newFields PySem.newObj
 dsimp only
 have k:Pr (PySem.newObjAsIs (.type ty) (.fields vs.toArray)):=by
  unfold PySem.newObjAsIs
  exact fun a=>True.intro
 split
 ·exact True.intro
 ·exact k
theorem Pr.newEntry {a b c d e:Value} {l:List Value}:Pr (EntryCells.newEntry a b c d e l):=Pr.newFields _ _
theorem Pr.setFlight (e:Value) (f:Option Addr):Pr (PySem.setFlight e f):=by
 unfold PySem.setFlight
 refine Pr.bind (fun tb=>?_) (Pr.field e 1)
 split
 ·exact Pr.setField (by decide)
 ·exact True.intro
theorem Pr.entryPlaceOf (f:Addr) (b:Bool):Pr (PySem.entryPlaceOf f b):=by
 unfold PySem.entryPlaceOf
 refine Pr.bind (fun acts=>?_) (t:=PySem.stack) (fun o=>True.intro)
 split<;>exact True.intro
theorem Pr.behindIsImport (env:Env) (o:List Env):Pr (PySem.behindIsImport env o):=by
 unfold PySem.behindIsImport
 split
 ·exact True.intro
 ·split
  ·exact True.intro
  ·exact Pr.map (Pr.field _ _)
theorem Pr.keptBack (env:Env) (b:Bool):∀ l,Pr (PySem.keptBack env b l)
 | []=>by
  unfold PySem.keptBack
  by_cases h:(env.scope.isGenerator || env.scope.isCoroutine)=true
  ·rw [if_pos h];exact True.intro
  ·rw [if_neg h]
   have q:Pr PySem.underTheClaimsCaller:=by unfold PySem.underTheClaimsCaller;exact Pr.map Pr.stk
   exact Pr.map q
 | _::_=>by unfold PySem.keptBack;exact True.intro
theorem Pr.readyFrames:∀ l,Pr (PySem.readyFrames l)
 | []=>by unfold PySem.readyFrames;exact True.intro
 | env::outer=>by
  unfold PySem.readyFrames
  cases env.frame with
  | none=>exact True.intro
  | some f=>
   refine Pr.bind (t:=PySem.load f) (fun o=>?_) fun _=>True.intro
   split
   ·exact True.intro
   ·refine Pr.bind (fun i=>Pr.bind (fun bk=>Pr.bind (t:=PySem.update f _) (fun _=>Pr.readyFrames outer) ⟨?_,True.intro⟩) (Pr.keptBack _ _ _)) (Pr.behindIsImport _ _)
    intro o vs e e2
    refine ⟨?_,vs,e,e2⟩
    rw [Obj.isFreed_of_fields e]
    exact Obj.isFreed_of_fields e
theorem Pr.frameOf (env:Env):Pr (PySem.frameOf env):=by
 unfold PySem.frameOf
 refine Pr.bind (fun l=>Pr.bind (fun o=>?_) ?_) (t:=PySem.frameEnvs) (by unfold PySem.frameEnvs;exact Pr.map Pr.stk)
 ·cases o<;>exact True.intro
 ·cases List.dropWhile (fun x=>x.frame != env.frame) l with
  | nil=>unfold PySem.frameObject;exact True.intro
  | cons a b=>unfold PySem.frameObject;exact Pr.map (Pr.readyFrames _)
theorem Pr.noteFrame (e:Value) (env:Env):Pr (PySem.noteFrame e env):=by
 unfold PySem.noteFrame
 cases env.frame with
 | none=>exact True.intro
 | some f=>
  have r:∀ head:Value,Pr (do PySem.setField e 1 (<-EntryCells.newEntry head (<-PySem.frameOf env) .none (rawInt f) .none (<-PySem.entryPlaceOf f (head != .none)))):=fun head=>
   Pr.bind (fun a=>Pr.bind (fun pl=>Pr.bind (fun b=>Pr.setField (by decide)) Pr.newEntry) (Pr.entryPlaceOf _ _)) (Pr.frameOf env)
  refine Pr.bind (fun head=>?_) (Pr.field e 1)
  dsimp only
  split
  ·refine Pr.bind (fun x=>?_) (Pr.field head 3)
   split
   ·exact True.intro
   ·exact Pr.bind (fun _=>r head) (Pr.setField (by decide))
  ·exact r head
theorem Pr.leaving (env:Env) (e:Value):Pr (PySem.leaving env e):=by
 unfold PySem.leaving
 exact Pr.bind (fun _=>Pr.setFlight e none) (Pr.noteFrame e env)
section
variable {M:Model} {A:Around} {s:Shared} {E:Value->Shared->Prop}
theorem zAq {base:Heap} {env:Env} {outer:List Env} {L e:Addr} {cls a0:Value} {Q:Unit->Shared->Prop}
  (hfr:A.frames=some (env::outer)) (hf:env.frame=some L) (hfl:Heap.FlyingW base (env::outer) e cls a0 s.heap) (x:Ex2 s.heap e)
  (hQ:∀ h',Heap.FlyingW base outer e cls a0 h'->s.heap.UpToSlots h'->Ex2 h' e->Q () { s with heap:=h' }):wpAny M A (leaving env (.ref e)) Q E s:=by
 refine wpAny_mono (yG (Q:=fun _ s'=>∃ h',s'={ s with heap:=h' }/\Heap.FlyingW base outer e cls a0 h'/\s.heap.UpToSlots h') (Pr.leaving _ _) x (wpAny_leaves_onW hfr hf hfl fun h' a b=>⟨h',rfl,a,b⟩)) (fun u s' q=>?_) fun _ _ z=>z
 obtain ⟨⟨h',rfl,a,b⟩,y⟩:=q
 exact hQ h' a b y
theorem uL {base h:Heap} {env:Env} {outer:List Env} {L e:Addr} {cls:Value} {args:List Value} {Q:Unit->Shared->Prop}
  (hfr:A.frames=some (env::outer)) (hf:env.frame=some L) (hkb:base.StaysIn h) (hl:h.FunFrames base (env::outer)) (hx:Heap.MadeExcOf h s.heap e cls args)
  (hQ:∀ h' t,Heap.FlyingW base outer e cls (.ref t) h'->s.heap.UpToSlots h'->Ex2 h' e->Q () { s with heap:=h' }):wpAny M A (leaving env (.ref e)) Q E s:=by
 have x:Ex2 s.heap e:=by
  obtain ⟨t,he,_,_⟩:=hx.there
  exact ⟨_,_,he,rfl,rfl⟩
 refine wpAny_mono (yG (Q:=fun _ s'=>∃ h' t,s'={ s with heap:=h' }/\Heap.FlyingW base outer e cls (.ref t) h'/\s.heap.UpToSlots h') (Pr.leaving _ _) x (wpAny_leaves_madeW hfr hf hkb hl hx fun h' t a _ _ b=>⟨h',t,rfl,a,b⟩)) (fun u s' q=>?_) fun _ _ z=>z
 obtain ⟨⟨h',t,rfl,a,b⟩,y⟩:=q
 exact hQ h' t a b y
end
end L2
namespace L2
open PySem PySem.Spec PyProof.Rows
section
variable {P:Program} {w:World} {H H':Hp} {h:Heap} {a:Addr} {o:HO}
theorem hJ.here (x:hJ P w H h a o):∃ ob,h.get? a=some ob:=by
 cases o with
 | lst xs=>obtain ⟨_,_,_,_,e⟩:=x;exact ⟨_,e⟩
 | tup xs=>obtain ⟨_,_,_,e⟩:=x;obtain ⟨ob,e,_⟩:=e;exact ⟨_,e⟩
 | dK kvs=>obtain ⟨_,_,_,_,e⟩:=x;obtain ⟨ob,_,_,e,_⟩:=e;exact ⟨_,e⟩
 | dT kvs=>obtain ⟨_,_,_,_,ob,_,_,e,_⟩:=x;exact ⟨_,e⟩
 | set S n=>obtain ⟨ob,_,_,_,e,_⟩:=x;exact ⟨_,e⟩
 | ins C dx fs=>obtain ⟨_,_,_,e,_⟩:=x;exact ⟨_,e⟩
 | own y=>exact x
 | xd fs=>obtain ⟨_,⟨ob,_,_,e,_⟩,_⟩:=x;exact ⟨_,e⟩
 | met f y=>exact ⟨_,x⟩
 | rng lo hi=>obtain ⟨_,_,_,e⟩:=x;exact ⟨_,e⟩
 | frz ob u=>exact ⟨_,x.1⟩
 | tbl ps=>exact ⟨_,x⟩
 | ext φ=>exact x.2.1
theorem HOk.none_of (ok:HOk P w H h) (e:h.get? a=none):H a=none:=by
 cases q:H a with
 | none=>rfl
 | some o=>
  obtain ⟨ob,z⟩:=(ok a o q).here
  rw [e] at z;cases z
end
structure Fly (P:Program) (w:World) (l:List Env) (H H':Hp) (s:Shared) (ea:Addr) (cls:Value) (s':Shared):Prop where
 os:s'.os=s.os
 bare:AllBare s'.gens
 un:Un (frs l) [] H H' s.heap s'.heap
 hok:HOk P w H' s'.heap
 ne:H' ea=none
 new:s.heap.get? ea=none
 fly:∃ B a0,Heap.FlyingW B l ea cls a0 s'.heap/\(∀ b o,s'.heap.get? b=some o->((∃ o',s.heap.get? b=some o')∨H' b≠none)->b∉frs l->B.get? b=some o)
 ctx:Ex2 s'.heap ea
def CX1 (P:Program) (w:World):CXT:=fun outer H s E e s'=>∃ ea cls H',e=.ref ea/\Fly P w outer H H' s ea cls s'/\E cls none H'
structure Own (X:Cx):Prop where
 stk:X.stack=X.env::X.outer
 fr:X.env.frame=some X.env.locals
 ex:X.ex=[]
section
variable {X:Cx} {pins:List (Addr×Obj)} {σ:St} {H H':Hp} {s s':Shared} {ea:Addr} {cls:Value}
theorem yV (O:Own X):frs X.stack=X.env.locals::X.fs:=by
 rw [O.stk]
 show List.filterMap _ (_::_)=_
 rw [List.filterMap_cons,O.fr]
 rfl
theorem Inv.there0 (I:Inv X pins σ H s) (O:Own X) {b:Addr} {o:Obj} (e:X.s₀.heap.get? b=some o):∃ o',s.heap.get? b=some o':=I.base.there b o e (by rw [O.ex];simp)
theorem Inv.ne0 (I:Inv X pins σ H s) {b:Addr} {o:Obj} (e:X.s₀.heap.get? b=some o):b≠X.env.locals:=Nat.ne_of_lt (Nat.lt_of_lt_of_le (Heap.lt_size e) I.ok.above)
theorem Fly.leave (I:Inv X pins σ H s) (O:Own X) (F:Fly X.prog X.w X.stack H H' s ea cls s') {h':Heap} {B:Heap} {a0:Value}
  (hf:Heap.FlyingW B X.stack ea cls a0 s'.heap) (cov:∀ b o,s'.heap.get? b=some o->((∃ o',s.heap.get? b=some o')∨H' b≠none)->b∉frs X.stack->B.get? b=some o)
  (hf':Heap.FlyingW B X.outer ea cls a0 h') (up:s'.heap.UpToSlots h') (x':Ex2 h' ea):Fly X.prog X.w X.outer X.H₀ H' X.s₀ ea cls { s' with heap:=h' }:=by
 have fst:frs X.stack=X.env.locals::X.fs:=yV O
 have nin:∀ {b:Addr},b≠X.env.locals->b∉X.fs->b∉frs X.stack:=fun h1 h2=>by rw [fst];simp [h1,h2]
 have trk:∀ {b:Addr},H' b≠none->b∉frs X.stack:=fun {b} hb hm=>by
  have h1:=I.stkFree b hm
  obtain ⟨_,o,ho,_⟩:=I.stack.mem hm
  exact hb (F.un.free b o ho h1 (by simp))
 have keepB:∀ {b:Addr} {o:Obj},s'.heap.get? b=some o->((∃ o',s.heap.get? b=some o')∨H' b≠none)->b∉frs X.stack->h'.get? b=some o:=fun e1 e2 e3=>hf'.1 _ _ (cov _ _ e1 e2 e3)
 have slotOf:∀ {b:Addr} {o:Obj},b∈frs X.stack->s'.heap.get? b=some o->∃ sl,h'.get? b=some { o with slots:=sl }:=fun {b o} hm e=>by
  obtain ⟨_,o',ho',hn⟩:=hf.2.2.1.mem hm
  rw [e] at ho';cases ho'
  exact up b o e hn
 refine ⟨F.os.trans I.os,F.bare,⟨?_,?_,?_,?_,?_,?_,?_⟩,?_,F.ne,?_,⟨B,a0,hf',?_⟩,x'⟩
 ·intro b o e n hb hx
  have e1:=I.base.keep b o e n hb (by rw [O.ex];simp)
  have n1:=I.base.free b o e n (by rw [O.ex];simp)
  have hs:b∉frs X.stack:=nin (I.ne0 e) hb
  exact keepB (F.un.keep b o e1 n1 hs (by simp)) (.inl ⟨o,e1⟩) hs
 ·intro b o e n hb hx
  obtain ⟨sl,e1⟩:=I.base.slot b o e n hb (by rw [O.ex];simp)
  have n1:=I.base.free b o e n (by rw [O.ex];simp)
  have hs:b∈frs X.stack:=by rw [fst];exact List.mem_cons_of_mem _ hb
  obtain ⟨sl2,e2⟩:=F.un.slot b _ e1 n1 hs (by simp)
  obtain ⟨sl3,e3⟩:=slotOf hs e2
  exact ⟨sl3,e3⟩
 ·intro b o e n hx
  obtain ⟨o1,e1⟩:=I.there0 O e
  exact F.un.free b o1 e1 (I.base.free b o e n (by rw [O.ex];simp)) (by simp)
 ·intro b o e hx
  obtain ⟨o1,e1⟩:=I.there0 O e
  obtain ⟨o2,e2⟩:=F.un.there b o1 e1 (by simp)
  by_cases hs:b∈frs X.stack
  ·obtain ⟨sl,e3⟩:=slotOf hs e2
   exact ⟨_,e3⟩
  ·exact ⟨o2,keepB e2 (.inl ⟨o1,e1⟩) hs⟩
 ·exact fun b xs e=>F.un.tups b xs (I.base.tups b xs e)
 ·exact fun b o u e=>F.un.frzs b o u (I.base.frzs b o u e)
 ·intro b ps e
  obtain ⟨m1,e1⟩:=I.base.tbls b ps e
  obtain ⟨m2,e2⟩:=F.un.tbls b _ e1
  exact ⟨m1++m2,by rw [e2,Array.append_assoc]⟩
 ·intro a o e
  refine (F.hok a o e).stay (fun b u hb z=>?_) (fun b z=>z) (fun b xs z=>z)
  have hb':H' b≠none:=by
   rcases hb with rfl | hb
   ·rw [e];simp
   ·rw [hb];simp
  exact keepB z (.inr hb') (trk hb')
 ·show X.s₀.heap.get? ea=none
  cases q:X.s₀.heap.get? ea with
  | none=>rfl
  | some o=>
   obtain ⟨o1,e1⟩:=I.there0 O q
   rw [F.new] at e1;cases e1
 ·intro b o e c hb
  have c':(∃ o',s.heap.get? b=some o')∨H' b≠none:=by
   rcases c with ⟨o',c⟩ | c
   ·exact .inl (I.there0 O c)
   ·exact .inr c
  have hs:b∉frs X.stack:=by
   rcases c with ⟨o',c⟩ | c
   ·exact nin (I.ne0 c) hb
   ·exact trk c
  have ex:∃ o2,s'.heap.get? b=some o2:=by
   rcases c' with ⟨o',c1⟩ | c1
   ·exact F.un.there b o' c1 (by simp)
   ·cases q:H' b with
    | none=>exact absurd q c1
    | some u=>exact (F.hok b u q).here
  obtain ⟨o2,e2⟩:=ex
  have z:=keepB e2 c' hs
  have z':h'.get? b=some o:=e
  rw [z] at z';cases z'
  exact cov b o e2 c' hs
end
end L2
namespace L2
open PySem PySem.Spec PyProof.Rows
section
variable {X:Cx} {pins:List (Addr×Obj)} {σ:St} {H H':Hp} {s s':Shared} {ea:Addr} {cls:Value}
theorem zHS (l:List Env):∀ env∈l,∀ b,env.frame=some b->b∈frs l:=fun env he b hb=>List.mem_filterMap.mpr ⟨env,he,hb⟩
theorem Fly.made (I:Inv X pins σ H s) (O:Own X) {vs:List Value} (hx:Heap.MadeExcOf s.heap s'.heap ea cls vs) (hos:s'.os=s.os) (hg:AllBare s'.gens) {h':Heap} {t:Addr}
  (hf':Heap.FlyingW (PySem.W.hideAll s.heap (frs X.stack)) X.outer ea cls (.ref t) h') (up:s'.heap.UpToSlots h') (x':Ex2 h' ea):Fly X.prog X.w X.outer X.H₀ H X.s₀ ea cls { s' with heap:=h' }:=by
 have fst:frs X.stack=X.env.locals::X.fs:=yV O
 have nin:∀ {b:Addr},b≠X.env.locals->b∉X.fs->b∉frs X.stack:=fun h1 h2=>by rw [fst];simp [h1,h2]
 have trk:∀ {b:Addr},H b≠none->b∉frs X.stack:=fun {b} hb hm=>hb (I.stkFree b hm)
 have keepB:∀ {b:Addr} {o:Obj},s.heap.get? b=some o->b∉frs X.stack->h'.get? b=some o:=fun e1 e3=>hf'.1 _ _ (PySem.W.hideAll_get _ e1 e3)
 have slotOf:∀ {b:Addr} {o:Obj},b∈frs X.stack->s.heap.get? b=some o->∃ sl,h'.get? b=some { o with slots:=sl }:=fun {b o} hm e=>by
  obtain ⟨_,o',ho',hn⟩:=I.stack.mem hm
  rw [e] at ho';cases ho'
  exact up b o (hx.keeps b o e) hn
 refine ⟨hos.trans I.os,hg,⟨?_,?_,?_,?_,?_,?_,?_⟩,?_,?_,?_,⟨_,_,hf',?_⟩,x'⟩
 ·intro b o e n hb hx'
  exact keepB (I.base.keep b o e n hb (by rw [O.ex];simp)) (nin (I.ne0 e) hb)
 ·intro b o e n hb hx'
  obtain ⟨sl,e1⟩:=I.base.slot b o e n hb (by rw [O.ex];simp)
  have hs:b∈frs X.stack:=by rw [fst];exact List.mem_cons_of_mem _ hb
  obtain ⟨sl3,e3⟩:=slotOf hs e1
  exact ⟨sl3,e3⟩
 ·exact fun b o e n hx'=>I.base.free b o e n (by rw [O.ex];simp)
 ·intro b o e hx'
  obtain ⟨o1,e1⟩:=I.there0 O e
  by_cases hs:b∈frs X.stack
  ·obtain ⟨sl,e3⟩:=slotOf hs e1
   exact ⟨_,e3⟩
  ·exact ⟨o1,keepB e1 hs⟩
 ·exact fun b xs e=>I.base.tups b xs e
 ·exact fun b o u e=>I.base.frzs b o u e
 ·exact fun b ps e=>I.base.tbls b ps e
 ·intro a o e
  refine (I.hok a o e).stay (fun b u hb z=>?_) (fun b z=>z) (fun b xs z=>z)
  have hb':H b≠none:=by
   rcases hb with rfl | hb
   ·rw [e];simp
   ·rw [hb];simp
  exact keepB z (trk hb')
 ·exact I.hok.none_of hx.new
 ·show X.s₀.heap.get? ea=none
  cases q:X.s₀.heap.get? ea with
  | none=>rfl
  | some o=>
   obtain ⟨o1,e1⟩:=I.there0 O q
   rw [hx.new] at e1;cases e1
 ·intro b o e c hb
  have hs:b∉frs X.stack:=by
   rcases c with ⟨o',c⟩ | c
   ·exact nin (I.ne0 c) hb
   ·exact trk c
  have ex:∃ o2,s.heap.get? b=some o2:=by
   rcases c with ⟨o',c1⟩ | c1
   ·exact I.there0 O c1
   ·cases q:H b with
    | none=>exact absurd q c1
    | some u=>exact (I.hok b u q).here
  obtain ⟨o2,e2⟩:=ex
  have z:=keepB e2 hs
  have z':h'.get? b=some o:=e
  rw [z] at z';cases z'
  exact PySem.W.hideAll_get _ e2 hs
end
section
variable {CX:CXT} {P:Program} {w:World} {K:PySem.W.Frag} {mg:Str->Option Value} {base:Heap} {N:List Str} {qual:Str} {scope:Scope} {f:Addr} {cd:Value} {A:Around} {outer:List Env} {s₀:Shared} {H₀:Hp} {E:XK}
theorem zEy:Own (zAb CX P w K mg base N qual scope f cd A outer s₀ H₀ E):=⟨rfl,rfl,rfl⟩
theorem zFJ {E':XK} (h:∀ c H',E' c none H'->E c none H'):pU (CX1 P w) (zAb (CX1 P w) P w K mg base N qual scope f cd A outer s₀ H₀ E) E':=by
 intro pins σ H s e s' I hc
 obtain ⟨ea,cls,H',rfl,F,q⟩:=hc
 obtain ⟨B,a0,hf,cov⟩:=F.fly
 have O:Own (zAb (CX1 P w) P w K mg base N qual scope f cd A outer s₀ H₀ E):=zEy
 exact zAq (I.ok.frames.trans (congrArg some O.stk)) O.fr hf F.ctx fun h' hf' up x'=>⟨ea,cls,H',rfl,F.leave I O hf cov hf' up x',h _ _ q⟩
theorem nH {pins:List (Addr×Obj)} {σ:St} {H:Hp} {s s':Shared} {ea:Addr} {cls:Value} {vs:List Value} (I:Inv (zAb (CX1 P w) P w K mg base N qual scope f cd A outer s₀ H₀ E) pins σ H s)
  (hx:Heap.MadeExcOf s.heap s'.heap ea cls vs) (hos:s'.os=s.os) (hg:AllBare s'.gens) (q:E cls none H):(zAb (CX1 P w) P w K mg base N qual scope f cd A outer s₀ H₀ E).xe (.ref ea) s':=by
 have O:Own (zAb (CX1 P w) P w K mg base N qual scope f cd A outer s₀ H₀ E):=zEy
 have hst:=O.stk
 exact uL (base:=PySem.W.hideAll s.heap (frs (zAb (CX1 P w) P w K mg base N qual scope f cd A outer s₀ H₀ E).stack)) (h:=s.heap) (I.ok.frames.trans (congrArg some O.stk)) O.fr (fun b o z=>PySem.W.of_hideAll _ z)
  (PySem.W.funFrames_hide (I.stack) (zHS _)) hx fun h' t hf' up x'=>⟨ea,cls,H,rfl,Fly.made I O hx hos hg hf' up x',q⟩
end
structure Err (K:PySem.W.Frag) (mg:Str->Option Value) (x:Str) (C:Addr):Prop where
 own:∀ h:Heap,K.In h->∃ bm newId B initId,OwnCls x C bm newId mg h/\ExcBaseFacts B newId initId bm
end L2
namespace L3
open PySem
inductive D where
 | non | bl (b:Bool) | int (i:Int) | str (x:Str) | tup (ds:List D) | lst (ds:List D)
inductive Res (α:Type) where
 | ok (a:α) | err (c:Str) | no
def Res.bind {α β:Type} (x:Res α) (f:α->Res β):Res β:=match x with
 | .ok a=>f a
 | .err c=>.err c
 | .no=>.no
theorem Res.ok_bind {α β:Type} {a:α} {f:α->Res β}:(Res.ok a).bind f=f a:=rfl
inductive Sl where
 | un | val (d:D) | own (ds:List D) | exc (c:Str) | tab (T:List (Str×Str)) | ins (c:Str) (fs:List (Str×D)) | obj (ao:Option Addr) (c lf:Str) (fs:List (Str×D)) (ds:List D)
abbrev Rho:=List Sl
inductive Rt where
 | v (d:D) | f (ds:List D) | w (a:Addr) (d:D) (c lf:Str) (fs:List (Str×D)) (ds:List D)
def Rt.d:Rt->D
 | .v d=>d
 | .f ds=>.lst ds
 | .w _ d _ _ _ _=>d
inductive Fl where
 | nx (ρ:Rho) | ret (r:Rt) | brk (ρ:Rho) | ctn (ρ:Rho)
abbrev Ev:=Rho->Res D
abbrev Fv:=Rho->Res (List D)
abbrev Tv:=Rho->Res Bool
abbrev Sv:=Rho->Res Fl
abbrev Mir:=List D->Res Rt
mutual
def eqD:D->D->Bool
 | .non,.non=>true
 | .bl a,.bl b=>a==b
 | .bl a,.int b=>(if a then 1 else 0)==b
 | .int a,.bl b=>a==(if b then 1 else 0)
 | .int a,.int b=>a==b
 | .str a,.str b=>a==b
 | .tup ds,.tup es=>zBX ds es
 | .lst ds,.lst es=>zBX ds es
 | _,_=>false
def zBX:List D->List D->Bool
 | [],[]=>true
 | d::ds,e::es=>eqD d e && zBX ds es
 | _,_=>false
end
mutual
def dep:D->Nat
 | .tup ds=>depS ds+1
 | .lst ds=>depS ds+1
 | _=>0
def depS:List D->Nat
 | []=>0
 | d::ds=>max (dep d) (depS ds)
end
mutual
def noL:D->Bool
 | .tup ds=>noLs ds
 | .lst _=>false
 | _=>true
def noLs:List D->Bool
 | []=>true
 | d::ds=>noL d && noLs ds
end
theorem nR:∀ {ds:List D} {d:D},d∈ds->dep d<=depS ds
 | e::ds,d,h=>by
  rw [depS]
  rcases List.mem_cons.mp h with rfl | h
  ·exact Nat.le_max_left ..
  ·exact Nat.le_trans (nR h) (Nat.le_max_right ..)
theorem zDw:∀ {ds:List D},noLs ds=true ↔ ∀ d∈ds,noL d=true
 | []=>by simp [noLs]
 | d::ds=>by rw [noLs,Bool.and_eq_true,zDw];simp
theorem iQ:∀ (ds es:List D),zBX ds es=((List.range (min ds.length es.length)).all (fun j=>eqD (ds.getD j .non) (es.getD j .non)) && ds.length==es.length)
 | [],[]=>rfl
 | [],e::es=>by simp [zBX]
 | d::ds,[]=>by simp [zBX]
 | d::ds,e::es=>by
  rw [zBX,iQ ds es]
  have h:min (d::ds).length (e::es).length=min ds.length es.length+1:=by simp only [List.length_cons];omega
  rw [h,List.range_succ_eq_map]
  simp [List.all_map,Function.comp_def,Bool.and_assoc]
mutual
theorem sA:∀ d:D,eqD d d=true
 | .non=>rfl
 | .bl b=>by simp [eqD]
 | .int i=>by simp [eqD]
 | .str x=>by simp [eqD]
 | .tup ds=>by rw [eqD];exact oF ds
 | .lst ds=>by rw [eqD];exact oF ds
theorem oF:∀ ds:List D,zBX ds ds=true
 | []=>rfl
 | d::ds=>by rw [zBX,sA d,oF ds];rfl
end
def nb (i:Int):Nat:=i.natAbs.log2+1
theorem zFW (i:Int):i.natAbs < 2^nb i:=Nat.lt_log2_self
theorem zKw {i:Int} {m:Nat} (h:i.natAbs < 2^m) (hm:0 < m):nb i<=m:=by
 unfold nb
 by_cases h0:i.natAbs=0
 ·rw [h0];exact hm
 ·exact (Nat.log2_lt h0).mpr h
def jV (i j:Int):Bool:=(decide (-(2^64) < i) && decide (i < 2^64)) || (decide (-(2^64) < j) && decide (j < 2^64)) || decide (nb i+nb j<=134217728)
def mT (j:Int):Bool:=decide (j≠0) && decide (nb j<=9000)
def oQ (i j:Int):Bool:=decide (0<=j) && decide ((nb i:Int) * j<=2^27)
abbrev Op2:=D->D->Res D
def qK:Op2
 | .int i,.int j=>.ok (.int (i+j))
 | .tup a,.tup b=>if a.length+b.length<=16777216 then .ok (.tup (a++b)) else .no
 | _,_=>.no
def zLP:Op2
 | .int i,.int j=>.ok (.int (i+j))
 | _,_=>.no
def zLQ:Op2
 | .int i,.int j=>.ok (.int (i - j))
 | _,_=>.no
def zHs:Op2
 | .int i,.int j=>if jV i j=true then .ok (.int (i * j)) else .no
 | _,_=>.no
def nI:Op2
 | .int i,.int j=>if mT j=true then .ok (.int (i.fdiv j)) else .no
 | _,_=>.no
def kY:Op2
 | .int i,.int j=>if j≠0 then .ok (.int (i.fmod j)) else .no
 | _,_=>.no
def zX:Op2
 | .int i,.int j=>if oQ i j=true then .ok (.int (i^j.toNat)) else .no
 | _,_=>.no
def oEq (x y:D):Res D:=if dep x<=50 then .ok (.bl (eqD x y)) else .no
def oNe (x y:D):Res D:=if dep x<=50 then .ok (.bl (!eqD x y)) else .no
def oLt:Op2
 | .int i,.int j=>.ok (.bl (decide (i < j)))
 | _,_=>.no
def oLe:Op2
 | .int i,.int j=>.ok (.bl (decide (i<=j)))
 | _,_=>.no
def oGt:Op2
 | .int i,.int j=>.ok (.bl (decide (j < i)))
 | _,_=>.no
def oGe:Op2
 | .int i,.int j=>.ok (.bl (decide (j<=i)))
 | _,_=>.no
def atD (ds:List D) (i:Int):Option D:=if 0<=i then ds[i.toNat]? else if 0<=(ds.length:Int)+i then ds[((ds.length:Int)+i).toNat]? else none
def ofO {α:Type}:Option α->Res α
 | some a=>.ok a
 | none=>.no
def oIx:Op2
 | .tup ds,.int i=>ofO (atD ds i)
 | .lst ds,.int i=>ofO (atD ds i)
 | _,_=>.no
def oIn:Op2
 | d,.lst ds=>if depS ds<=50 then .ok (.bl (ds.any fun e=>eqD e d)) else .no
 | d,.tup ds=>if depS ds<=50 then .ok (.bl (ds.any fun e=>eqD e d)) else .no
 | _,_=>.no
def zJx:D->Res D
 | .int i=>.ok (.int (-i))
 | _=>.no
def zKu:D->Res D
 | .bl b=>.ok (.bl (!b))
 | _=>.no
def aH (i:Nat) (ρ:Rho):Res D:=match ρ[i]? with
 | some (.val d)=>.ok d
 | _=>.no
def eC (d:D) (_ρ:Rho):Res D:=.ok d
def eOp (o:Op2) (a b:Ev) (ρ:Rho):Res D:=(a ρ).bind fun x=>(b ρ).bind fun y=>o x y
def eUn (o:D->Res D) (a:Ev) (ρ:Rho):Res D:=(a ρ).bind o
def zFZ (a b:Ev) (ρ:Rho):Res D:=(a ρ).bind fun x=>match x with
 | .bl c=>if c=true then b ρ else .ok (.bl false)
 | _=>.no
def eOr (a b:Ev) (ρ:Rho):Res D:=(a ρ).bind fun x=>match x with
 | .bl c=>if c=true then .ok (.bl true) else b ρ
 | _=>.no
def eIf (t:Tv) (a b:Ev) (ρ:Rho):Res D:=(t ρ).bind fun c=>if c=true then a ρ else b ρ
def aNil (_ρ:Rho):Res (List D):=.ok []
def aA (e:Ev) (r:Fv) (ρ:Rho):Res (List D):=(e ρ).bind fun d=>(r ρ).bind fun ds=>.ok (d::ds)
def zDg (a:Fv) (ρ:Rho):Res D:=(a ρ).bind fun ds=>if ds.length<=16777216 then .ok (.tup ds) else .no
def bF (m:Mir) (a:Fv) (ρ:Rho):Res D:=(a ρ).bind fun ds=>(m ds).bind fun r=>.ok r.d
def mS:List D->Res D
 | [.lst ds]=>.ok (.int ds.length)
 | [.tup ds]=>.ok (.int ds.length)
 | _=>.no
def zLu:List D->Res D
 | [.int i]=>.ok (.int (if i < 0 then -i else i))
 | _=>.no
def zMf:List D->Res D
 | [.int i,.int j]=>.ok (.int (if j > i then j else i))
 | _=>.no
def zHU:List D->Res D
 | [.int i,.int j]=>.ok (.int (if j < i then j else i))
 | _=>.no
def zEP:List D->Res D
 | [.lst ds]=>.ok (.tup ds)
 | [.tup ds]=>.ok (.tup ds)
 | _=>.no
def eB (b:List D->Res D) (a:Fv) (ρ:Rho):Res D:=(a ρ).bind b
def tyN:D->String
 | .non => "NoneType" | .bl _ => "bool" | .int _ => "int" | .str _ => "str" | .tup _ => "tuple" | .lst _ => "list"
def isT (T:String) (d:D):Bool:=tyN d==T || (T == "int" && tyN d == "bool")
def zDa (T:String) (a:Ev) (ρ:Rho):Res D:=(a ρ).bind fun d=>.ok (.bl (isT T d))
def isNon:D->Bool
 | .non=>true
 | _=>false
def zHg (a:Ev) (ρ:Rho):Res D:=(a ρ).bind fun d=>.ok (.bl (isNon d))
def Sl.frz:Sl->Sl
 | .own ds=>.val (.lst ds)
 | s=>s
def zJz (e:Ev) (ρ:Rho):Res D:=(e (ρ.map Sl.frz)).bind fun d=>if noL d=true then .ok d else .no
def pS (a:Fv) (ρ:Rho):Res (List D):=(a ρ).bind fun ds=>if ds.length<=16777216 then .ok ds else .no
def nL (m:Mir) (a:Fv) (ρ:Rho):Res (List D):=(a ρ).bind fun ds=>(m ds).bind fun r=>match r with
 | .f ds=>.ok ds
 | _=>.no
def zFK (a:Fv) (ρ:Rho):Res (List D):=(a ρ).bind fun ds=>match ds with
 | [.lst ds]=>.ok ds
 | [.tup ds]=>.ok ds
 | _=>.no
def zJG (a b:Ev) (ρ:Rho):Res (List D):=(a ρ).bind fun x=>(b ρ).bind fun y=>match x,y with
 | .lst ds,.lst es=>if ds.length+es.length<=16777216 then .ok (ds++es) else .no
 | _,_=>.no
def eF (f:Fv) (ρ:Rho):Res D:=(f ρ).bind fun ds=>.ok (.lst ds)
def zJK (f:Fv) (ρ:Rho):Res (List D):=(f (ρ.map Sl.frz)).bind fun ds=>if noLs ds=true then .ok ds else .no
def cut (n:Nat) (i:Option Int) (d:Nat):Nat:=match i with
 | none=>d
 | some i=>if 0<=i then min i.toNat n else ((n:Int)+i).toNat
def cV (ds:List D) (lo hi:Option Int):List D:=(ds.drop (cut ds.length lo 0)).take (cut ds.length hi ds.length - cut ds.length lo 0)
abbrev Ov:=Rho->Res (Option Int)
def oN (_ρ:Rho):Res (Option Int):=.ok none
def oS (e:Ev) (ρ:Rho):Res (Option Int):=(e ρ).bind fun d=>match d with
 | .int i=>.ok (some i)
 | _=>.no
def fSl (a:Ev) (lo hi:Ov) (ρ:Rho):Res (List D):=(a ρ).bind fun x=>(lo ρ).bind fun l=>(hi ρ).bind fun h=>match x with
 | .lst ds=>.ok (cV ds l h)
 | _=>.no
def zMh (a:Ev) (lo hi:Ov) (ρ:Rho):Res D:=(a ρ).bind fun x=>(lo ρ).bind fun l=>(hi ρ).bind fun h=>match x with
 | .tup ds=>if (cV ds l h).length < ds.length then .ok (.tup (cV ds l h)) else .no
 | _=>.no
def cM (e:Ev) (ρ:Rho):Res Bool:=(e ρ).bind fun d=>match d with
 | .bl b=>.ok b
 | _=>.no
def lO (t:Tv) (ρ:Rho):Res Bool:=(t ρ).bind fun b=>.ok (!b)
def zBA (t u:Tv) (ρ:Rho):Res Bool:=(t ρ).bind fun b=>if b=true then u ρ else .ok false
def tL (t u:Tv) (ρ:Rho):Res Bool:=(t ρ).bind fun b=>if b=true then .ok true else u ρ
def sNext (ρ:Rho):Res Fl:=.ok (.nx ρ)
def bI (a b:Sv) (ρ:Rho):Res Fl:=(a ρ).bind fun f=>match f with
 | .nx ρ'=>b ρ'
 | f=>.ok f
def sIf (t:Tv) (a b:Sv) (ρ:Rho):Res Fl:=(t ρ).bind fun c=>if c=true then a ρ else b ρ
def fV (i:Nat) (e:Ev) (ρ:Rho):Res Fl:=(e ρ).bind fun d=>.ok (.nx (ρ.set i (.val d)))
def zCy (i:Nat) (f:Fv) (ρ:Rho):Res Fl:=(f ρ).bind fun ds=>.ok (.nx (ρ.set i (.own ds)))
def zCJ (e:Ev) (ρ:Rho):Res Fl:=(e ρ).bind fun _=>.ok (.nx ρ)
def iS (e:Ev) (ρ:Rho):Res Fl:=(e (ρ.map Sl.frz)).bind fun d=>.ok (.ret (.v d))
def zGs (f:Fv) (ρ:Rho):Res Fl:=(f (ρ.map Sl.frz)).bind fun ds=>.ok (.ret (.f ds))
def jO (i:Nat) (ρ:Rho):Res Fl:=match ρ[i]? with
 | some (.own ds)=>.ok (.ret (.f ds))
 | _=>.no
def sRetN (_ρ:Rho):Res Fl:=.ok (.ret (.v .non))
def iG (c:Str) (a:Fv) (ρ:Rho):Res Fl:=(a ρ).bind fun ds=>if ds.length<=16777216 then .err c else .no
def sNo (_ρ:Rho):Res Fl:=.no
def zEL (i:Nat) (e:Ev) (ρ:Rho):Res Fl:=match ρ[i]? with
 | some (.own ds)=>(e ρ).bind fun d=>if ds.length < 16777216 then .ok (.nx (ρ.set i (.own (ds++[d])))) else .no
 | _=>.no
def zIt (i:Nat) (e:Fv) (ρ:Rho):Res Fl:=match ρ[i]? with
 | some (.own ds)=>(e ρ).bind fun es=>if ds.length+es.length<=16777216 then .ok (.nx (ρ.set i (.own (ds++es)))) else .no
 | _=>.no
def zKY (i:Nat) (o:Op2) (e:Ev) (ρ:Rho):Res Fl:=match ρ[i]? with
 | some (.val x)=>(e ρ).bind fun y=>(o x y).bind fun d=>.ok (.nx (ρ.set i (.val d)))
 | _=>.no
def sFrz (s:Sv) (ρ:Rho):Res Fl:=s (ρ.map Sl.frz)
def frzAt (i:Nat) (ρ:Rho):Rho:=match ρ[i]? with
 | some (.own ds)=>ρ.set i (.val (.lst ds))
 | _=>ρ
def sFrzAt (i:Nat) (s:Sv) (ρ:Rho):Res Fl:=s (frzAt i ρ)
def noErr {α:Type}:Res α->Res α
 | .err _=>.no
 | r=>r
def zMe (anc:List (Str×List Str)) (i:Nat) (cs:List Str) (ρ:Rho):Res D:=match ρ[i]? with
 | some (.exc c)=>(match anc.lookup c with
  | some l=>.ok (.bl (cs.any fun x=>l.contains x))
  | none=>.no)
 | _=>.no
abbrev Gv:=D->Rho->Res Rho
def gName (i:Nat) (d:D) (ρ:Rho):Res Rho:=.ok (ρ.set i (.val d))
def zDf (gs:List D->Rho->Res Rho) (d:D) (ρ:Rho):Res Rho:=match d with
 | .tup ds=>gs ds ρ
 | _=>.no
def zDc (ds:List D) (ρ:Rho):Res Rho:=match ds with
 | []=>.ok ρ
 | _=>.no
def kG (g:Gv) (r:List D->Rho->Res Rho) (ds:List D) (ρ:Rho):Res Rho:=match ds with
 | d::ds=>(g d ρ).bind fun ρ'=>r ds ρ'
 | []=>.no
def zMb (g:Gv) (f:Ev) (ρ:Rho):Res Fl:=(f ρ).bind fun d=>(g d ρ).bind fun ρ'=>.ok (.nx ρ')
def loop (g:Gv) (b:Sv):List D->Rho->Res Fl
 | [],ρ=>.ok (.nx ρ)
 | d::ds,ρ=>(g d ρ).bind fun ρ1=>(b ρ1).bind fun f=>match f with
  | .nx ρ2=>loop g b ds ρ2
  | .ctn ρ2=>loop g b ds ρ2
  | .brk ρ2=>.ok (.nx ρ2)
  | .ret r=>.ok (.ret r)
def zAh (it:Fv) (g:Gv) (b:Sv) (ρ:Rho):Res Fl:=(it ρ).bind fun ds=>loop g b ds ρ
def zDJ (e:Ev) (ρ:Rho):Res (List D):=(e ρ).bind fun d=>match d with
 | .lst ds=>.ok ds
 | .tup ds=>.ok ds
 | _=>.no
def rng (lo:Int) (n:Nat) (c:Int):List D:=(List.range n).map fun (i:Nat)=>D.int (lo+(i:Int) * c)
def sP (a:Fv) (ρ:Rho):Res (List D):=(a ρ).bind fun ds=>match ds with
 | [.int j]=>if -(2^62)<=j/\j < 2^62 then .ok (rng 0 j.toNat 1) else .no
 | _=>.no
def wh (t:Tv) (b:Sv):Nat->Rho->Res Fl
 | 0,_=>.no
 | n+1,ρ=>(t ρ).bind fun c=>if c=true then (b ρ).bind fun f=>match f with
   | .nx ρ2=>wh t b n ρ2
   | .ctn ρ2=>wh t b n ρ2
   | .brk ρ2=>.ok (.nx ρ2)
   | .ret r=>.ok (.ret r)
  else .ok (.nx ρ)
open Classical in
def cZ (t:Tv) (b:Sv) (ρ:Rho):Res Fl:=if h:∃ n,wh t b n ρ≠.no then wh t b h.choose ρ else .no
theorem sF {t:Tv} {b:Sv}:∀ {n:Nat} {ρ:Rho} {k:Nat},wh t b n ρ≠.no->n<=k->wh t b k ρ=wh t b n ρ
 | 0,ρ,k,h,_=>absurd rfl h
 | n+1,ρ,0,h,l=>absurd l (by omega)
 | n+1,ρ,k+1,h,l=>by
  rw [wh,wh]
  rw [wh] at h
  cases ht:t ρ with
  | no=>rfl
  | err c=>rfl
  | ok c=>
   rw [ht] at h
   simp only [Res.bind] at h ⊢
   cases c with
   | false=>rfl
   | true=>
    simp only [if_true] at h ⊢
    cases hb:b ρ with
    | no=>rfl
    | err c=>rfl
    | ok f=>
     rw [hb] at h
     cases f with
     | nx ρ2=>exact sF h (by omega)
     | ctn ρ2=>exact sF h (by omega)
     | brk ρ2=>rfl
     | ret r=>rfl
theorem eP {t:Tv} {b:Sv} {n:Nat} {ρ:Rho} (h:wh t b n ρ≠.no):cZ t b ρ=wh t b n ρ:=by
 have hx:∃ n,wh t b n ρ≠.no:=⟨n,h⟩
 unfold cZ
 rw [dif_pos hx]
 rcases Nat.le_total n hx.choose with l | l
 ·exact sF h l
 ·exact (sF hx.choose_spec l).symm
theorem jL {t:Tv} {b:Sv} {ρ:Rho} (h:cZ t b ρ≠.no):∃ n,cZ t b ρ=wh t b n ρ:=by
 unfold cZ at h ⊢
 split
 ·exact ⟨_,rfl⟩
 ·rename_i hx;rw [dif_neg hx] at h;exact absurd rfl h
theorem vB {t:Tv} {b:Sv} {ρ:Rho}:cZ t b ρ=((t ρ).bind fun c=>if c=true then (b ρ).bind fun f=>match f with
   | .nx ρ2=>cZ t b ρ2
   | .ctn ρ2=>cZ t b ρ2
   | .brk ρ2=>.ok (.nx ρ2)
   | .ret r=>.ok (.ret r)
  else .ok (.nx ρ)):=by
 have key:∀ n,wh t b (n+1) ρ≠.no->wh t b (n+1) ρ=((t ρ).bind fun c=>if c=true then (b ρ).bind fun f=>match f with
   | .nx ρ2=>cZ t b ρ2
   | .ctn ρ2=>cZ t b ρ2
   | .brk ρ2=>.ok (.nx ρ2)
   | .ret r=>.ok (.ret r)
  else .ok (.nx ρ)):=by
  intro n h
  rw [wh] at h ⊢
  cases ht:t ρ with
  | no=>rfl
  | err c=>rfl
  | ok c=>
   rw [ht] at h
   simp only [Res.bind] at h ⊢
   cases c with
   | false=>rfl
   | true=>
    simp only [if_true] at h ⊢
    cases hb:b ρ with
    | no=>rfl
    | err c=>rfl
    | ok f=>
     rw [hb] at h
     cases f with
     | nx ρ2=>exact (eP h).symm
     | ctn ρ2=>exact (eP h).symm
     | brk ρ2=>rfl
     | ret r=>rfl
 by_cases h:cZ t b ρ=.no
 ·rw [h]
  cases ht:t ρ with
  | no=>rfl
  | err c=>
   exfalso
   have q:wh t b 1 ρ=.err c:=by rw [wh,ht];rfl
   have:=eP (t:=t) (b:=b) (ρ:=ρ) (n:=1) (by rw [q];exact fun z=>by cases z)
   rw [h,q] at this;cases this
  | ok c=>
   simp only [Res.bind]
   cases c with
   | false=>
    exfalso
    have q:wh t b 1 ρ=.ok (.nx ρ):=by rw [wh,ht];rfl
    have:=eP (t:=t) (b:=b) (ρ:=ρ) (n:=1) (by rw [q];exact fun z=>by cases z)
    rw [h,q] at this;cases this
   | true=>
    simp only [if_true]
    cases hb:b ρ with
    | no=>rfl
    | err c=>
     exfalso
     have q:wh t b 1 ρ=.err c:=by rw [wh,ht];simp [Res.bind,hb]
     have:=eP (t:=t) (b:=b) (ρ:=ρ) (n:=1) (by rw [q];exact fun z=>by cases z)
     rw [h,q] at this;cases this
    | ok f=>
     have again:∀ ρ2,(f=.nx ρ2∨f=.ctn ρ2)->cZ t b ρ2=.no:=by
      intro ρ2 hf
      by_cases h2:cZ t b ρ2=.no
      ·exact h2
      ·exfalso
       obtain ⟨n,e⟩:=jL h2
       have q:wh t b (n+1) ρ=wh t b n ρ2:=by
        rw [wh,ht]
        simp only [Res.bind,if_true,hb]
        rcases hf with rfl | rfl<;>rfl
       have h3:wh t b (n+1) ρ≠.no:=by rw [q,<-e];exact h2
       have:=eP h3
       rw [h] at this
       exact h3 this.symm
     cases f with
     | nx ρ2=>exact (again ρ2 (.inl rfl)).symm
     | ctn ρ2=>exact (again ρ2 (.inr rfl)).symm
     | brk ρ2=>
      exfalso
      have q:wh t b 1 ρ=.ok (.nx ρ2):=by rw [wh,ht];simp [Res.bind,hb]
      have:=eP (t:=t) (b:=b) (ρ:=ρ) (n:=1) (by rw [q];exact fun z=>by cases z)
      rw [h,q] at this;cases this
     | ret r=>
      exfalso
      have q:wh t b 1 ρ=.ok (.ret r):=by rw [wh,ht];simp [Res.bind,hb]
      have:=eP (t:=t) (b:=b) (ρ:=ρ) (n:=1) (by rw [q];exact fun z=>by cases z)
      rw [h,q] at this;cases this
 ·obtain ⟨n,e⟩:=jL h
  cases n with
  | zero=>rw [e] at h;exact absurd rfl h
  | succ n=>rw [e];exact key n (by rw [<-e];exact h)
def zLo (f:Fv) (g:Ev) (ρ:Rho):Res (List D):=(f ρ).bind fun ds=>(g ρ).bind fun d=>match d with
 | .int k=>if 0<=k/\k < 2^62/\ds.length * k.toNat<=16777216 then .ok (List.replicate k.toNat ds).flatten else .no
 | _=>.no
def zN (_ρ:Rho):Res Bool:=.ok true
def fN (t:Tv) (f:Ev) (ρ:Rho):List D->Res (List D)
 | []=>.ok []
 | d::ds=>(noErr (t (ρ++[.val d]))).bind fun c=>if c=true then (noErr (f (ρ++[.val d]))).bind fun e=>(fN t f ρ ds).bind fun es=>.ok (e::es) else fN t f ρ ds
def zP (it:Fv) (t:Tv) (f:Ev) (ρ:Rho):Res (List D):=(it ρ).bind fun ds=>if ds.length<=16777215 then fN t f ρ ds else .no
def start (n:Nat) (ds:List D):Rho:=ds.map Sl.val++List.replicate (n - ds.length) .un
def fin:Fl->Res Rt
 | .nx _=>.ok (.v .non)
 | .ret r=>.ok r
 | .brk _=>.no
 | .ctn _=>.no
def fn (p n:Nat) (b:Sv) (ds:List D):Res Rt:=if ds.length=p then (b (start n ds)).bind fin else .no
def zDP:D->Option (List D)
 | .lst ds=>some ds
 | .tup ds=>some ds
 | _=>none
def jM:List D->List D->List D
 | a::r,b::q=>.tup [a,b]::jM r q
 | _,_=>[]
def zJo (a:Fv) (ρ:Rho):Res (List D):=(a ρ).bind fun ds=>match ds with
 | [x,y]=>match zDP x,zDP y with
  | some xs,some ys=>.ok (jM xs ys)
  | _,_=>.no
 | _=>.no
def iB:Nat->List D->List D
 | _,[]=>[]
 | n,d::r=>.tup [.int n,d]::iB (n+1) r
def zDB (e:Ev) (ρ:Rho):Res (List D):=(e ρ).bind fun d=>match d with
 | .lst ds=>.ok (iB 0 ds)
 | .tup ds=>.ok (iB 0 ds)
 | _=>.no
def dU (f:Ev) (ρ:Rho):List D->Res (List D)
 | []=>.ok []
 | .tup [a,b]::ds=>(noErr (f (ρ++[.val a,.val b]))).bind fun e=>(dU f ρ ds).bind fun es=>.ok (e::es)
 | _::_=>.no
def qH (it:Fv) (f:Ev) (ρ:Rho):Res (List D):=(it ρ).bind fun ds=>if ds.length<=16777215 then dU f ρ ds else .no
def slQ (l h:Option Int):D->Res D
 | .lst ds=>.ok (.lst (cV ds l h))
 | .tup ds=>.ok (.tup (cV ds l h))
 | _=>.no
def zJu (a:Ev) (lo hi:Ov) (ρ:Rho):Res D:=(a ρ).bind fun x=>(lo ρ).bind fun l=>(hi ρ).bind fun h=>slQ l h x
def zFk:D->Option Str
 | .str x=>some x
 | .int i=>if i.natAbs.log2 < 1920 then some (toString i) else none
 | _=>none
def sQ:Str->List D->Option Str
 | a,[]=>some a
 | a,d::r=>match zFk d with
  | some x=>if x.length<=sizeLine/\(a++x).length<=sizeLine then sQ (a++x) r else none
  | none=>none
def zIz (ds:List D):Res D:=match sQ Str.empty ds with
 | some x=>.ok (.str x)
 | none=>.no
def zHa (fs:Fv) (ρ:Rho):Res D:=(fs ρ).bind zIz
def mM:List D->Option (List Str)
 | []=>some []
 | .str x::r=>(mM r).map (x::·)
 | _::_=>none
def uO (sep:Str):D->Res D
 | .lst ds=>match mM ds with
  | some l=>if l.foldl (fun n x=>n+x.length+sep.length) 0<=sizeLine then .ok (.str (Builtin.Str.glued sep l)) else .no
  | none=>.no
 | _=>.no
def zGT (sep:Str) (e:Ev) (ρ:Rho):Res D:=(e ρ).bind (uO sep)
def iY:List D->Option (List Int)
 | []=>some []
 | .int i::ds=>match iY ds with
  | some ns=>some (i::ns)
  | none=>none
 | _::_=>none
def zHc:List D->Res D
 | [.lst ds]=>(match iY ds with
  | some ns=>.ok (.int ns.sum)
  | none=>.no)
 | [.tup ds]=>(match iY ds with
  | some ns=>.ok (.int ns.sum)
  | none=>.no)
 | _=>.no
def zCc:Op2
 | .str x,.str y=>if x.length+y.length<=sizeLine then .ok (.str (x++y)) else .no
 | _,_=>.no
def zLq (x:Str) (n:Int):Str:=if n < 1 then Str.empty else if (n==1 || x.length==0)=true then x else ⟨(List.replicate n.toNat x.cps).foldl (·++·) #[]⟩
def zLM:Op2
 | .str x,.int n=>if -(2^63)<=n/\n < 2^63/\x.length * n.toNat<=sizeLine then .ok (.str (zLq x n)) else .no
 | _,_=>.no
def chO:Option Nat->Res D
 | some c=>.ok (.str ⟨#[c]⟩)
 | none=>.no
def uZ:Op2
 | .str z,.int i=>if 0<=i/\i < 2^63 then chO z.cps[i.toNat]? else .no
 | _,_=>.no
def inS (i j:Str):Bool:=!(Builtin.Str.occurrences j i 0 j.length 1).isEmpty
def zDH:Op2
 | .str i,.str j=>.ok (.bl (inS i j))
 | _,_=>.no
def mO:List D->Res D
 | [.str x]=>if x.length<=sizeLine then .ok (.int x.length) else .no
 | _=>.no
def zBh:List D->Res D
 | [.str x]=>if x.length<=640 then (match intText? x with | some n=>.ok (.int n) | none=>.no) else .no
 | _=>.no
def mC:List D->Option (List Bool)
 | []=>some []
 | .bl b::r=>(mC r).map (b::·)
 | _=>none
def zHZ:List D->Res D
 | [.lst ds]=>(match mC ds with | some bs=>.ok (.bl (bs.all id)) | none=>.no)
 | _=>.no
def zIg (o:Op2) (h:Ev) (ρ:Rho) (y:D):D->Res D
 | .bl true=>(h ρ).bind fun w=>o y w
 | .bl false=>.ok (.bl false)
 | _=>.no
def xQ (o o':Op2) (f g h:Ev) (ρ:Rho):Res D:=(f ρ).bind fun x=>(g ρ).bind fun y=>(o x y).bind (zIg o' h ρ y)
def slS (l u:Option Int):D->Res D
 | .str x=>if x.length<=sizeLine then .ok (.str (Txt.slice x l u)) else .no
 | _=>.no
def zJL (a:Ev) (lo hi:Ov) (ρ:Rho):Res D:=(a ρ).bind fun x=>(lo ρ).bind fun l=>(hi ρ).bind fun h=>slS l h x
def zKK:D->Res (List D)
 | .str x=>.ok (x.cps.toList.map fun c=>.str ⟨#[c]⟩)
 | _=>.no
def zKf (f:Ev) (ρ:Rho):Res (List D):=(f ρ).bind zKK
def lR (T:List (Str×Str)):D->Res D
 | .str x=>.ok (.bl (!(T.lookup x).isSome))
 | _=>.no
def qY:Int->List Int->Int
 | a,[]=>a
 | a,b::r=>qY (if b > a then b else a) r
def wS:List D->Res D
 | [.lst ds,.int d]=>(match iY ds with | some (a::r)=>.ok (.int (qY a r)) | some []=>.ok (.int d) | none=>.no)
 | _=>.no
end L3
namespace L3
open PySem
end L3
namespace L3
open PySem
end L3
namespace L3
open PySem
end L3
namespace L3
open PySem
abbrev Tri:=D×List D×List D
end L3
namespace L3
open PySem
end L3
namespace L3
open PySem
end L3
namespace L3
open PySem
end L3
namespace L3
open PySem
end L3
namespace L3
open PySem
end L3
namespace L3
open PySem
end L3
namespace L3
open PySem
end L3
namespace L3
open PySem
end L3
namespace L3
open PySem
def zIi:Sl->Bool
 | .val _=>true
 | .un=>true
 | _=>false
theorem zAB {α β:Type} {r:Res α} {k:α->Res β} {y:β} (h:(noErr r).bind k=.ok y):∃ a,r=.ok a/\k a=.ok y:=by
 cases r with
 | ok a=>exact ⟨a,rfl,h⟩
 | err c=>cases h
 | no=>cases h
end L3
namespace L3
open PySem
def zJP:Option D->Res D
 | some d=>.ok d
 | none=>.no
def zGZ (i:Nat) (c f:Str) (ρ:Rho):Res D:=match ρ[i]? with
 | some (.ins c' fs)=>if c'=c then zJP (fs.lookup f) else .no
 | _=>.no
inductive Vo where
 | v (d:D) | o (c:Str) (fs:List (Str×D))
def yK:List (Str×Ev)->Rho->Res (List (Str×D))
 | [],_=>.ok []
 | (f,e)::r,ρ=>(noErr (e ρ)).bind fun d=>(yK r ρ).bind fun l=>.ok ((f,d)::l)
theorem tZ {f:Str} {e:Ev} {r:List (Str×Ev)} {ρ:Rho} {l:List (Str×D)} (h:yK ((f,e)::r) ρ=.ok l):∃ d l',e ρ=.ok d/\yK r ρ=.ok l'/\l=(f,d)::l':=by
 unfold yK at h
 obtain ⟨d,e1,h⟩:=zAB h
 cases z:yK r ρ with
 | no=>rw [z] at h;cases h
 | err c=>rw [z] at h;cases h
 | ok l'=>
  rw [z] at h
  cases h
  exact ⟨d,l',e1,rfl,rfl⟩
theorem zAy {ρ:Rho} {c:Str}:∀ {r:List (Str×Ev)},yK r ρ≠.err c
 | [],h=>by cases h
 | (f,e)::r,h=>by
  unfold yK at h
  cases z:e ρ with
  | no=>rw [z] at h;cases h
  | err c'=>rw [z] at h;cases h
  | ok d=>
   rw [z] at h
   have h':(yK r ρ).bind (fun l=>.ok ((f,d)::l))=.err c:=h
   cases z':yK r ρ with
   | no=>rw [z'] at h';cases h'
   | ok l=>rw [z'] at h';cases h'
   | err c'=>exact zAy z'
end L3
namespace L3
open PySem
def nob:Sl->Bool
 | .obj _ _ _ _ _=>false
 | _=>true
def kW:Nat->Rho->Bool
 | _,[]=>true
 | 0,_::r=>r.all nob
 | n+1,s::r=>nob s && kW n r
def zHj (f:Str) (d:D):List (Str×D)->List (Str×D)
 | []=>[(f,d)]
 | (g,x)::r=>if g=f then (g,d)::r else (g,x)::zHj f d r
def mrg (lf:Str) (ds:List D) (fs:List (Str×D)):List (Str×D):=fs.map fun q=>if q.1=lf then (q.1,.lst ds) else q
def cB (i:Nat) (c f:Str) (ρ:Rho):Res D:=match ρ[i]? with
 | some (.obj _ c' lf fs _)=>if c'=c/\f≠lf then zJP (fs.lookup f) else .no
 | _=>.no
def zKW (i:Nat) (c f:Str) (ρ:Rho) (r:Res D):Option Sl->Res Fl
 | some (.obj ao c' lf fs ds)=>if c'=c/\f=lf/\ds.length < 100000/\kW i ρ=true then r.bind fun d=>.ok (.nx (ρ.set i (.obj ao c' lf fs (ds++[d])))) else .no
 | _=>.no
def zBu (i:Nat) (c f:Str) (e:Ev) (ρ:Rho):Res Fl:=zKW i c f ρ (e (ρ.set i .un)) ρ[i]?
theorem lP:∀ {i:Nat} {ρ:Rho} {j:Nat} {s:Sl},kW i ρ=true->j≠i->ρ[j]?=some s->nob s=true
 | 0,_::r,0,_,_,n,_=>absurd rfl n
 | 0,_::r,j+1,s,h,_,e=>List.all_eq_true.mp h s (List.mem_of_getElem? (by rw [List.getElem?_cons_succ] at e;exact e))
 | i+1,t::r,0,s,h,_,e=>by
  rw [List.getElem?_cons_zero] at e;cases e
  unfold kW at h
  exact (Bool.and_eq_true _ _ ▸ h).1
 | i+1,t::r,j+1,s,h,n,e=>by
  rw [List.getElem?_cons_succ] at e
  unfold kW at h
  exact lP (Bool.and_eq_true _ _ ▸ h).2 (fun z=>n (by rw [z])) e
 | _,[],_,_,_,_,e=>by simp at e
def zGP (d:D):Option Sl->Res Fl
 | some (.obj (some a) c lf fs ds)=>.ok (.ret (.w a d c lf fs ds))
 | _=>.no
def zID (ρ:Rho) (d:D):Res Fl:=zGP d ρ[0]?
def nD (e:Ev) (ρ:Rho):Res Fl:=(e ρ).bind (zID ρ)
abbrev gH:=Addr->List (Str×D)->List D->List D->Res (D×List (Str×D)×List D)
def zKp (a:Addr) (c lf:Str) (d:D):Option Sl->Res (D×List (Str×D)×List D)
 | some (.obj (some a') c' lf' fs ds)=>if a'=a/\c'=c/\lf'=lf then .ok (d,fs,ds) else .no
 | _=>.no
def zLx (a:Addr) (c lf:Str):Res Fl->Res (D×List (Str×D)×List D)
 | .ok (.ret (.w a' d c' lf' fs ds))=>if a'=a/\c'=c/\lf'=lf then .ok (d,fs,ds) else .no
 | .ok (.nx ρ)=>zKp a c lf .non ρ[0]?
 | .err e=>.err e
 | _=>.no
def fnX (c lf:Str) (np nl:Nat) (b:Sv):gH:=fun a fs ds args=>if args.length=np then zLx a c lf (b (.obj (some a) c lf fs ds::L3.start (nl - 1) args)) else .no
open Classical in
def uni {α:Type} (k:Addr->Res α):Res α:=if ∀ a,k a=k 0 then k 0 else .no
def atA {α:Type} (k:Addr->Res α):Option Addr->Res α
 | some a=>k a
 | none=>uni k
theorem zFg {α:Type} {k:Addr->Res α} {r:Res α} (h:∀ a,k a=r):uni k=r:=by
 unfold uni
 rw [if_pos fun a=>(h a).trans (h 0).symm]
 exact h 0
theorem zIq {α:Type} {k:Addr->Res α} {r:Res α} (h:∀ a,k a=r):∀ {ao:Option Addr},atA k ao=r
 | some a=>h a
 | none=>zFg h
theorem zJg {α:Type} {k:Addr->Res α} {a:Addr}:∀ {ao:Option Addr},(∀ b,ao=some b->a=b)->atA k ao=k a∨atA k ao=.no
 | some b,h=>.inl (by rw [h b rfl];rfl)
 | none,_=>by
  by_cases w:∀ a,k a=k 0
  ·exact .inl (zFg fun b=>(w b).trans (w a).symm)
  ·exact .inr (if_neg w)
def zJC (i:Nat) (c lf m:Str) (kX:gH) (ρ:Rho) (as:Res (List D)):Option Sl->Res (D×Rho)
 | some (.obj ao c' lf' f ds)=>if c'=c/\lf'=lf/\kW i ρ=true/\(f.lookup m).isNone=true/\m≠lf then as.bind fun args=>(atA (fun a=>kX a f ds args) ao).bind fun r=>.ok (r.1,ρ.set i (.obj ao c lf r.2.1 r.2.2)) else .no
 | _=>.no
def bD (i:Nat) (c lf m:Str) (kX:gH) (fs:Fv) (ρ:Rho):Res (D×Rho):=zJC i c lf m kX ρ (fs ρ) ρ[i]?
abbrev Mv:=Rho->Res (D×Rho)
def iE (F:Mv) (ρ:Rho):Res Fl:=(F ρ).bind fun r=>.ok (.nx r.2)
def pD (j:Nat) (F:Mv) (ρ:Rho):Res Fl:=(F ρ).bind fun r=>.ok (.nx (r.2.set j (.val r.1)))
def mH (F:Mv) (ρ:Rho):Res Fl:=(F ρ).bind fun r=>zID r.2 r.1
def ifM (a b:Sv) (r:D×Rho):Res Fl:=match r.1 with
 | .bl true=>a r.2
 | .bl false=>b r.2
 | _=>.no
abbrev TMv:=Rho->Res (Bool×Rho)
def blM (r:D×Rho):Res (Bool×Rho):=match r.1 with
 | .bl b=>.ok (b,r.2)
 | _=>.no
def tmV (F:Mv) (ρ:Rho):Res (Bool×Rho):=(F ρ).bind blM
def tmD (t:Tv) (ρ:Rho):Res (Bool×Rho):=(t ρ).bind fun b=>.ok (b,ρ)
def lK (T:TMv) (ρ:Rho):Res (Bool×Rho):=(T ρ).bind fun r=>.ok (!r.1,r.2)
def qR (T U:TMv) (ρ:Rho):Res (Bool×Rho):=(T ρ).bind fun r=>if r.1=true then U r.2 else .ok (false,r.2)
def zAL (T:TMv) (a b:Sv) (ρ:Rho):Res Fl:=(T ρ).bind fun r=>if r.1=true then a r.2 else b r.2
def whB (k:Rho->Res Fl):Res Fl->Res Fl
 | .ok (.nx ρ)=>k ρ
 | .ok (.ctn ρ)=>k ρ
 | .ok (.brk ρ)=>.ok (.nx ρ)
 | .ok (.ret r)=>.ok (.ret r)
 | .err c=>.err c
 | .no=>.no
def whT (T:TMv) (s:Sv):Nat->Rho->Res Fl
 | 0,_=>.no
 | n+1,ρ=>(T ρ).bind fun r=>if r.1=true then whB (whT T s n) (s r.2) else .ok (.nx r.2)
def fnM (m:Mir) (F:Mv) (ρ:Rho):Res (D×Rho):=(F ρ).bind fun r=>(m [r.1]).bind fun x=>.ok (x.d,r.2)
def zHD (j:Nat) (r:D×Rho):Option Sl->Res Fl
 | some (.own ds)=>if ds.length < 16777216 then .ok (.nx (r.2.set j (.own (ds++[r.1])))) else .no
 | _=>.no
def zMd (j:Nat) (r:Res (D×Rho)):Option Sl->Res Fl
 | some (.own _)=>r.bind fun r=>zHD j r r.2[j]?
 | _=>.no
def lX (j:Nat) (F:Mv) (ρ:Rho):Res Fl:=zMd j (F ρ) ρ[j]?
def zLz (i:Nat) (c f:Str) (ρ:Rho) (n:Int) (ao:Option Addr) (lf:Str) (fs:List (Str×D)) (ds:List D):D->Res Fl
 | .int k=>if f≠lf/\fs.length < 900/\kW i ρ=true then .ok (.nx (ρ.set i (.obj ao c lf (zHj f (.int (n+k)) fs) ds))) else .no
 | _=>.no
def zKa (i:Nat) (c f:Str) (ρ:Rho) (r:Res D) (ao:Option Addr) (lf:Str) (fs:List (Str×D)) (ds:List D):Option D->Res Fl
 | some (.int n)=>r.bind (zLz i c f ρ n ao lf fs ds)
 | _=>.no
def zLg (i:Nat) (c f:Str) (ρ:Rho) (r:Res D):Option Sl->Res Fl
 | some (.obj ao c' lf fs ds)=>if c'=c/\f≠lf then zKa i c f ρ r ao lf fs ds (fs.lookup f) else .no
 | _=>.no
def wQ (i:Nat) (c f:Str) (e:Ev) (ρ:Rho):Res Fl:=zLg i c f ρ (e ρ) ρ[i]?
end L3
namespace L3
open PySem
def zLa:Option Ev->Rho->Res D
 | some e,ρ=>e ρ
 | none,_=>.ok .non
def xG (np nl:Nat) (e0:Option Ev) (fs:List (Str×Ev)) (lf:Str) (ds:List D):Res (List (Str×D)):=if ds.length=np then (zLa e0 (.un::L3.start (nl - 1) ds)).bind fun _=>(yK fs (.un::L3.start (nl - 1) ds)).bind fun l=>.ok (l++[(lf,.non)]) else .no
def zCk (i:Nat) (c lf:Str) (kI:List D->Res (List (Str×D))) (a:Fv) (ρ:Rho):Res Fl:=(noErr (a ρ)).bind fun ds=>(noErr (kI ds)).bind fun fs=>.ok (.nx (ρ.set i (.obj none c lf fs [])))
def zJJ (i:Nat) (ρ:Rho):Option Sl->Option Rho
 | some (.obj _ c lf fs ds)=>if kW i ρ=true/\ds.length < 100000 then some (ρ.set i (.ins c (mrg lf ds fs))) else none
 | _=>none
def zLU (f:Ev) (ρ:Rho):Option Rho->Res (D×Rho)
 | some ρ'=>(f ρ').bind fun d=>if noL d=true then .ok (d,ρ) else .no
 | none=>.no
def zIV (i:Nat) (f:Ev) (ρ:Rho):Res (D×Rho):=zLU f ρ (zJJ i ρ ρ[i]?)
def zDQ (b:Sv) (ρ:Rho):Res Fl:=noErr (b ρ)
def prO (c lf:Str):Option Sl->Option Sl->Res (D×List D)
 | some (.obj _ c' lf' _ ds),some (.val d)=>if c'=c/\lf'=lf/\ds.length < 100000 then .ok (d,ds) else .no
 | _,_=>.no
def zKZ (c lf:Str) (i j:Nat):Res Fl->Res (D×List D)
 | .ok (.nx ρ)=>prO c lf ρ[i]? ρ[j]?
 | _=>.no
def kPr (c lf:Str) (np nl i j:Nat) (sv:Sv) (ds:List D):Res (D×List D):=if ds.length=np then zKZ c lf i j (sv (L3.start nl ds)) else .no
def mPr (k:List D->Res (D×List D)) (ds:List D):Res Rt:=(noErr (k ds)).bind fun q=>.ok (.v (.tup [q.1,.lst q.2]))
def zAf (fo:Nat) (m:List D->Res (D×List D)) (a:Fv) (cmp:Tv) (rest:Sv) (ρ:Rho):Res Fl:=(noErr (a ρ)).bind fun ds=>(noErr (m ds)).bind fun q=>if q.2.length < 100000/\fo < ρ.length then (noErr (cmp (ρ.set fo (.val (.tup [q.1,.lst q.2]))))).bind fun c=>if c=true then .no else rest (ρ.set fo .un) else .no
def swD (x:Str):D->D->Res D
 | .str y,.int i=>.ok (.bl (Txt.startswith3 x y i))
 | _,_=>.no
def swF (g h:Ev) (ρ:Rho):D->Res D
 | .str x=>(g ρ).bind fun y=>(h ρ).bind fun i=>swD x y i
 | _=>.no
def eSw (f g h:Ev) (ρ:Rho):Res D:=(f ρ).bind (swF g h ρ)
end L3
namespace Fq
end Fq
namespace Fr
open L3 PySem Fq
theorem xS {g:Gv} {b:Sv} (P:Nat->Rho->Prop):∀ (ds:List D) (k:Nat) (ρ:Rho),P k ρ->
  (∀ i d ρ,ds[i]?=some d->P (k+i) ρ->∃ ρ1 ρ2,g d ρ=.ok ρ1/\(b ρ1=.ok (.nx ρ2)∨b ρ1=.ok (.ctn ρ2))/\P (k+i+1) ρ2)->∃ ρ',loop g b ds ρ=.ok (.nx ρ')/\P (k+ds.length) ρ'
 | [],k,ρ,h,_=>⟨ρ,rfl,h⟩
 | d::ds,k,ρ,h,st=>by
  obtain ⟨ρ1,ρ2,h1,h2,h3⟩:=st 0 d ρ rfl h
  obtain ⟨ρ',e,hp⟩:=xS P ds (k+1) ρ2 h3 fun i d' ρ' hd hp=>by
   have:=st (i+1) d' ρ' (by simpa using hd) (by rw [show k+(i+1)=k+1+i by omega];exact hp)
   rw [show k+(i+1)=k+1+i by omega] at this
   exact this
  refine ⟨ρ',?_,by rw [List.length_cons,show k+(ds.length+1)=k+1+ds.length by omega];exact hp⟩
  rw [loop,h1]
  simp only [Res.bind]
  rcases h2 with h2 | h2<;>(rw [h2];exact e)
theorem zDU {g:Gv} {b:Sv} {ds:List D} {ρ:Rho} (P:Rho->Prop) (h0:P ρ) (st:∀ d ρ,d∈ds->P ρ->∃ ρ1 ρ2,g d ρ=.ok ρ1/\(b ρ1=.ok (.nx ρ2)∨b ρ1=.ok (.ctn ρ2))/\P ρ2):∃ ρ',loop g b ds ρ=.ok (.nx ρ')/\P ρ':=by
 obtain ⟨ρ',e,hp⟩:=xS (fun _=>P) ds 0 ρ h0 fun i d ρ hd hp=>st d ρ (List.mem_of_getElem? hd) hp
 exact ⟨ρ',e,hp⟩
theorem zIY {i:Int} {m:Nat} (h:i.natAbs < 2^m):nb i<=m+1:=zKw (Nat.lt_of_lt_of_le h (Nat.pow_le_pow_right (by decide) (by omega))) (by omega)
theorem zFE {i j:Int} (h1:-(2^64) < j) (h2:j < 2^64):jV i j=true:=by
 unfold jV
 rw [Bool.or_eq_true,Bool.or_eq_true]
 exact .inl (.inr (by rw [decide_eq_true h1,decide_eq_true h2];rfl))
theorem zGD {i j:Int} (h1:-(2^64) < i) (h2:i < 2^64):jV i j=true:=by
 unfold jV
 rw [Bool.or_eq_true,Bool.or_eq_true]
 exact .inl (.inl (by rw [decide_eq_true h1,decide_eq_true h2];rfl))
theorem zDj {j:Int} {m:Nat} (h0:j≠0) (hj:j.natAbs < 2^m) (h:m<=8999):mT j=true:=by
 unfold mT
 have h1:=zIY hj
 rw [decide_eq_true h0,decide_eq_true (show nb j<=9000 by omega)]
 rfl
theorem okDiv_lit {j:Int} (h0:0 < j) (h:j < 1000000000000000000):mT j=true:=zDj (m:=64) (by omega) (by omega) (by decide)
theorem okMul_litr {i j:Int} (h1:-1000000000000000000 < j) (h2:j < 1000000000000000000):jV i j=true:=zFE (by omega) (by omega)
theorem okMul_litl {i j:Int} (h1:-1000000000000000000 < i) (h2:i < 1000000000000000000):jV i j=true:=zGD (by omega) (by omega)
theorem p10 (n:Nat):(0:Int) < 10^n:=Int.pow_pos (by decide)
theorem p10ne (n:Nat):((10:Int)^n=0)=False:=eq_false (by have:=p10 n;omega)
theorem p10pos2 (n:Nat):(0:Int) < 2 * 10^n:=by have:=p10 n;omega
theorem p10ne2 (n:Nat):((2:Int) * 10^n=0)=False:=eq_false (by have:=p10 n;omega)
theorem okp9:oQ 10 9=true:=by decide
theorem okp30:oQ 10 30=true:=by decide
def dq (q:Rat):D:=.tup [.int q.num,.int (q.den:Int)]
def dp (p:Rat×Rat):D:=.tup [dq p.1,dq p.2]
theorem eq_dq (p q:Rat):eqD (dq p) (dq q)=decide (p=q):=by
 show ((p.num==q.num) && (((p.den:Int)==(q.den:Int)) && true))=decide (p=q)
 by_cases h:p=q
 ·subst h;simp
 ·rw [decide_eq_false h]
  by_cases h1:p.num=q.num
  ·have h2:p.den≠q.den:=fun e=>h (Rat.ext h1 e)
   have:((p.den:Int)==(q.den:Int))=false:=by simp;omega
   rw [this];simp
  ·simp [h1]
theorem dep_dq (q:Rat):dep (dq q)=1:=rfl
theorem ix_dq0 (q:Rat):oIx (dq q) (.int 0)=.ok (.int q.num):=rfl
theorem ix_dq1 (q:Rat):oIx (dq q) (.int 1)=.ok (.int (q.den:Int)):=rfl
theorem ty_dq (q:Rat):tyN (dq q) = "tuple" := rfl
theorem len_dq (q:Rat):mS [dq q]=.ok (.int 2):=rfl
theorem oEq_dq (p q:Rat):oEq (dq p) (dq q)=.ok (.bl (decide (p=q))):=by
 rw [<-eq_dq];rfl
theorem oNe_dq (p q:Rat):oNe (dq p) (dq q)=.ok (.bl (!decide (p=q))):=by
 rw [<-eq_dq];rfl
theorem noL_dq (q:Rat):noL (dq q)=true:=rfl
theorem fdiv_pos (a:Int) {b:Int} (h:0 < b):a.fdiv b=a / b:=Int.fdiv_eq_ediv_of_nonneg a (by omega)
theorem fmod_pos (a:Int) {b:Int} (h:0 < b):a.fmod b=a % b:=Int.fmod_eq_emod_of_nonneg a (by omega)
theorem pR {α:Type} {l:List α} {i:Nat} {a:α} (h:l[i]?=some a):l.take (i+1)=l.take i++[a]:=by rw [List.take_succ,h];rfl
end Fr
namespace L3
open PySem
def zGO (b:Sv):Fl->Res Fl
 | .nx ρ=>b ρ
 | .ret r=>.ok (.ret r)
 | .brk ρ=>.ok (.brk ρ)
 | .ctn ρ=>.ok (.ctn ρ)
theorem sSeq_at {a b:Sv} {ρ:Rho}:bI a b ρ=(a ρ).bind (zGO b):=by
 unfold bI;congr;funext f;cases f<;>rfl
def ifF (a b:Sv) (ρ:Rho):Bool->Res Fl
 | true=>a ρ
 | false=>b ρ
theorem sIf_at {t:Tv} {a b:Sv} {ρ:Rho}:sIf t a b ρ=(t ρ).bind (ifF a b ρ):=by
 unfold sIf;congr;funext c;cases c<;>rfl
def zJY (a b:Ev) (ρ:Rho):Bool->Res D
 | true=>a ρ
 | false=>b ρ
theorem eIf_at {t:Tv} {a b:Ev} {ρ:Rho}:eIf t a b ρ=(t ρ).bind (zJY a b ρ):=by
 unfold eIf;congr;funext c;cases c<;>rfl
def zJV (b:Ev) (ρ:Rho):D->Res D
 | .bl true=>b ρ
 | .bl false=>.ok (.bl false)
 | _=>.no
theorem eAnd_at {a b:Ev} {ρ:Rho}:zFZ a b ρ=(a ρ).bind (zJV b ρ):=by
 unfold zFZ;congr;funext c;cases c<;>try rfl
 rename_i c;cases c<;>rfl
def orF (b:Ev) (ρ:Rho):D->Res D
 | .bl true=>.ok (.bl true)
 | .bl false=>b ρ
 | _=>.no
theorem eOr_at {a b:Ev} {ρ:Rho}:eOr a b ρ=(a ρ).bind (orF b ρ):=by
 unfold eOr;congr;funext c;cases c<;>try rfl
 rename_i c;cases c<;>rfl
def opF (o:Op2) (b:Ev) (ρ:Rho) (x:D):Res D:=(b ρ).bind (o x)
theorem eOp_at {o:Op2} {a b:Ev} {ρ:Rho}:eOp o a b ρ=(a ρ).bind (opF o b ρ):=rfl
def consG (d:D) (ds:List D):Res (List D):=.ok (d::ds)
def consF (r:Fv) (ρ:Rho) (d:D):Res (List D):=(r ρ).bind (consG d)
theorem aCons_at {e:Ev} {r:Fv} {ρ:Rho}:aA e r ρ=(e ρ).bind (consF r ρ):=rfl
def tupF (ds:List D):Res D:=if ds.length<=16777216 then .ok (.tup ds) else .no
theorem eTup_at {a:Fv} {ρ:Rho}:zDg a ρ=(a ρ).bind tupF:=rfl
def rtF (r:Rt):Res D:=.ok r.d
def callF (m:Mir) (ds:List D):Res D:=(m ds).bind rtF
theorem eCall_at {m:Mir} {a:Fv} {ρ:Rho}:bF m a ρ=(a ρ).bind (callF m):=rfl
def isTF (T:String) (d:D):Res D:=.ok (.bl (isT T d))
theorem eIsT_at {T:String} {a:Ev} {ρ:Rho}:zDa T a ρ=(a ρ).bind (isTF T):=rfl
def isNF (d:D):Res D:=.ok (.bl (isNon d))
theorem eIsN_at {a:Ev} {ρ:Rho}:zHg a ρ=(a ρ).bind isNF:=rfl
def frzF (d:D):Res D:=if noL d=true then .ok d else .no
theorem eFrz_at {e:Ev} {ρ:Rho}:zJz e ρ=(e (ρ.map Sl.frz)).bind frzF:=rfl
def fLstF (ds:List D):Res (List D):=if ds.length<=16777216 then .ok ds else .no
theorem fLst_at {a:Fv} {ρ:Rho}:pS a ρ=(a ρ).bind fLstF:=rfl
def rtFF:Rt->Res (List D)
 | .f ds=>.ok ds
 | _=>.no
def fcallF (m:Mir) (ds:List D):Res (List D):=(m ds).bind rtFF
theorem fCall_at {m:Mir} {a:Fv} {ρ:Rho}:nL m a ρ=(a ρ).bind (fcallF m):=by
 unfold nL fcallF;congr
def zBT:List D->Res (List D)
 | [.lst ds]=>.ok ds
 | [.tup ds]=>.ok ds
 | _=>.no
theorem fListF_l {ds:List D}:zBT [.lst ds]=.ok ds:=rfl
theorem fListF_t {ds:List D}:zBT [.tup ds]=.ok ds:=rfl
theorem fList_at {a:Fv} {ρ:Rho}:zFK a ρ=(a ρ).bind zBT:=rfl
def catG (x y:D):Res (List D):=match x,y with
 | .lst ds,.lst es=>if ds.length+es.length<=16777216 then .ok (ds++es) else .no
 | _,_=>.no
def catF (b:Ev) (ρ:Rho) (x:D):Res (List D):=(b ρ).bind (catG x)
theorem fCat_at {a b:Ev} {ρ:Rho}:zJG a b ρ=(a ρ).bind (catF b ρ):=rfl
def efF (ds:List D):Res D:=.ok (.lst ds)
theorem eF_at {f:Fv} {ρ:Rho}:eF f ρ=(f ρ).bind efF:=rfl
def fFrzF (ds:List D):Res (List D):=if noLs ds=true then .ok ds else .no
theorem fFrz_at {f:Fv} {ρ:Rho}:zJK f ρ=(f (ρ.map Sl.frz)).bind fFrzF:=rfl
def oSF:D->Res (Option Int)
 | .int i=>.ok (some i)
 | _=>.no
theorem oS_at {e:Ev} {ρ:Rho}:oS e ρ=(e ρ).bind oSF:=by
 unfold oS;congr
def fSlH (x:D) (l h:Option Int):Res (List D):=match x with
 | .lst ds=>.ok (cV ds l h)
 | _=>.no
def fSlG (hi:Ov) (ρ:Rho) (x:D) (l:Option Int):Res (List D):=(hi ρ).bind (fSlH x l)
def fSlF (lo hi:Ov) (ρ:Rho) (x:D):Res (List D):=(lo ρ).bind (fSlG hi ρ x)
theorem fSl_at {a:Ev} {lo hi:Ov} {ρ:Rho}:fSl a lo hi ρ=(a ρ).bind (fSlF lo hi ρ):=rfl
def blF:D->Res Bool
 | .bl b=>.ok b
 | _=>.no
theorem tVal_at {e:Ev} {ρ:Rho}:cM e ρ=(e ρ).bind blF:=by
 unfold cM;congr
def notF (b:Bool):Res Bool:=.ok (!b)
theorem tNotB_at {t:Tv} {ρ:Rho}:lO t ρ=(t ρ).bind notF:=rfl
def zGY (u:Tv) (ρ:Rho):Bool->Res Bool
 | true=>u ρ
 | false=>.ok false
theorem tAndB_at {t u:Tv} {ρ:Rho}:zBA t u ρ=(t ρ).bind (zGY u ρ):=by
 unfold zBA;congr;funext c;cases c<;>rfl
def zKn (u:Tv) (ρ:Rho):Bool->Res Bool
 | true=>.ok true
 | false=>u ρ
theorem tOrB_at {t u:Tv} {ρ:Rho}:tL t u ρ=(t ρ).bind (zKn u ρ):=by
 unfold tL;congr;funext c;cases c<;>rfl
def setF (i:Nat) (ρ:Rho) (d:D):Res Fl:=.ok (.nx (ρ.set i (.val d)))
theorem sSet_at {i:Nat} {e:Ev} {ρ:Rho}:fV i e ρ=(e ρ).bind (setF i ρ):=rfl
def ownF (i:Nat) (ρ:Rho) (ds:List D):Res Fl:=.ok (.nx (ρ.set i (.own ds)))
theorem sOwn_at {i:Nat} {f:Fv} {ρ:Rho}:zCy i f ρ=(f ρ).bind (ownF i ρ):=rfl
def dropF (ρ:Rho) (_d:D):Res Fl:=.ok (.nx ρ)
theorem sDrop_at {e:Ev} {ρ:Rho}:zCJ e ρ=(e ρ).bind (dropF ρ):=rfl
def retF (d:D):Res Fl:=.ok (.ret (.v d))
theorem sRet_at {e:Ev} {ρ:Rho}:iS e ρ=(e (ρ.map Sl.frz)).bind retF:=rfl
def retFF (ds:List D):Res Fl:=.ok (.ret (.f ds))
theorem sRetF_at {f:Fv} {ρ:Rho}:zGs f ρ=(f (ρ.map Sl.frz)).bind retFF:=rfl
def raiseF (c:Str) (ds:List D):Res Fl:=if ds.length<=16777216 then .err c else .no
theorem sRaise_at {c:Str} {a:Fv} {ρ:Rho}:iG c a ρ=(a ρ).bind (raiseF c):=rfl
def appF (i:Nat) (ρ:Rho) (ds:List D) (d:D):Res Fl:=if ds.length < 16777216 then .ok (.nx (ρ.set i (.own (ds++[d])))) else .no
def appS (i:Nat) (e:Ev) (ρ:Rho):Option Sl->Res Fl
 | some (.own ds)=>(e ρ).bind (appF i ρ ds)
 | _=>.no
theorem sApp_at {i:Nat} {e:Ev} {ρ:Rho}:zEL i e ρ=appS i e ρ ρ[i]?:=by
 unfold zEL appS;rfl
def extF (i:Nat) (ρ:Rho) (ds:List D) (es:List D):Res Fl:=if ds.length+es.length<=16777216 then .ok (.nx (ρ.set i (.own (ds++es)))) else .no
def extS (i:Nat) (e:Fv) (ρ:Rho):Option Sl->Res Fl
 | some (.own ds)=>(e ρ).bind (extF i ρ ds)
 | _=>.no
theorem sExt_at {i:Nat} {e:Fv} {ρ:Rho}:zIt i e ρ=extS i e ρ ρ[i]?:=by
 unfold zIt extS;rfl
def augF (i:Nat) (ρ:Rho) (o:Op2) (x y:D):Res Fl:=(o x y).bind (setF i ρ)
def augS (i:Nat) (o:Op2) (e:Ev) (ρ:Rho):Option Sl->Res Fl
 | some (.val x)=>(e ρ).bind (augF i ρ o x)
 | _=>.no
theorem sAug_at {i:Nat} {o:Op2} {e:Ev} {ρ:Rho}:zKY i o e ρ=augS i o e ρ ρ[i]?:=by
 unfold zKY augS;rfl
def dropG (ρ:Rho) (_r:Rt):Res Fl:=.ok (.nx ρ)
def setG (i:Nat) (ρ:Rho) (r:Rt):Res Fl:=.ok (.nx (ρ.set i (.val r.d)))
def varS:Option Sl->Res D
 | some (.val d)=>.ok d
 | _=>.no
theorem eVar_at {i:Nat} {ρ:Rho}:aH i ρ=varS ρ[i]?:=by
 unfold aH varS;rfl
def retS:Option Sl->Res Fl
 | some (.own ds)=>.ok (.ret (.f ds))
 | _=>.no
theorem sRetOwn_at {i:Nat} {ρ:Rho}:jO i ρ=retS ρ[i]?:=by
 unfold jO retS;rfl
def nxF (ρ:Rho):Res Fl:=.ok (.nx ρ)
def unpF (g:Gv) (ρ:Rho) (d:D):Res Fl:=(g d ρ).bind nxF
theorem sUnp_at {g:Gv} {f:Ev} {ρ:Rho}:zMb g f ρ=(f ρ).bind (unpF g ρ):=rfl
def gtF (gs:List D->Rho->Res Rho) (ρ:Rho):D->Res Rho
 | .tup ds=>gs ds ρ
 | _=>.no
theorem gTup_at {gs:List D->Rho->Res Rho} {d:D} {ρ:Rho}:zDf gs d ρ=gtF gs ρ d:=by
 unfold zDf gtF;rfl
theorem gCons_at {g:Gv} {r:List D->Rho->Res Rho} {d:D} {ds:List D} {ρ:Rho}:kG g r (d::ds) ρ=(g d ρ).bind (r ds):=rfl
theorem gNil_at {ρ:Rho}:zDc [] ρ=.ok ρ:=rfl
def forF (g:Gv) (b:Sv) (ρ:Rho) (ds:List D):Res Fl:=loop g b ds ρ
theorem sFor_at {it:Fv} {g:Gv} {b:Sv} {ρ:Rho}:zAh it g b ρ=(it ρ).bind (forF g b ρ):=rfl
def zJN:D->Res (List D)
 | .lst ds=>.ok ds
 | .tup ds=>.ok ds
 | _=>.no
theorem seqD_l {ds:List D}:zJN (.lst ds)=.ok ds:=rfl
theorem seqD_t {ds:List D}:zJN (.tup ds)=.ok ds:=rfl
theorem iSeq_at {e:Ev} {ρ:Rho}:zDJ e ρ=(e ρ).bind zJN:=by
 unfold zDJ;congr
def zHn:List D->Res (List D)
 | [.int j]=>if -(2^62)<=j/\j < 2^62 then .ok (rng 0 j.toNat 1) else .no
 | _=>.no
theorem iRng1_at {a:Fv} {ρ:Rho}:sP a ρ=(a ρ).bind zHn:=rfl
theorem fn_at {p n:Nat} {b:Sv} {ds:List D} (h:ds.length=p):fn p n b ds=(b (start n ds)).bind fin:=by
 unfold fn;rw [if_pos h]
theorem nr {α:Sort _} {a b:α} (h:a=b):a=b:=h
theorem okb {α β:Type} {a:α} {f:α->Res β}:(Res.ok a).bind f=f a:=nr rfl
theorem erb {α β:Type} {c:Str} {f:α->Res β}:(Res.err c).bind f=.err c:=nr rfl
theorem seqF_nx {b:Sv} {ρ:Rho}:zGO b (.nx ρ)=b ρ:=nr rfl
theorem seqF_ret {b:Sv} {r:Rt}:zGO b (.ret r)=.ok (.ret r):=nr rfl
theorem gtF_t {gs:List D->Rho->Res Rho} {ρ:Rho} {ds:List D}:gtF gs ρ (.tup ds)=gs ds ρ:=nr rfl
theorem ifF_t {a b:Sv} {ρ:Rho}:ifF a b ρ true=a ρ:=nr rfl
theorem ifF_f {a b:Sv} {ρ:Rho}:ifF a b ρ false=b ρ:=nr rfl
theorem eifF_t {a b:Ev} {ρ:Rho}:zJY a b ρ true=a ρ:=nr rfl
theorem eifF_f {a b:Ev} {ρ:Rho}:zJY a b ρ false=b ρ:=nr rfl
theorem andF_t {b:Ev} {ρ:Rho}:zJV b ρ (.bl true)=b ρ:=nr rfl
theorem andF_f {b:Ev} {ρ:Rho}:zJV b ρ (.bl false)=.ok (.bl false):=nr rfl
theorem orF_t {b:Ev} {ρ:Rho}:orF b ρ (.bl true)=.ok (.bl true):=nr rfl
theorem orF_f {b:Ev} {ρ:Rho}:orF b ρ (.bl false)=b ρ:=nr rfl
theorem tandF_t {u:Tv} {ρ:Rho}:zGY u ρ true=u ρ:=nr rfl
theorem tandF_f {u:Tv} {ρ:Rho}:zGY u ρ false=.ok false:=nr rfl
theorem torF_t {u:Tv} {ρ:Rho}:zKn u ρ true=.ok true:=nr rfl
theorem torF_f {u:Tv} {ρ:Rho}:zKn u ρ false=u ρ:=nr rfl
theorem oAdd_i {i j:Int}:qK (.int i) (.int j)=.ok (.int (i+j)):=rfl
theorem oSub_i {i j:Int}:zLQ (.int i) (.int j)=.ok (.int (i - j)):=rfl
theorem oMul_i {i j:Int} (h:jV i j=true):zHs (.int i) (.int j)=.ok (.int (i * j)):=if_pos h
theorem oDiv_i {i j:Int} (h:mT j=true):nI (.int i) (.int j)=.ok (.int (i.fdiv j)):=if_pos h
theorem oMod_i {i j:Int} (h:j≠0):kY (.int i) (.int j)=.ok (.int (i.fmod j)):=if_pos h
theorem oPow_i {i j:Int} (h:oQ i j=true):zX (.int i) (.int j)=.ok (.int (i^j.toNat)):=if_pos h
theorem oEq_i {i j:Int}:oEq (.int i) (.int j)=.ok (.bl (decide (i=j))):=rfl
theorem oNe_i {i j:Int}:oNe (.int i) (.int j)=.ok (.bl (!decide (i=j))):=rfl
theorem oLt_i {i j:Int}:oLt (.int i) (.int j)=.ok (.bl (decide (i < j))):=rfl
theorem oLe_i {i j:Int}:oLe (.int i) (.int j)=.ok (.bl (decide (i<=j))):=rfl
theorem oGt_i {i j:Int}:oGt (.int i) (.int j)=.ok (.bl (decide (j < i))):=rfl
theorem oGe_i {i j:Int}:oGe (.int i) (.int j)=.ok (.bl (decide (j<=i))):=rfl
theorem ofO_some {α:Type} {a:α}:ofO (some a)=.ok a:=rfl
theorem oNeg_i {i:Int}:zJx (.int i)=.ok (.int (-i)):=rfl
theorem oNot_b {b:Bool}:zKu (.bl b)=.ok (.bl (!b)):=rfl
theorem bAbs_i {i:Int}:zLu [.int i]=.ok (.int (i.natAbs:Int)):=by
 show Res.ok (D.int (if i < 0 then -i else i))=_
 congr 2;split<;>omega
theorem bMin_i {i j:Int}:zHU [.int i,.int j]=.ok (.int (min i j)):=by
 show Res.ok (D.int (if j < i then j else i))=_
 congr 2;split<;>omega
theorem lG {j:Int} (h1:-(2^62)<=j) (h2:j < 2^62):zHn [.int j]=.ok (rng 0 j.toNat 1):=if_pos ⟨h1,h2⟩
theorem zGG {α:Type} {g:Gv} {b:Sv} {ds:List D} {ρ:Rho} {k:Fl->Res α} {Q:Res α->Prop} (P:Rho->Prop) (h0:P ρ)
  (st:∀ d ρ,d∈ds->P ρ->∃ ρ2,(g d ρ).bind b=.ok (.nx ρ2)/\P ρ2) (fi:∀ ρ',P ρ'->Q (k (.nx ρ'))):Q ((loop g b ds ρ).bind k):=by
 suffices h:∃ ρ',loop g b ds ρ=.ok (.nx ρ')/\P ρ' by
  obtain ⟨ρ',e,hp⟩:=h
  rw [e]
  exact fi ρ' hp
 clear fi
 induction ds generalizing ρ with
 | nil=>exact ⟨ρ,rfl,h0⟩
 | cons d ds ih=>
  obtain ⟨ρ2,e,hp⟩:=st d ρ List.mem_cons_self h0
  obtain ⟨ρ',e',hp'⟩:=ih hp fun d' ρ' hd=>st d' ρ' (List.mem_cons_of_mem _ hd)
  refine ⟨ρ',?_,hp'⟩
  rw [loop]
  cases hg:g d ρ with
  | no=>rw [hg] at e;cases e
  | err c=>rw [hg] at e;cases e
  | ok ρ1=>
   rw [hg] at e
   have e2:b ρ1=.ok (.nx ρ2):=e
   simp only [Res.bind,e2]
   exact e'
theorem ty_i {i:Int}:tyN (.int i) = "int" := rfl
theorem ty_b {b:Bool}:tyN (.bl b) = "bool" := rfl
theorem ty_t {ds:List D}:tyN (.tup ds) = "tuple" := rfl
theorem ty_l {ds:List D}:tyN (.lst ds) = "list" := rfl
theorem ty_s {x:Str}:tyN (.str x) = "str" := rfl
theorem ty_n:tyN .non = "NoneType" := rfl
theorem bLen_t {ds:List D}:mS [.tup ds]=.ok (.int ds.length):=rfl
theorem bLen_l {ds:List D}:mS [.lst ds]=.ok (.int ds.length):=rfl
theorem bTup_t {ds:List D}:zEP [.tup ds]=.ok (.tup ds):=rfl
theorem bTup_l {ds:List D}:zEP [.lst ds]=.ok (.tup ds):=rfl
theorem lH {α:Type} {g:Gv} {b:Sv} {ds:List D} {ρ:Rho} {k:Fl->Res α} {Q:Res α->Prop} (P:Nat->Rho->Prop) (h0:P 0 ρ)
  (st:∀ i d ρ,ds[i]?=some d->P i ρ->∃ ρ2,(g d ρ).bind b=.ok (.nx ρ2)/\P (i+1) ρ2) (fi:∀ ρ',P ds.length ρ'->Q (k (.nx ρ'))):Q ((loop g b ds ρ).bind k):=by
 suffices h:∀ (ds:List D) (j:Nat) (ρ:Rho),P j ρ->(∀ i d ρ,ds[i]?=some d->P (j+i) ρ->∃ ρ2,(g d ρ).bind b=.ok (.nx ρ2)/\P (j+i+1) ρ2)->∃ ρ',loop g b ds ρ=.ok (.nx ρ')/\P (j+ds.length) ρ' by
  obtain ⟨ρ',e,hp⟩:=h ds 0 ρ h0 (fun i d ρ hd hp=>by rw [Nat.zero_add] at hp ⊢;exact st i d ρ hd hp)
  rw [e]
  exact fi ρ' (by rw [Nat.zero_add] at hp;exact hp)
 intro ds
 induction ds with
 | nil=>intro j ρ hp _;exact ⟨ρ,rfl,hp⟩
 | cons d ds ih=>
  intro j ρ hp st
  obtain ⟨ρ2,e,hp2⟩:=st 0 d ρ rfl hp
  obtain ⟨ρ',e',hp'⟩:=ih (j+1) ρ2 hp2 fun i d' ρ' hd hp=>by
   have:=st (i+1) d' ρ' (by simpa using hd) (by rw [show j+(i+1)=j+1+i by omega];exact hp)
   rw [show j+(i+1)=j+1+i by omega] at this
   exact this
  refine ⟨ρ',?_,by rw [List.length_cons,show j+(ds.length+1)=j+1+ds.length by omega];exact hp'⟩
  rw [loop]
  cases hg:g d ρ with
  | no=>rw [hg] at e;cases e
  | err c=>rw [hg] at e;cases e
  | ok ρ1=>
   rw [hg] at e
   have e2:b ρ1=.ok (.nx ρ2):=e
   simp only [Res.bind,e2]
   exact e'
theorem tX {lo c:Int} {n i:Nat} {d:D} (h:(rng lo n c)[i]?=some d):i < n/\d=.int (lo+(i:Int) * c):=by
 unfold rng at h
 rw [List.getElem?_map] at h
 by_cases hi:i < n
 ·rw [List.getElem?_range hi] at h
  cases h
  exact ⟨hi,rfl⟩
 ·rw [List.getElem?_eq_none (by rw [List.length_range];omega)] at h
  cases h
theorem yX {lo c:Int} {n:Nat}:(rng lo n c).length=n:=by unfold rng;rw [List.length_map,List.length_range]
def zFr (t:Tv) (f:Ev) (ρ:Rho) (ds:List D):Res (List D):=if ds.length<=16777215 then fN t f ρ ds else .no
theorem fComp_at {it:Fv} {t:Tv} {f:Ev} {ρ:Rho}:zP it t f ρ=(it ρ).bind (zFr t f ρ):=rfl
theorem xE {ds:List D} {k:Int} (h:0<=k):cV ds none (some k)=ds.take k.toNat:=by
 unfold cV cut
 simp only [h,if_true,List.drop_zero,Nat.sub_zero]
 rcases Nat.le_total k.toNat ds.length with l | l
 ·rw [Nat.min_eq_left l]
 ·rw [Nat.min_eq_right l,List.take_length,List.take_of_length_le l]
theorem zEl {α:Type} (l:List α) (a:Nat):l.drop (min a l.length)=l.drop a:=by
 rcases Nat.le_total a l.length with h | h
 ·rw [Nat.min_eq_left h]
 ·rw [Nat.min_eq_right h,List.drop_length,List.drop_eq_nil_of_le h]
theorem zCY {ds:List D} {a b:Int} (h1:0<=a) (h2:0<=b):cV ds (some a) (some b)=(ds.drop a.toNat).take (b.toNat - a.toNat):=by
 unfold cV cut
 simp only [h1,h2,if_true]
 rw [zEl]
 rcases Nat.le_total ds.length a.toNat with c | c
 ·rw [List.drop_eq_nil_of_le c,List.take_nil,List.take_nil]
 ·rw [Nat.min_eq_left c]
  rcases Nat.le_total b.toNat ds.length with d | d
  ·rw [Nat.min_eq_left d]
  ·rw [Nat.min_eq_right d,List.take_of_length_le (by rw [List.length_drop];exact Nat.le_refl _),List.take_of_length_le (by rw [List.length_drop];exact Nat.sub_le_sub_right d _)]
theorem pZ {α:Type} {f:α->D} {l:List α} {i:Int} {a:α} (h0:0<=i) (h:l[i.toNat]?=some a):oIx (.lst (l.map f)) (.int i)=.ok (f a):=by
 show ofO (atD (l.map f) i)=_
 unfold atD
 rw [if_pos h0,List.getElem?_map,h]
 rfl
theorem oIx_tc {d:D} {ds:List D} {i:Int}:oIx (.tup (d::ds)) (.int i)=ofO (atD (d::ds) i):=rfl
theorem zFs {α:Type} {f:α->D} {l:List α} {i:Int} {a:α} (h0:0<=i) (h:l[i.toNat]?=some a):oIx (.tup (l.map f)) (.int i)=.ok (f a):=by
 show ofO (atD (l.map f) i)=_
 unfold atD
 rw [if_pos h0,List.getElem?_map,h]
 rfl
theorem kJ {α:Type} {g:Gv} {b:Sv} {ds:List D} {ρ:Rho} {k:Fl->Res α} {Q:Res α->Prop} (P:Nat->Rho->Prop) (h0:P 0 ρ)
  (st:∀ i d ρ,ds[i]?=some d->P i ρ->(∃ ρ2,(g d ρ).bind b=.ok (.nx ρ2)/\P (i+1) ρ2)∨∃ r,(g d ρ).bind b=.ok (.ret r)/\Q (k (.ret r))) (fi:∀ ρ',P ds.length ρ'->Q (k (.nx ρ'))):Q ((loop g b ds ρ).bind k):=by
 suffices h:∀ (ds:List D) (j:Nat) (ρ:Rho),P j ρ->(∀ i d ρ,ds[i]?=some d->P (j+i) ρ->(∃ ρ2,(g d ρ).bind b=.ok (.nx ρ2)/\P (j+i+1) ρ2)∨∃ r,(g d ρ).bind b=.ok (.ret r)/\Q (k (.ret r)))->(∃ ρ',loop g b ds ρ=.ok (.nx ρ')/\P (j+ds.length) ρ')∨∃ r,loop g b ds ρ=.ok (.ret r)/\Q (k (.ret r)) by
  rcases h ds 0 ρ h0 (fun i d ρ hd hp=>by rw [Nat.zero_add] at hp ⊢;exact st i d ρ hd hp) with ⟨ρ',e,hp⟩ | ⟨r,e,hq⟩
  ·rw [e]
   exact fi ρ' (by rw [Nat.zero_add] at hp;exact hp)
  ·rw [e]
   exact hq
 intro ds
 induction ds with
 | nil=>intro j ρ hp _;exact .inl ⟨ρ,rfl,hp⟩
 | cons d ds ih=>
  intro j ρ hp st
  rcases st 0 d ρ rfl hp with ⟨ρ2,e,hp2⟩ | ⟨r,e,hq⟩
  ·have e3:loop g b (d::ds) ρ=loop g b ds ρ2:=by
    rw [loop]
    cases hg:g d ρ with
    | no=>rw [hg] at e;cases e
    | err c=>rw [hg] at e;cases e
    | ok ρ1=>
     rw [hg] at e
     have e2:b ρ1=.ok (.nx ρ2):=e
     simp only [Res.bind,e2]
   rw [e3]
   rcases ih (j+1) ρ2 hp2 (fun i d' ρ' hd hp=>by
    have:=st (i+1) d' ρ' (by simpa using hd) (by rw [show j+(i+1)=j+1+i by omega];exact hp)
    rw [show j+(i+1)=j+1+i by omega] at this
    exact this) with ⟨ρ',e',hp'⟩ | h
   ·exact .inl ⟨ρ',e',by rw [List.length_cons,show j+(ds.length+1)=j+1+ds.length by omega];exact hp'⟩
   ·exact .inr h
  ·refine .inr ⟨r,?_,hq⟩
   rw [loop]
   cases hg:g d ρ with
   | no=>rw [hg] at e;cases e
   | err c=>rw [hg] at e;cases e
   | ok ρ1=>
    rw [hg] at e
    have e2:b ρ1=.ok (.ret r):=e
    simp only [Res.bind,e2]
def zLI (ds:List D):D->Res (List D)
 | .int k=>if 0<=k/\k < 2^62/\ds.length * k.toNat<=16777216 then .ok (List.replicate k.toNat ds).flatten else .no
 | _=>.no
def repF (g:Ev) (ρ:Rho) (ds:List D):Res (List D):=(g ρ).bind (zLI ds)
theorem fRep_at {f:Fv} {g:Ev} {ρ:Rho}:zLo f g ρ=(f ρ).bind (repF g ρ):=by
 unfold zLo repF;congr
theorem zCt {α:Type} {u:α->D} {f:Ev} {ρ:Rho} {g:α->D}:∀ {l:List α},(∀ a∈l,f (ρ++[.val (u a)])=.ok (g a))->fN zN f ρ (l.map u)=.ok (l.map g)
 | [],_=>rfl
 | a::l,h=>by
  rw [List.map_cons,fN,h a List.mem_cons_self]
  simp only [zN,noErr,Res.bind,if_true]
  rw [zCt fun b hb=>h b (List.mem_cons_of_mem _ hb)]
  rfl
theorem yN {α:Type} {u:α->D} {f:Ev} {ρ:Rho} {g:α->D} {l:List α} (hl:l.length<=16777215) (h:∀ a∈l,f (ρ++[.val (u a)])=.ok (g a)):zFr zN f ρ (l.map u)=.ok (l.map g):=by
 unfold zFr;rw [if_pos (by rw [List.length_map];exact hl),zCt h]
theorem bSum_l {ns:List Int}:zHc [.lst (ns.map D.int)]=.ok (.int ns.sum):=by
 have e:∀ ns:List Int,iY (ns.map D.int)=some ns:=by
  intro ns
  induction ns with
  | nil=>rfl
  | cons i ns ih=>rw [List.map_cons,iY,ih]
 show (match iY (ns.map D.int) with | some ns=>Res.ok (D.int ns.sum) | none=>.no)=_
 rw [e]
theorem bSum_t {ns:List Int}:zHc [.tup (ns.map D.int)]=.ok (.int ns.sum):=by
 have e:∀ ns:List Int,iY (ns.map D.int)=some ns:=by
  intro ns
  induction ns with
  | nil=>rfl
  | cons i ns ih=>rw [List.map_cons,iY,ih]
 show (match iY (ns.map D.int) with | some ns=>Res.ok (D.int ns.sum) | none=>.no)=_
 rw [e]
theorem iStr_at {f:Ev} {ρ:Rho}:zKf f ρ=(f ρ).bind zKK:=rfl
theorem chrD_s {x:Str}:zKK (.str x)=.ok (x.cps.toList.map fun c=>.str ⟨#[c]⟩):=rfl
def slSG (l:Option Int) (x:D) (h:Option Int):Res D:=slS l h x
def slSF (hi:Ov) (ρ:Rho) (x:D) (l:Option Int):Res D:=(hi ρ).bind (slSG l x)
def slSE (lo hi:Ov) (ρ:Rho) (x:D):Res D:=(lo ρ).bind (slSF hi ρ x)
theorem eSlS_at {a:Ev} {lo hi:Ov} {ρ:Rho}:zJL a lo hi ρ=(a ρ).bind (slSE lo hi ρ):=rfl
theorem slS_s {l h:Option Int} {x:Str}:slS l h (.str x)=if x.length<=sizeLine then .ok (.str (Txt.slice x l h)) else .no:=rfl
def chB (o o':Op2) (h:Ev) (ρ:Rho) (x y:D):Res D:=(o x y).bind (zIg o' h ρ y)
def chA (o o':Op2) (g h:Ev) (ρ:Rho) (x:D):Res D:=(g ρ).bind (chB o o' h ρ x)
theorem eChain_at {o o':Op2} {f g h:Ev} {ρ:Rho}:xQ o o' f g h ρ=(f ρ).bind (chA o o' g h ρ):=rfl
theorem chnF_t {o:Op2} {h:Ev} {ρ:Rho} {y:D}:zIg o h ρ y (.bl true)=(h ρ).bind (o y):=rfl
theorem chnF_f {o:Op2} {h:Ev} {ρ:Rho} {y:D}:zIg o h ρ y (.bl false)=.ok (.bl false):=rfl
theorem oAddS_s {x y:Str}:zCc (.str x) (.str y)=if x.length+y.length<=sizeLine then .ok (.str (x++y)) else .no:=rfl
theorem zBZ {z:Str} {i:Int}:uZ (.str z) (.int i)=if 0<=i/\i < 2^63 then chO z.cps[i.toNat]? else .no:=rfl
theorem oInS_s {x y:Str}:zDH (.str x) (.str y)=.ok (.bl (inS x y)):=rfl
theorem bLenS_s {x:Str}:mO [.str x]=if x.length<=sizeLine then .ok (.int x.length) else .no:=rfl
theorem zAV {x:Str} {n:Int} (h:x.length<=640) (e:intText? x=some n):zBh [.str x]=.ok (.int n):=by
 show (if x.length<=640 then (match intText? x with | some n=>Res.ok (D.int n) | none=>.no) else .no)=_
 rw [if_pos h,e]
theorem pV {α:Type} (p:α->Bool):∀ l:List α,mC (l.map fun a=>D.bl (p a))=some (l.map p)
 | []=>rfl
 | a::l=>by rw [List.map_cons,mC,pV p l];rfl
theorem zDK {α:Type} {p:α->Bool} {l:List α}:zHZ [.lst (l.map fun a=>D.bl (p a))]=.ok (.bl (l.all p)):=by
 show (match mC (l.map fun a=>D.bl (p a)) with | some bs=>Res.ok (D.bl (bs.all id)) | none=>.no)=_
 rw [pV]
 show Res.ok (D.bl ((l.map p).all id))=_
 rw [List.all_map]
 rfl
theorem chO_s {c:Nat}:chO (some c)=.ok (.str ⟨#[c]⟩):=rfl
theorem zIy {x:Str}:dep (.str x)<=50:=by simp [dep]
theorem oEq_s {x y:Str}:oEq (.str x) (.str y)=.ok (.bl (x==y)):=by
 unfold oEq;rw [if_pos zIy,eqD]
theorem oNe_s {x y:Str}:oNe (.str x) (.str y)=.ok (.bl (!(x==y))):=by
 unfold oNe;rw [if_pos zIy,eqD]
theorem oIxS_0 {z:Str}:uZ (.str z) (.int 0)=chO z.cps[0]?:=by rw [zBZ,if_pos ⟨by decide,by decide⟩];rfl
theorem vD {g:Gv} {b:Sv} {d:D} {ds:List D} {ρ ρ1 ρ2:Rho} (hg:g d ρ=.ok ρ1) (hb:b ρ1=.ok (.nx ρ2)):loop g b (d::ds) ρ=loop g b ds ρ2:=by
 rw [loop]
 simp only [hg,Res.bind,hb]
theorem oTabNot_s {T:List (Str×Str)} {x:Str}:lR T (.str x)=.ok (.bl (!(T.lookup x).isSome)):=rfl
theorem vI {α:Type} (p:α->Int):∀ l:List α,iY (l.map fun a=>D.int (p a))=some (l.map p)
 | []=>rfl
 | a::l=>by rw [List.map_cons,iY,vI p l];rfl
def mx0:List Int->Int
 | []=>0
 | a::r=>qY a r
theorem zBb {α:Type} {p:α->Int} {l:List α}:wS [.lst (l.map fun a=>D.int (p a)),.int 0]=.ok (.int (mx0 (l.map p))):=by
 show (match iY (l.map fun a=>D.int (p a)) with | some (a::r)=>Res.ok (D.int (qY a r)) | some []=>.ok (.int 0) | none=>.no)=_
 rw [vI]
 cases l<;>rfl
def zLi:List D->Res (List D)
 | [x,y]=>match zDP x,zDP y with
  | some xs,some ys=>.ok (jM xs ys)
  | _,_=>.no
 | _=>.no
theorem iZip_at {a:Fv} {ρ:Rho}:zJo a ρ=(a ρ).bind zLi:=by
 unfold zJo;congr
theorem zAK {x y:D} {xs ys:List D} (hx:zDP x=some xs) (hy:zDP y=some ys):zLi [x,y]=.ok (jM xs ys):=by
 show (match zDP x,zDP y with | some xs,some ys=>Res.ok (jM xs ys) | _,_=>.no)=_
 rw [hx,hy]
def zDl:D->Res (List D)
 | .lst ds=>.ok (iB 0 ds)
 | .tup ds=>.ok (iB 0 ds)
 | _=>.no
theorem enumF_t {ds:List D}:zDl (.tup ds)=.ok (iB 0 ds):=rfl
theorem enumF_l {ds:List D}:zDl (.lst ds)=.ok (iB 0 ds):=rfl
theorem iEnum_at {e:Ev} {ρ:Rho}:zDB e ρ=(e ρ).bind zDl:=by
 unfold zDB;congr
def zCB (f:Ev) (ρ:Rho) (ds:List D):Res (List D):=if ds.length<=16777215 then dU f ρ ds else .no
theorem fComp2_at {it:Fv} {f:Ev} {ρ:Rho}:qH it f ρ=(it ρ).bind (zCB f ρ):=rfl
theorem yC {α β:Type} {u:α->D} {v:β->D} {f:Ev} {ρ:Rho} {g:α->β->D}:∀ {l:List α} {m:List β},(∀ p∈l.zip m,f (ρ++[.val (u p.1),.val (v p.2)])=.ok (g p.1 p.2))->
  dU f ρ (jM (l.map u) (m.map v))=.ok ((l.zip m).map fun p=>g p.1 p.2)
 | [],m,h=>by cases m<;>rfl
 | a::l,[],h=>rfl
 | a::l,b::m,h=>by
  have h1:=h (a,b) List.mem_cons_self
  have h2:=yC (l:=l) (m:=m) (u:=u) (v:=v) (g:=g) fun p hp=>h p (List.mem_cons_of_mem _ hp)
  show (noErr (f (ρ++[.val (u a),.val (v b)]))).bind (fun e=>(dU f ρ (jM (l.map u) (m.map v))).bind fun es=>.ok (e::es))=_
  rw [h1,h2]
  rfl
theorem uJ {α β:Type} {u:α->D} {v:β->D} {f:Ev} {ρ:Rho} {g:α->β->D} {l:List α} {m:List β} (hl:l.length<=16777215) (h:∀ p∈l.zip m,f (ρ++[.val (u p.1),.val (v p.2)])=.ok (g p.1 p.2)):
  zCB f ρ (jM (l.map u) (m.map v))=.ok ((l.zip m).map fun p=>g p.1 p.2):=by
 unfold zCB
 rw [if_pos,yC h]
 have:∀ (a b:List D),(jM a b).length<=a.length:=by
  intro a
  induction a with
  | nil=>intro b;cases b<;>exact Nat.le_refl _
  | cons x a ih=>intro b;cases b with
   | nil=>exact Nat.zero_le _
   | cons y b=>exact Nat.succ_le_succ (ih b)
 exact Nat.le_trans (this _ _) (by rw [List.length_map];exact hl)
def zLe (hi:Ov) (ρ:Rho) (x:D) (l:Option Int):Res D:=(hi ρ).bind fun h=>slQ l h x
def slQF (lo hi:Ov) (ρ:Rho) (x:D):Res D:=(lo ρ).bind (zLe hi ρ x)
theorem eSlQ_at {a:Ev} {lo hi:Ov} {ρ:Rho}:zJu a lo hi ρ=(a ρ).bind (slQF lo hi ρ):=rfl
def zGu (x:D) (l h:Option Int):Res D:=slQ l h x
theorem slQE_at {hi:Ov} {ρ:Rho} {x:D} {l:Option Int}:zLe hi ρ x l=(hi ρ).bind (zGu x l):=rfl
theorem slQG_l {ds:List D} {l h:Option Int}:zGu (.lst ds) l h=.ok (.lst (cV ds l h)):=rfl
theorem slQG_t {ds:List D} {l h:Option Int}:zGu (.tup ds) l h=.ok (.tup (cV ds l h)):=rfl
theorem eFst_at {fs:Fv} {ρ:Rho}:zHa fs ρ=(fs ρ).bind zIz:=rfl
theorem eJoin_at {sep:Str} {e:Ev} {ρ:Rho}:zGT sep e ρ=(e ρ).bind (uO sep):=rfl
end L3
namespace Ln
open Fq
abbrev Pt:=Rat×Rat
def asc (a b:Pt):Prop:=a.1 < b.1/\a.2<=b.2
def btw (a b c:Pt):Bool:=decide ((b.2 - a.2) * (c.1 - b.1)=(c.2 - b.2) * (b.1 - a.1))
def push:List Pt->Pt->List Pt
 | b::a::s,c=>if btw a b c=true then c::a::s else c::b::a::s
 | s,c=>c::s
def few:Pt->List Pt->List Pt
 | _,[]=>[]
 | _,[b]=>[b]
 | a,b::c::r=>if btw a b c=true then few b (c::r) else b::few b (c::r)
def Ok (ps:List Pt):Prop:=ps.head?=some (0,0)/\ps.Pairwise asc
def itp (p q:Pt) (x:Rat):Rat:=p.2+(x - p.1) / (q.1 - p.1) * (q.2 - p.2)
def zGr:List Pt->Rat->Rat
 | [],_=>0
 | [p],_=>p.2
 | p::q::r,x=>if x<=q.1 then itp p q x else zGr (q::r) x
def oW (ps qs:List Pt) (C:List Rat):List Pt:=C.map fun x=>(x,zGr ps x+zGr qs x)
end Ln
namespace L3
open PySem PySem.Spec PyProof.Rows L2
abbrev St:=L2.St
mutual
inductive IsD (K:PySem.W.Frag) (H:Hp):V->D->Prop where
 | non:IsD K H .non .non
 | bl (b:Bool):IsD K H (.bl b) (.bl b)
 | int (i:Int):IsD K H (.int i) (.int i)
 | str (x:Str):IsD K H (.str x) (.str x)
 | tup {a:Addr} {xs:List V} {ds:List D}:SqT K H a xs->IsDs K H xs ds->IsD K H (.ref a) (.tup ds)
 | lst {a:Addr} {xs:List V} {ds:List D}:SqL K H a xs->IsDs K H xs ds->IsD K H (.ref a) (.lst ds)
inductive IsDs (K:PySem.W.Frag) (H:Hp):List V->List D->Prop where
 | nil:IsDs K H [] []
 | cons {v:V} {d:D} {vs:List V} {ds:List D}:IsD K H v d->IsDs K H vs ds->IsDs K H (v::vs) (d::ds)
end
theorem _root_.L2.Same.rd {H H':Hp} (e:Same H H') {a:Addr} {u:HO} (h:Rd H a u):Rd H' a u:=by
 rcases h with h | ⟨o,h⟩
 ·exact .inl (e _ _ h)
 ·exact .inr ⟨o,e _ _ h⟩
theorem bO {K:PySem.W.Frag} {H H':Hp} (e:Same H H') {a:Addr} {xs:List V} (h:SqT K H a xs):SqT K H' a xs:=h.imp (Same.rd e) id
theorem bU {K:PySem.W.Frag} {H H':Hp} (e:Same H H') {a:Addr} {xs:List V} (h:SqL K H a xs):SqL K H' a xs:=h.imp (Same.rd e) id
section
variable {K:PySem.W.Frag} {H H':Hp}
mutual
theorem IsD.mono (e:Same H H'):∀ {v:V} {d:D},IsD K H v d->IsD K H' v d
 | _,_,.non=>.non
 | _,_,.bl b=>.bl b
 | _,_,.int i=>.int i
 | _,_,.str x=>.str x
 | _,_,.tup h hs=>.tup (bO e h) (IsDs.mono e hs)
 | _,_,.lst h hs=>.lst (bU e h) (IsDs.mono e hs)
theorem IsDs.mono (e:Same H H'):∀ {vs:List V} {ds:List D},IsDs K H vs ds->IsDs K H' vs ds
 | _,_,.nil=>.nil
 | _,_,.cons h hs=>.cons (IsD.mono e h) (IsDs.mono e hs)
end
theorem IsDs.length:∀ {vs:List V} {ds:List D},IsDs K H vs ds->vs.length=ds.length
 | _,_,.nil=>rfl
 | _,_,.cons _ hs=>by rw [List.length_cons,List.length_cons,IsDs.length hs]
theorem IsDs.at:∀ {vs:List V} {ds:List D} {j:Nat} {d:D},IsDs K H vs ds->ds[j]?=some d->∃ v,vs[j]?=some v/\IsD K H v d
 | _,_,_,_,.nil,e=>by simp at e
 | _,_,0,_,.cons r _,e=>by simp at e;subst e;exact ⟨_,rfl,r⟩
 | _,_,j+1,d,.cons _ t,e=>by
  obtain ⟨v,h1,h2⟩:=IsDs.at (j:=j) (d:=d) t (by simpa using e)
  exact ⟨v,by simpa using h1,h2⟩
theorem IsDs.append:∀ {vs ws:List V} {ds es:List D},IsDs K H vs ds->IsDs K H ws es->IsDs K H (vs++ws) (ds++es)
 | _,_,_,_,.nil,s=>s
 | _,_,_,_,.cons r t,s=>.cons r (IsDs.append t s)
theorem IsDs.take:∀ {vs:List V} {ds:List D} (n:Nat),IsDs K H vs ds->IsDs K H (vs.take n) (ds.take n)
 | _,_,0,_=>.nil
 | _,_,_+1,.nil=>.nil
 | _,_,n+1,.cons r t=>.cons r (IsDs.take n t)
theorem IsDs.drop:∀ {vs:List V} {ds:List D} (n:Nat),IsDs K H vs ds->IsDs K H (vs.drop n) (ds.drop n)
 | _,_,0,r=>r
 | _,_,_+1,.nil=>.nil
 | _,_,n+1,.cons _ t=>IsDs.drop n t
mutual
theorem IsD.noL (k:∀ b xs,Rd H b (.tup xs)->Rd H' b (.tup xs)):∀ {v:V} {d:D},IsD K H v d->L3.noL d=true->IsD K H' v d
 | _,_,.non,_=>.non
 | _,_,.bl b,_=>.bl b
 | _,_,.int i,_=>.int i
 | _,_,.str x,_=>.str x
 | _,_,.tup h hs,e=>.tup (h.imp (k _ _) id) (IsDs.noL k hs (by rw [L3.noL] at e;exact e))
 | _,_,.lst h hs,e=>by rw [L3.noL] at e;cases e
theorem IsDs.noL (k:∀ b xs,Rd H b (.tup xs)->Rd H' b (.tup xs)):∀ {vs:List V} {ds:List D},IsDs K H vs ds->L3.noLs ds=true->IsDs K H' vs ds
 | _,_,.nil,_=>.nil
 | _,_,.cons h hs,e=>by
  rw [L3.noLs,Bool.and_eq_true] at e
  exact .cons (IsD.noL k h e.1) (IsDs.noL k hs e.2)
end
end
theorem IsD.intI {K:PySem.W.Frag} {H:Hp} {v:V} {i:Int} (h:IsD K H v (.int i)):v=.int i:=by cases h;rfl
theorem IsD.blI {K:PySem.W.Frag} {H:Hp} {v:V} {b:Bool} (h:IsD K H v (.bl b)):v=.bl b:=by cases h;rfl
theorem IsD.strI {K:PySem.W.Frag} {H:Hp} {v:V} {x:Str} (h:IsD K H v (.str x)):v=.str x:=by cases h;rfl
theorem IsD.tupI {K:PySem.W.Frag} {H:Hp} {v:V} {ds:List D} (h:IsD K H v (.tup ds)):∃ a xs,v=.ref a/\SqT K H a xs/\IsDs K H xs ds:=by
 cases h with
 | tup h hs=>exact ⟨_,_,rfl,h,hs⟩
theorem IsD.lstI {K:PySem.W.Frag} {H:Hp} {v:V} {ds:List D} (h:IsD K H v (.lst ds)):∃ a xs,v=.ref a/\SqL K H a xs/\IsDs K H xs ds:=by
 cases h with
 | lst h hs=>exact ⟨_,_,rfl,h,hs⟩
def zKE:Str := "ranked.<locals>.<lambda>"
def pL (P:Addr) (H:Hp):Prop:=∃ ps,H P=some (.tbl ps)/\TriplesOk ps.toList/\∀ (pos:Pos) (cv:Value),codeAmong pos ps.toList=some cv->∃ c oc vs t u,cv=.ref c/\H c=some (.frz oc u)/\oc.data=.fields vs/\vs[1]?=some (.str zKE t)
theorem pL.put {P a:Addr} {H:Hp} {x:HO} (h:pL P H) (h1:∀ ps,H a≠some (.tbl ps)) (h2:∀ o u,H a≠some (.frz o u)):pL P (upd H a x):=by
 obtain ⟨ps,e,t,k⟩:=h
 refine ⟨ps,by rw [aG (show P≠a from fun z=>h1 ps (by rw [<-z];exact e))];exact e,t,fun pos cv q=>?_⟩
 obtain ⟨c,oc,vs,tk,u,r1,r2,r3⟩:=k pos cv q
 exact ⟨c,oc,vs,tk,u,r1,by rw [aG (show c≠a from fun z=>h2 oc u (by rw [<-z];exact r2))];exact r2,r3⟩
structure Keep (H H':Hp):Prop where
 k:∀ b o,H b=some o->H' b=some o∨∃ ps ps',o=.tbl ps/\H' b=some (.tbl ps')
 t:∀ P,pL P H->pL P H'
theorem Keep.refl (H:Hp):Keep H H:=⟨fun _ _ e=>.inl e,fun _ e=>e⟩
theorem Keep.trans {H H1 H2:Hp} (a:Keep H H1) (b:Keep H1 H2):Keep H H2:=
 ⟨fun c o e=>by
  rcases a.k c o e with z | ⟨ps,ps',rfl,z⟩
  ·exact b.k c o z
  ·rcases b.k c _ z with y | ⟨qs,qs',_,y⟩
   ·exact .inr ⟨ps,ps',rfl,y⟩
   ·exact .inr ⟨ps,qs',rfl,y⟩,fun P e=>b.t P (a.t P e)⟩
theorem Keep.at {H H':Hp} (k:Keep H H') {b:Addr} {o:HO} (e:H b=some o) (ho:∀ ps,o≠.tbl ps:=by intro ps z;cases z):H' b=some o:=by
 rcases k.k b o e with z | ⟨ps,ps',z,_⟩
 ·exact z
 ·exact absurd z (ho ps)
theorem Keep.none {H H':Hp} (k:Keep H H') {p:Addr} (e:H' p=none):H p=none:=by
 cases z:H p with
 | none=>rfl
 | some o=>rcases k.k p o z with y | ⟨_,_,_,y⟩<;>(rw [y] at e;cases e)
structure Ext (Hi H Hi' H':Hp):Prop where
 i:Same Hi Hi'
 h:Keep H H'
 s:Same Hi' H'
 n:∀ b,Hi b=none->Hi' b≠none->H b=none
theorem Ext.refl {Hi H:Hp} (h:Same Hi H):Ext Hi H Hi H:=⟨Same.refl _,Keep.refl _,h,fun _ e q=>absurd e q⟩
theorem Ext.trans {Hi H Hi1 H1 Hi2 H2:Hp} (a:Ext Hi H Hi1 H1) (b:Ext Hi1 H1 Hi2 H2):Ext Hi H Hi2 H2:=
 ⟨a.i.trans b.i,a.h.trans b.h,b.s,fun c e q=>by
  cases z:Hi1 c with
  | some o=>exact a.n c e (by rw [z];exact fun w=>by cases w)
  | none=>
   have z2:=b.n c z q
   exact a.h.none z2⟩
theorem aS {H:Hp} {p:Addr} (h:H p=none) (o:HO):Same H (upd H p o):=fun b u q=>by rw [aG (aZ q h)];exact q
theorem xU {H:Hp} {p:Addr} (h:H p=none) (o:HO):Keep H (upd H p o):=⟨fun b u q=>.inl (aS h o b u q),fun P e=>e.put (fun ps z=>by rw [h] at z;cases z) (fun ob u z=>by rw [h] at z;cases z)⟩
theorem _root_.L2.Same.none {H H':Hp} (h:Same H H') {p:Addr} (e:H' p=none):H p=none:=by
 cases z:H p with
 | none=>rfl
 | some o=>rw [h _ _ z] at e;cases e
theorem Ext.new {Hi H:Hp} {p:Addr} {o:HO} (h:Same Hi H) (hp:H p=none):Ext Hi H (upd Hi p o) (upd H p o) where
 i:=aS (h.none hp) o
 h:=xU hp o
 s:=fun b u q=>by
  by_cases e:b=p
  ·subst e;rw [aE] at q ⊢;exact q
  ·rw [aG e] at q ⊢;exact h _ _ q
 n:=fun b e q=>by
  by_cases z:b=p
  ·rw [z];exact hp
  ·rw [aG z] at q;exact absurd e q
theorem Ext.newF {Hi H:Hp} {p:Addr} {o:HO} (h:Same Hi H) (hp:H p=none):Ext Hi H Hi (upd H p o) where
 i:=Same.refl _
 h:=xU hp o
 s:=h.trans (aS hp o)
 n:=fun b e q=>absurd e q
theorem Ext.out {Hi H Hi' H':Hp} (e:Ext Hi H Hi' H') {a:Addr} {o:HO} (h:H a=some o) (hi:Hi a=none) (ho:∀ ps,o≠.tbl ps:=by intro ps z;cases z):H' a=some o/\Hi' a=none:=by
 refine ⟨e.h.at h ho,?_⟩
 cases z:Hi' a with
 | none=>rfl
 | some u=>have:=e.n a hi (by rw [z];exact fun w=>by cases w);rw [h] at this;cases this
theorem Ext.hold {Hi H Hi' H':Hp} (e:Ext Hi H Hi' H') {a:Addr} {o:HO} (hn:H a=none) (h:H' a=some o) (hi:Hi' a=none):Ext Hi H (upd Hi' a o) H' where
 i:=e.i.trans (aS hi o)
 h:=e.h
 s:=fun b u q=>by
  by_cases z:b=a
  ·subst z;rw [aE] at q;cases q;exact h
  ·rw [aG z] at q;exact e.s _ _ q
 n:=fun b z q=>by
  by_cases w:b=a
  ·rw [w];exact hn
  ·rw [aG w] at q;exact e.n b z q
def zDy (a C:Addr):Heap->Prop:=fun h=>∃ o vs,h.get? a=some o/\o.cls=.ref C/\o.data=.fields vs/\vs[2]?=some .none
def kvT (T:List (Str×Str)):List (Key×V):=T.map fun q=>(Sum.inr q.1,V.str q.2)
inductive Flds (K:PySem.W.Frag) (Hi:Hp):List (Str×V)->List (Str×D)->Prop where
 | nil:Flds K Hi [] []
 | cons {f:Str} {v:V} {d:D} {hs:List (Str×V)} {fs:List (Str×D)}:IsD K Hi v d->Flds K Hi hs fs->Flds K Hi ((f,v)::hs) ((f,d)::fs)
theorem Flds.mono {K:PySem.W.Frag} {H H':Hp} (e:Same H H'):∀ {hs:List (Str×V)} {fs:List (Str×D)},Flds K H hs fs->Flds K H' hs fs
 | _,_,.nil=>.nil
 | _,_,.cons h r=>.cons (h.mono e) (Flds.mono e r)
inductive FldsX (K:PySem.W.Frag) (Hi:Hp) (lf:Str):List (Str×V)->List (Str×D)->Prop where
 | nil:FldsX K Hi lf [] []
 | own {v:V} {hs:List (Str×V)} {fs:List (Str×D)}:hs.lookup lf=none->FldsX K Hi lf hs fs->FldsX K Hi lf ((lf,v)::hs) ((lf,.non)::fs)
 | cons {f:Str} {v:V} {d:D} {hs:List (Str×V)} {fs:List (Str×D)}:f≠lf->IsD K Hi v d->FldsX K Hi lf hs fs->FldsX K Hi lf ((f,v)::hs) ((f,d)::fs)
theorem FldsX.mono {K:PySem.W.Frag} {H H':Hp} {lf:Str} (e:Same H H'):∀ {hs:List (Str×V)} {fs:List (Str×D)},FldsX K H lf hs fs->FldsX K H' lf hs fs
 | _,_,.nil=>.nil
 | _,_,.own n r=>.own n (FldsX.mono e r)
 | _,_,.cons n h r=>.cons n (h.mono e) (FldsX.mono e r)
def pH (l:Addr) (us:List Value):Heap->Prop:=fun h=>h.PlainList l us.toArray
structure ObjAt (K:PySem.W.Frag) (mg:Str->Option Value) (B Hi H:Hp) (a:Addr) (c lf:Str) (fs:List (Str×D)) (ds:List D):Prop where
 ex:∃ l C dx hs xs us,H a=some (.ins C dx hs)/\Hi a=none/\B a=none/\mg c=some (.ref C)/\hs.lookup lf=some (.ref l)/\H l=some (.ext (pH l us))/\Hi l=none/\B l=none/\dM xs us/\IsDs K Hi xs ds/\FldsX K Hi lf hs fs
def uR (K:PySem.W.Frag) (mg:Str->Option Value) (B Hi H:Hp) (o:Option (Option V)):Sl->Prop
 | .un=>True
 | .val d=>∃ v,o=some (some v)/\IsD K Hi v d
 | .own ds=>∃ a xs,o=some (some (.ref a))/\H a=some (.lst xs)/\Hi a=none/\B a=none/\IsDs K Hi xs ds
 | .exc c=>∃ a C,o=some (some (.ref a))/\H a=some (.ext (zDy a C))/\Hi a=none/\True/\mg c=some (.ref C)
 | .tab T=>∃ a,o=some (some (.ref a))/\Hi a=some (.dK (kvT T))
 | .ins c fs=>∃ a C dx hs,o=some (some (.ref a))/\Hi a=some (.ins C dx hs)/\mg c=some (.ref C)/\Flds K Hi hs fs
 | .obj ao c lf fs ds=>∃ a,o=some (some (.ref a))/\(∀ b,ao=some b->a=b)/\ObjAt K mg B Hi H a c lf fs ds
structure Rel (K:PySem.W.Frag) (mg:Str->Option Value) (B Bi Hi H:Hp) (σ:St) (ρ:Rho):Prop where
 len:σ.length=ρ.length
 ext:Ext Bi B Hi H
 slot:∀ (i:Nat) (s:Sl),ρ[i]?=some s->uR K mg B Hi H σ[i]? s
 dist:∀ (i j:Nat) (a:Addr) (ds es:List D),ρ[i]?=some (.own ds)->ρ[j]?=some (.own es)->σ[i]?=some (some (.ref a))->σ[j]?=some (some (.ref a))->i=j
section
variable {K:PySem.W.Frag} {mg:Str->Option Value} {B Bi Hi H Hi' H':Hp} {σ:St} {ρ:Rho}
theorem ObjAt.ext {a:Addr} {c lf:Str} {fs:List (Str×D)} {ds:List D} (h:ObjAt K mg B Hi H a c lf fs ds) (e:Ext Hi H Hi' H'):ObjAt K mg B Hi' H' a c lf fs ds:=by
 obtain ⟨l,C,dx,hs,xs,us,h1,h2,h3,h4,h5,h6,h7,h8,h9,h10,h11⟩:=h
 obtain ⟨e1,e2⟩:=e.out h1 h2
 obtain ⟨e3,e4⟩:=e.out h6 h7
 exact ⟨l,C,dx,hs,xs,us,e1,e2,h3,h4,h5,e3,e4,h8,h9,h10.mono e.i,h11.mono e.i⟩
theorem uR.ext {o:Option (Option V)} {s:Sl} (h:uR K mg B Hi H o s) (e:Ext Hi H Hi' H'):uR K mg B Hi' H' o s:=by
 cases s with
 | un=>trivial
 | val d=>obtain ⟨v,q,r⟩:=h;exact ⟨v,q,r.mono e.i⟩
 | own ds=>
  obtain ⟨a,xs,q,h1,h2,h3,h4⟩:=h
  obtain ⟨e1,e2⟩:=e.out h1 h2
  exact ⟨a,xs,q,e1,e2,h3,h4.mono e.i⟩
 | exc c=>
  obtain ⟨a,C,q,h1,h2,h3,h4⟩:=h
  obtain ⟨e1,e2⟩:=e.out h1 h2
  exact ⟨a,C,q,e1,e2,h3,h4⟩
 | tab T=>obtain ⟨a,q,h1⟩:=h;exact ⟨a,q,e.i _ _ h1⟩
 | ins c fs=>obtain ⟨a,C,dx,hs,q,h1,h2,h3⟩:=h;exact ⟨a,C,dx,hs,q,e.i _ _ h1,h2,h3.mono e.i⟩
 | obj ao c lf fs ds=>obtain ⟨a,q,h1,h2⟩:=h;exact ⟨a,q,h1,h2.ext e⟩
theorem Rel.grow (R:Rel K mg B Bi Hi H σ ρ) (e:Ext Hi H Hi' H'):Rel K mg B Bi Hi' H' σ ρ:=⟨R.len,R.ext.trans e,fun i s q=>(R.slot i s q).ext e,R.dist⟩
theorem Rel.s (R:Rel K mg B Bi Hi H σ ρ):Same Hi H:=R.ext.s
theorem Rel.set {i:Nat} {v:V} {d:D} (R:Rel K mg B Bi Hi H σ ρ) (h:IsD K Hi v d):Rel K mg B Bi Hi H (σ.set i (some v)) (ρ.set i (.val d)) where
 len:=by rw [List.length_set,List.length_set];exact R.len
 ext:=R.ext
 slot:=fun j s q=>by
  by_cases e:i=j
  ·subst e
   by_cases hl:i < ρ.length
   ·rw [List.getElem?_set_self hl] at q;cases q
    exact ⟨v,by rw [List.getElem?_set_self (by rw [R.len];exact hl)],h⟩
   ·rw [List.getElem?_eq_none (by rw [List.length_set];omega)] at q;cases q
  ·rw [List.getElem?_set_ne e] at q ⊢
   exact R.slot j s q
 dist:=fun j k a ds es q1 q2 q3 q4=>by
  have h1:∀ {j:Nat} {ds:List D},(ρ.set i (.val d))[j]?=some (.own ds)->i≠j:=fun {j ds} q e=>by
   subst e
   by_cases hl:i < ρ.length
   ·rw [List.getElem?_set_self hl] at q;cases q
   ·rw [List.getElem?_eq_none (by rw [List.length_set];omega)] at q;cases q
  have n1:=h1 q1
  have n2:=h1 q2
  rw [List.getElem?_set_ne n1] at q1 q3
  rw [List.getElem?_set_ne n2] at q2 q4
  exact R.dist j k a ds es q1 q2 q3 q4
theorem Rel.setOwn {i:Nat} {a:Addr} {xs:List V} {ds:List D} (R:Rel K mg B Bi Hi H σ ρ) (e:Ext Hi H Hi' H') (hn:H a=none) (h:H' a=some (.lst xs)) (hi:Hi' a=none) (hs:IsDs K Hi' xs ds):
  Rel K mg B Bi Hi' H' (σ.set i (some (.ref a))) (ρ.set i (.own ds)) where
 len:=by rw [List.length_set,List.length_set];exact R.len
 ext:=R.ext.trans e
 slot:=fun j s q=>by
  by_cases z:i=j
  ·subst z
   by_cases hl:i < ρ.length
   ·rw [List.getElem?_set_self hl] at q;cases q
    exact ⟨a,xs,by rw [List.getElem?_set_self (by rw [R.len];exact hl)],h,hi,R.ext.h.none hn,hs⟩
   ·rw [List.getElem?_eq_none (by rw [List.length_set];omega)] at q;cases q
  ·rw [List.getElem?_set_ne z] at q ⊢
   exact (R.slot j s q).ext e
 dist:=fun j k b es fs q1 q2 q3 q4=>by
  have h1:∀ {j:Nat} {es:List D},i≠j->ρ[j]?=some (.own es)->σ[j]?=some (some (.ref a))->False:=fun {j es} _ p1 p2=>by
   obtain ⟨a',xs',q,h1,_⟩:=R.slot j _ p1
   rw [p2] at q
   cases q
   rw [hn] at h1;cases h1
  have h2:∀ {j:Nat} {es:List D},(ρ.set i (.own ds))[j]?=some (.own es)->i < σ.length∨i≠j:=fun {j es} p=>by
   by_cases z:i=j
   ·subst z
    by_cases hl:i < ρ.length
    ·exact .inl (by rw [R.len];exact hl)
    ·rw [List.getElem?_eq_none (by rw [List.length_set];omega)] at p;cases p
   ·exact .inr z
  by_cases z1:i=j
  ·by_cases z2:i=k
   ·rw [<-z1,<-z2]
   ·exfalso
    subst z1
    have hl:i < σ.length:=(h2 q1).resolve_right (fun w=>w rfl)
    rw [List.getElem?_set_self hl] at q3;cases q3
    rw [List.getElem?_set_ne z2] at q2 q4
    exact h1 z2 q2 q4
  ·by_cases z2:i=k
   ·exfalso
    subst z2
    have hl:i < σ.length:=(h2 q2).resolve_right (fun w=>w rfl)
    rw [List.getElem?_set_self hl] at q4;cases q4
    rw [List.getElem?_set_ne z1] at q1 q3
    exact h1 z1 q1 q3
   ·rw [List.getElem?_set_ne z1] at q1 q3
    rw [List.getElem?_set_ne z2] at q2 q4
    exact R.dist j k b es fs q1 q2 q3 q4
theorem Rel.write {i:Nat} {a:Addr} {ys:List V} {ds es:List D} (R:Rel K mg B Bi Hi H σ ρ) (e:ρ[i]?=some (.own ds)) (ea:σ[i]?=some (some (.ref a))) (hs:IsDs K Hi ys es):
  Rel K mg B Bi Hi (upd H a (.lst ys)) σ (ρ.set i (.own es)):=by
 obtain ⟨a',xs',q,h1,h2,h3,h4⟩:=R.slot i _ e
 rw [ea] at q
 cases q
 have hl:i < ρ.length:=by
  by_cases hl:i < ρ.length
  ·exact hl
  ·rw [List.getElem?_eq_none (by omega)] at e;cases e
 refine ⟨by rw [List.length_set];exact R.len,⟨R.ext.i,⟨fun b o z=>?_,fun P z=>(R.ext.h.t P z).put (fun ps y=>by rw [h1] at y;cases y) (fun ob u y=>by rw [h1] at y;cases y)⟩,fun b o z=>?_,R.ext.n⟩,fun j s z=>?_,fun j k b fs gs q1 q2 q3 q4=>?_⟩
 ·rw [aG (aZ z h3)];exact R.ext.h.k _ _ z
 ·rw [aG (aZ z h2)];exact R.ext.s _ _ z
 ·by_cases w:i=j
  ·subst w
   rw [List.getElem?_set_self hl] at z;cases z
   exact ⟨a,ys,ea,aE,h2,h3,hs⟩
  ·rw [List.getElem?_set_ne w] at z
   have S:=R.slot j s z
   cases s with
   | un=>trivial
   | val d=>exact S
   | own fs=>
    obtain ⟨b,zs,p,g1,g2,g3,g4⟩:=S
    have hb:b≠a:=fun c=>w (R.dist i j a ds fs e z ea (by rw [p,c]))
    exact ⟨b,zs,p,by rw [aG hb];exact g1,g2,g3,g4⟩
   | exc c=>
    obtain ⟨b,C,p,g1,g2,g3,g4⟩:=S
    have hb:b≠a:=zW g1 h1 (by intro z;cases z)
    exact ⟨b,C,p,by rw [aG hb];exact g1,g2,g3,g4⟩
   | tab T=>exact S
   | ins c fs=>exact S
   | obj ao c lf fs ds=>
    obtain ⟨b,p,g1,l,C,dx,hs,xs,us,k1,k2,k3,k4,k5,k6,k7⟩:=S
    have hb:b≠a:=zW k1 h1 (by intro z;cases z)
    have hl':l≠a:=zW k6 h1 (by intro z;cases z)
    exact ⟨b,p,g1,l,C,dx,hs,xs,us,by rw [aG hb];exact k1,k2,k3,k4,k5,by rw [aG hl'];exact k6,k7⟩
 ·have own:∀ {j:Nat} {fs:List D},(ρ.set i (.own es))[j]?=some (.own fs)->∃ gs,ρ[j]?=some (.own gs):=fun {j fs} p=>by
   by_cases w:i=j
   ·subst w;exact ⟨ds,e⟩
   ·rw [List.getElem?_set_ne w] at p;exact ⟨fs,p⟩
  obtain ⟨fs',q1'⟩:=own q1
  obtain ⟨gs',q2'⟩:=own q2
  exact R.dist j k b fs' gs' q1' q2' q3 q4
theorem Rel.frzAt {i:Nat} (R:Rel K mg B Bi Hi H σ ρ):∃ Hi',Same Hi Hi'/\Rel K mg B Bi Hi' H σ (L3.frzAt i ρ):=by
 unfold L3.frzAt
 split
 ·rename_i ds e
  obtain ⟨a,xs,q,h1,h2,h3,h4⟩:=R.slot i _ e
  have hl:i < ρ.length:=by
   by_cases hl:i < ρ.length
   ·exact hl
   ·rw [List.getElem?_eq_none (by omega)] at e;cases e
  have sm:Same Hi (upd Hi a (.lst xs)):=aS h2 _
  have ss:Same (upd Hi a (.lst xs)) H:=fun b u z=>by
   by_cases w:b=a
   ·subst w;rw [aE] at z;cases z;exact h1
   ·rw [aG w] at z;exact R.s _ _ z
  refine ⟨upd Hi a (.lst xs),sm,by rw [List.length_set];exact R.len,⟨R.ext.i.trans sm,R.ext.h,ss,fun b z w=>?_⟩,fun j s z=>?_,fun j k b fs gs q1 q2 q3 q4=>?_⟩
  ·by_cases c:b=a
   ·rw [c];exact h3
   ·rw [aG c] at w;exact R.ext.n b z w
  ·by_cases w:i=j
   ·subst w
    rw [List.getElem?_set_self hl] at z;cases z
    exact ⟨.ref a,q,.lst (SqL.of aE) (h4.mono sm)⟩
   ·rw [List.getElem?_set_ne w] at z
    have S:=R.slot j s z
    cases s with
    | un=>trivial
    | val d=>obtain ⟨v,p,r⟩:=S;exact ⟨v,p,r.mono sm⟩
    | own fs=>
     obtain ⟨b,zs,p,g1,g2,g3,g4⟩:=S
     have hb:b≠a:=fun c=>w (R.dist i j a ds fs e z q (by rw [p,c]))
     exact ⟨b,zs,p,g1,by rw [aG hb];exact g2,g3,g4.mono sm⟩
    | exc c=>
     obtain ⟨b,C,p,g1,g2,g3,g4⟩:=S
     have hb:b≠a:=zW g1 h1 (by intro z;cases z)
     exact ⟨b,C,p,g1,by rw [aG hb];exact g2,g3,g4⟩
    | tab T=>obtain ⟨b,p,g1⟩:=S;exact ⟨b,p,sm _ _ g1⟩
    | ins c fs=>obtain ⟨b,C,dx,hs,p,g1,g2,g3⟩:=S;exact ⟨b,C,dx,hs,p,sm _ _ g1,g2,g3.mono sm⟩
    | obj ao c lf fs ds=>
     obtain ⟨b,p,g1,l,C,dx,hs,xs,us,k1,k2,k3,k4,k5,k6,k7,k8,k9,k10,k11⟩:=S
     have hb:b≠a:=zW k1 h1 (by intro z;cases z)
     have hl':l≠a:=zW k6 h1 (by intro z;cases z)
     exact ⟨b,p,g1,l,C,dx,hs,xs,us,k1,by rw [aG hb];exact k2,k3,k4,k5,k6,by rw [aG hl'];exact k7,k8,k9,k10.mono sm,k11.mono sm⟩
  ·have own:∀ {j:Nat} {fs:List D},(ρ.set i (.val (.lst ds)))[j]?=some (.own fs)->ρ[j]?=some (.own fs):=fun {j fs} p=>by
    by_cases w:i=j
    ·subst w;rw [List.getElem?_set_self hl] at p;cases p
    ·rw [List.getElem?_set_ne w] at p;exact p
   exact R.dist j k b fs gs (own q1) (own q2) q3 q4
 ·exact ⟨Hi,Same.refl _,R⟩
end
end L3
namespace L3
open PySem PySem.Spec PyProof.Rows L2
section
variable {K:PySem.W.Frag} {mg:Str->Option Value} {B Bi Hi H Hi' H':Hp} {σ:St} {ρ:Rho}
theorem Rel.frz (R:Rel K mg B Bi Hi H σ ρ):∃ Hf,Same Hi Hf/\Rel K mg B Bi Hf H σ (ρ.map Sl.frz)/\∀ b,Hi b=none->Hf b≠none->∃ xs,Hf b=some (.lst xs):=by
 let own:Addr->Prop:=fun b=>∃ (i:Nat) (ds:List D),ρ[i]?=some (.own ds)/\σ[i]?=some (some (.ref b))
 have dec:∀ b,Decidable (own b):=fun b=>Classical.propDecidable _
 let Hf:Hp:=fun b=>match Hi b with
  | some o=>some o
  | none=>if own b then H b else none
 have hf1:∀ b o,Hi b=some o->Hf b=some o:=fun b o e=>by show (match Hi b with | some o=>some o | none=>if own b then H b else none)=_;rw [e]
 have hf2:∀ b,Hi b=none->own b->Hf b=H b:=fun b e z=>by show (match Hi b with | some o=>some o | none=>if own b then H b else none)=_;rw [e];exact if_pos z
 have hf3:∀ b,Hi b=none->¬ own b->Hf b=none:=fun b e z=>by show (match Hi b with | some o=>some o | none=>if own b then H b else none)=_;rw [e];exact if_neg z
 have lst:∀ b,own b->∃ xs,H b=some (.lst xs)/\Hi b=none/\B b=none:=fun b ⟨i,ds,e1,e2⟩=>by
  obtain ⟨a,xs,q,h1,h2,h3,h4⟩:=R.slot i _ e1
  rw [e2] at q;cases q
  exact ⟨xs,h1,h2,h3⟩
 have ss:Same Hf H:=fun b o z=>by
  cases q:Hi b with
  | some u=>rw [hf1 b u q] at z;cases z;exact R.s _ _ q
  | none=>
   by_cases w:own b
   ·rw [hf2 b q w] at z;exact z
   ·rw [hf3 b q w] at z;cases z
 refine ⟨Hf,hf1,⟨by rw [List.length_map];exact R.len,⟨R.ext.i.trans hf1,R.ext.h,ss,fun b z w=>?_⟩,fun j s z=>?_,fun j k b fs gs q1 q2 q3 q4=>?_⟩,fun b z w=>?_⟩
 ·cases q:Hi b with
  | some u=>exact R.ext.n b z (by rw [q];exact fun c=>by cases c)
  | none=>
   by_cases c:own b
   ·exact (lst b c).choose_spec.2.2
   ·exact absurd (hf3 b q c) w
 ·rw [List.getElem?_map] at z
  cases e:ρ[j]? with
  | none=>rw [e] at z;cases z
  | some t=>
   rw [e] at z
   cases z
   have S:=R.slot j t e
   cases t with
   | un=>trivial
   | val d=>obtain ⟨v,p,r⟩:=S;exact ⟨v,p,r.mono hf1⟩
   | own ds=>
    obtain ⟨a,xs,q,h1,h2,h3,h4⟩:=S
    exact ⟨.ref a,q,.lst (SqL.of (by rw [hf2 a h2 ⟨j,ds,e,q⟩];exact h1)) (h4.mono hf1)⟩
   | exc c=>
    obtain ⟨a,C,q,h1,h2,h3,h4⟩:=S
    refine ⟨a,C,q,h1,?_,h3,h4⟩
    refine hf3 a h2 fun c=>?_
    obtain ⟨xs,g,_⟩:=lst a c
    rw [h1] at g;cases g
   | tab T=>obtain ⟨a,q,h1⟩:=S;exact ⟨a,q,hf1 _ _ h1⟩
   | ins c fs=>obtain ⟨a,C,dx,hs,q,h1,h2,h3⟩:=S;exact ⟨a,C,dx,hs,q,hf1 _ _ h1,h2,h3.mono hf1⟩
   | obj ao c lf fs ds=>
    obtain ⟨a,q,h0,l,C,dx,hs,xs,us,h1,h2,h3,h4,h5,h6,h7,h8,h9,h10,h11⟩:=S
    refine ⟨a,q,h0,l,C,dx,hs,xs,us,h1,?_,h3,h4,h5,h6,?_,h8,h9,h10.mono hf1,h11.mono hf1⟩
    ·refine hf3 a h2 fun c=>?_
     obtain ⟨xs,g,_⟩:=lst a c
     rw [h1] at g;cases g
    ·refine hf3 l h7 fun c=>?_
     obtain ⟨xs,g,_⟩:=lst l c
     rw [h6] at g;cases g
 ·exfalso
  rw [List.getElem?_map] at q1
  cases e:ρ[j]? with
  | none=>rw [e] at q1;cases q1
  | some t=>rw [e] at q1;cases t<;>cases q1
 ·by_cases c:own b
  ·obtain ⟨xs,g,_⟩:=lst b c
   exact ⟨xs,by rw [hf2 b z c];exact g⟩
  ·exact absurd (hf3 b z c) w
theorem Ext.thaw {Hf:Hp} (s:Same Hi Hf) (fl:∀ b,Hi b=none->Hf b≠none->∃ xs,Hf b=some (.lst xs)) (hs:Same Hf H) (e:Ext Hf H Hi' H'):
  ∃ Ht,Ext Hi H Ht H'/\(∀ b xs,Rd Hi' b (.tup xs)->Rd Ht b (.tup xs))/\Same Ht Hi'/\∀ b,Ht b=none->Hi' b=none∨∃ xs,H b=some (.lst xs):=by
 have dec:∀ b,Decidable (Hi b=none/\Hf b≠none):=fun b=>Classical.propDecidable _
 let Ht:Hp:=fun b=>if Hi b=none/\Hf b≠none then none else Hi' b
 have t1:∀ b,¬ (Hi b=none/\Hf b≠none)->Ht b=Hi' b:=fun b z=>if_neg z
 have t2:∀ b,(Hi b=none/\Hf b≠none)->Ht b=none:=fun b z=>if_pos z
 have tt:Same Ht Hi':=fun b o z=>by
  by_cases w:Hi b=none/\Hf b≠none
  ·rw [t2 b w] at z;cases z
  ·rw [t1 b w] at z;exact z
 refine ⟨Ht,⟨fun b o z=>?_,e.h,tt.trans e.s,fun b z w=>?_⟩,fun b xs r=>?_,tt,fun b z=>?_⟩
 ·rw [t1 b (fun w=>by rw [z] at w;cases w.1)];exact e.i _ _ (s _ _ z)
 ·by_cases c:Hi b=none/\Hf b≠none
  ·exact absurd (t2 b c) w
  ·rw [t1 b c] at w
   have:Hf b=none:=by
    cases q:Hf b with
    | none=>rfl
    | some u=>exact absurd ⟨z,by rw [q];exact fun c=>by cases c⟩ c
   exact e.n b this w
 ·have nl:¬ (Hi b=none/\Hf b≠none):=fun w=>by
   obtain ⟨ys,g⟩:=fl b w.1 w.2
   have g':=e.i _ _ g
   rcases r with r | ⟨o,r⟩<;>(rw [g'] at r;cases r)
  rcases r with r | ⟨o,r⟩
  ·exact .inl (by rw [t1 b nl];exact r)
  ·exact .inr ⟨o,by rw [t1 b nl];exact r⟩
 ·by_cases c:Hi b=none/\Hf b≠none
  ·obtain ⟨ys,g⟩:=fl b c.1 c.2
   exact .inr ⟨ys,hs _ _ g⟩
  ·exact .inl (by rw [t1 b c] at z;exact z)
end
structure Gx where
 B:Hp
 Bi:Hp
 E:Str->Hp->Prop
abbrev dS (X:Cx) (G:Gx) (Hi H:Hp) (σ:St) (ρ:Rho):Prop:=Rel X.K X.mg G.B G.Bi Hi H σ ρ
def Out (G:Gx) (Hi H:Hp) {α:Type} (r:Res α) (k:α->Hp->Hp->Prop):Prop:=match r with
 | .ok a=>∀ Hi' H',Ext Hi H Hi' H'->k a Hi' H'
 | .err c=>∀ Hi' H',Ext Hi H Hi' H'->G.E c H'
 | .no=>False
theorem Out.bind {G:Gx} {Hi H:Hp} {α β:Type} {r:Res α} {f:α->Res β} {k:β->Hp->Hp->Prop} (h:Out G Hi H (r.bind f) k):
  Out G Hi H r fun a Hi' H'=>Out G Hi' H' (f a) k:=by
 cases r with
 | no=>exact h
 | err c=>exact h
 | ok a=>
  intro Hi1 H1 e
  have h':Out G Hi H (f a) k:=h
  show Out G Hi1 H1 (f a) k
  cases q:f a with
  | no=>rw [q] at h';exact h'
  | err c=>rw [q] at h';exact fun Hi2 H2 e2=>h' _ _ (e.trans e2)
  | ok b=>rw [q] at h';exact fun Hi2 H2 e2=>h' _ _ (e.trans e2)
theorem Out.imp {G:Gx} {Hi H:Hp} {α:Type} {r:Res α} {k k':α->Hp->Hp->Prop} (h:Out G Hi H r k) (f:∀ a Hi' H',Ext Hi H Hi' H'->k a Hi' H'->k' a Hi' H'):Out G Hi H r k':=by
 cases r with
 | no=>exact h
 | err c=>exact h
 | ok a=>exact fun Hi1 H1 e=>f a Hi1 H1 e (h Hi1 H1 e)
theorem Out.here {G:Gx} {Hi H:Hp} {α:Type} {a:α} {k:α->Hp->Hp->Prop} (h:Out G Hi H (.ok a) k) (s:Same Hi H):k a Hi H:=h Hi H (Ext.refl s)
def tD (X:Cx) (G:Gx) (f:Ev):TE:=fun σ H Q=>∃ ρ Hi,dS X G Hi H σ ρ/\Out G Hi H (f ρ) fun d Hi' H'=>∀ v,IsD X.K Hi' v d->Q v H'
def zGV (K:PySem.W.Frag) (H Hi' H':Hp) (a:Addr) (ds:List D):Prop:=H a=none/\Hi' a=none/\∃ xs,H' a=some (.lst xs)/\IsDs K Hi' xs ds
def tF (X:Cx) (G:Gx) (f:Fv):TE:=fun σ H Q=>∃ ρ Hi,dS X G Hi H σ ρ/\Out G Hi H (f ρ) fun ds Hi' H'=>∀ a,zGV X.K H Hi' H' a ds->Q (.ref a) H'
def tTb (X:Cx) (G:Gx) (f:Tv):TT:=fun σ H Q=>∃ ρ Hi,dS X G Hi H σ ρ/\Out G Hi H (f ρ) fun b _ H'=>Q b H'
def tAs (X:Cx) (G:Gx) (f:Fv):TA:=fun σ H Q=>∃ ρ Hi,dS X G Hi H σ ρ/\Out G Hi H (f ρ) fun ds Hi' H'=>∀ vs,IsDs X.K Hi' vs ds->Q vs H'
def Fin (X:Cx) (G:Gx) (Hi:Hp) (E:Ends) (r:Res Fl):Prop:=match r with
 | .ok (.nx ρ')=>∀ σ' Hi' H',Same Hi Hi'->dS X G Hi' H' σ' ρ'->E.nx σ' H'
 | .ok (.brk ρ')=>∀ σ' Hi' H',Same Hi Hi'->dS X G Hi' H' σ' ρ'->E.bk σ' H'
 | .ok (.ctn ρ')=>∀ σ' Hi' H',Same Hi Hi'->dS X G Hi' H' σ' ρ'->E.ct σ' H'
 | .ok (.ret (.v d))=>∀ v Hi' H',Ext G.Bi G.B Hi' H'->IsD X.K Hi' v d->E.rt v H'
 | .ok (.ret (.f ds))=>∀ a Hi' H',Ext G.Bi G.B Hi' H'->zGV X.K G.B Hi' H' a ds->E.rt (.ref a) H'
 | .ok (.ret (.w a d c lf fs ds))=>∀ v Hi' H',Ext G.Bi G.B Hi' H'->IsD X.K Hi' v d->ObjAt X.K X.mg G.B Hi' H' a c lf fs ds->E.rt v H'
 | .err c=>∀ Hi' H',Ext G.Bi G.B Hi' H'->G.E c H'
 | .no=>False
theorem Fin.mono {X:Cx} {G:Gx} {Hi Hi':Hp} {E:Ends} {r:Res Fl} (h:Fin X G Hi E r) (s:Same Hi Hi'):Fin X G Hi' E r:=by
 cases r with
 | no=>exact h
 | err c=>exact h
 | ok f=>
  cases f with
  | nx ρ=>exact fun σ' Hi2 H2 s2=>h σ' Hi2 H2 (s.trans s2)
  | brk ρ=>exact fun σ' Hi2 H2 s2=>h σ' Hi2 H2 (s.trans s2)
  | ctn ρ=>exact fun σ' Hi2 H2 s2=>h σ' Hi2 H2 (s.trans s2)
  | ret r=>cases r<;>exact h
def tS (X:Cx) (G:Gx) (f:Sv):TS:=fun E σ H=>∃ ρ Hi,dS X G Hi H σ ρ/\Fin X G Hi E (f ρ)
@[irreducible] def PEd (X:Cx) (G:Gx) (e:Expr) (f:Ev):Prop:=PE X e (tD X G f)
unseal PEd
@[irreducible] def PEf (X:Cx) (G:Gx) (e:Expr) (f:Fv):Prop:=PE X e (tF X G f)
unseal PEf
@[irreducible] def PTd (X:Cx) (G:Gx) (e:Expr) (f:Tv):Prop:=PT X e (tTb X G f)
unseal PTd
@[irreducible] def PWd (X:Cx) (G:Gx) (e:Expr) (f:Tv):Prop:=PW X e (tTb X G f)
unseal PWd
@[irreducible] def PAd (X:Cx) (G:Gx) (es:List Expr) (f:Fv):Prop:=PA X es (tAs X G f)
unseal PAd
@[irreducible] def PSd (X:Cx) (G:Gx) (s:Stmt) (f:Sv):Prop:=PS X s (tS X G f)
unseal PSd
@[irreducible] def bX (X:Cx) (G:Gx) (s:List Stmt) (f:Sv):Prop:=PSs X s (tS X G f)
unseal bX
theorem PE.wk {X:Cx} {e:Expr} {t t':TE} (h:PE X e t) (w:∀ σ H Q,t' σ H Q->t σ H Q):PE X e t':=fun pins s σ H Q I q=>h pins s σ H Q I (w σ H Q q)
theorem PT.wk {X:Cx} {e:Expr} {t t':TT} (h:PT X e t) (w:∀ σ H Q,t' σ H Q->t σ H Q):PT X e t':=fun pins s σ H Q I q=>h pins s σ H Q I (w σ H Q q)
theorem PW.wk {X:Cx} {e:Expr} {t t':TT} (h:PW X e t) (w:∀ σ H Q,t' σ H Q->t σ H Q):PW X e t':=fun wh pins s σ H Q I q=>h wh pins s σ H Q I (w σ H Q q)
theorem PA.wk {X:Cx} {es:List Expr} {t t':TA} (h:PA X es t) (w:∀ σ H Q,t' σ H Q->t σ H Q):PA X es t':=fun pos pins s σ H Q I q=>h pos pins s σ H Q I (w σ H Q q)
theorem PS.wk {X:Cx} {s:Stmt} {t t':TS} (h:PS X s t) (w:∀ E σ H,t' E σ H->t E σ H):PS X s t':=fun pins s σ H E I q=>h pins s σ H E I (w E σ H q)
theorem PSs.wk {X:Cx} {s:List Stmt} {t t':TS} (h:PSs X s t) (w:∀ E σ H,t' E σ H->t E σ H):PSs X s t':=fun pins s σ H E I q=>h pins s σ H E I (w E σ H q)
section
variable {X:Cx} {G:Gx} {a b e:Expr} {es:List Expr} {pos:Pos} {f g:Ev}
theorem zHQ (i:Nat) (h:PE X e (qJ i)):PEd X G e (aH i):=PE.wk h fun σ H Q q=>by
 obtain ⟨ρ,Hi,R,o⟩:=q
 unfold aH at o
 cases z:ρ[i]? with
 | none=>rw [z] at o;exact o.elim
 | some s=>
  rw [z] at o
  cases s with
  | val d=>
   obtain ⟨v,p,r⟩:=R.slot i _ z
   exact ⟨v,p,o.here R.s v r⟩
  | un=>exact o.elim
  | own ds=>exact o.elim
  | exc c=>exact o.elim
  | tab T=>exact o.elim
  | ins c fs=>exact o.elim
  | obj ao c lf fs ds=>exact o.elim
theorem jF {v:V} {d:D} (h:PE X e (tC v)) (r:∀ H,IsD X.K H v d):PEd X G e (eC d):=PE.wk h fun σ H Q q=>by
 obtain ⟨ρ,Hi,R,o⟩:=q
 exact o.here R.s v (r Hi)
theorem lZ {Hi H:Hp} {σ:St} {ρ:Rho} {β:Type} {k:D->Res β} {k':β->Hp->Hp->Prop} {Q:VK} (R:dS X G Hi H σ ρ) (o:Out G Hi H ((f ρ).bind k) k')
  (w:∀ v d Hi' H',Ext Hi H Hi' H'->dS X G Hi' H' σ ρ->IsD X.K Hi' v d->Out G Hi' H' (k d) k'->Q v H'):tD X G f σ H Q:=
 ⟨ρ,Hi,R,o.bind.imp fun d Hi' H' e q v r=>w v d Hi' H' e (R.grow e) r q⟩
def OpK (X:Cx) (r:R2) (o:Op2):Prop:=(∀ a b c,o a b≠.err c)/\∀ (Hi H:Hp) (x y:V) (a b d:D) (Q:VK),Same Hi H->IsD X.K Hi x a->IsD X.K Hi y b->o a b=.ok d->
 (∀ v Hi' H',Ext Hi H Hi' H'->IsD X.K Hi' v d->Q v H')->r x y H Q
theorem op2 {r:R2} {o:Op2} (k:OpK X r o):∀ σ H Q,tD X G (eOp o f g) σ H Q->tOp r (tD X G f) (tD X G g) σ H Q:=fun σ H Q q=>by
 obtain ⟨ρ,Hi,R,ou⟩:=q
 refine lZ R ou fun v d Hi1 H1 e1 R1 r1 o1=>?_
 refine lZ R1 o1 fun w d' Hi2 H2 e2 R2 r2 o2=>?_
 cases z:o d d' with
 | no=>rw [z] at o2;exact o2.elim
 | err c=>exact absurd z (k.1 d d' c)
 | ok u=>
  rw [z] at o2
  exact k.2 Hi2 H2 v w d d' u Q R2.s (r1.mono e2.i) r2 z fun x Hi3 H3 e3 r3=>o2 Hi3 H3 e3 x r3
theorem aU {op:Operator} {r:R2} {o:Op2} (ho:OpR X (binaryOp op) r) (k:OpK X r o) (ha:PEd X G a f) (hb:PEd X G b g):PEd X G (.BinOp a op b pos) (eOp o f g):=PE.wk (zHw ho ha hb) (op2 k)
theorem uG {op:CmpOp} {r:R2} {o:Op2} (ho:OpR X (compareOp op) r) (k:OpK X r o) (ha:PEd X G a f) (hb:PEd X G b g) (hm:behindInMarks op b=false):PEd X G (.Compare a [op] [b] pos) (eOp o f g):=PE.wk (zBr ho ha hb hm) (op2 k)
theorem zAm {r:R2} {o:Op2} (ho:IxR X r) (k:OpK X r o) (ha:PEd X G a f) (hb:PEd X G b g) (hs:vP b):PEd X G (.Subscript a b pos) (eOp o f g):=PE.wk (zHm ho ha hb hs) (op2 k)
theorem tst {op:CmpOp} {r:R2} {o:Op2} (ho:OpR X (compareOp op) r) (k:OpK X r o) (ha:PEd X G a f) (hb:PEd X G b g) (hm:behindInMarks op b=false):PTd X G (.Compare a [op] [b] pos) (cM (eOp o f g)):=
 PT.wk (wP ho ha hb hm) fun σ H Q q=>by
  obtain ⟨ρ,Hi,R,ou⟩:=q
  refine op2 k σ H _ ⟨ρ,Hi,R,ou.bind.imp fun d Hi' H' e o v r=>?_⟩
  cases d with
  | bl c=>rw [r.blI];exact ⟨c,rfl,o.here e.s⟩
  | _=>exact o.elim
theorem yW (h:PEd X G a f) (he:∀ whole,isTrue a X.env whole=(do let v <-whole;standAt a.pos;holding [v] (truthy v)):=by intro _;rfl):PTd X G a (cM f):=PT.wk (zEX h he) fun σ H Q q=>by
 obtain ⟨ρ,Hi,R,ou⟩:=q
 refine ⟨ρ,Hi,R,ou.bind.imp fun d Hi' H' e o v r=>?_⟩
 cases d with
 | bl c=>rw [r.blI];exact ⟨c,rfl,o.here e.s⟩
 | _=>exact o.elim
variable {t u:Tv}
theorem zJO {Hi H:Hp} {σ:St} {ρ:Rho} {β:Type} {k:Bool->Res β} {k':β->Hp->Hp->Prop} {Q:Bool->Hp->Prop} (R:dS X G Hi H σ ρ) (o:Out G Hi H ((t ρ).bind k) k')
  (w:∀ c Hi' H',Ext Hi H Hi' H'->dS X G Hi' H' σ ρ->Out G Hi' H' (k c) k'->Q c H'):tTb X G t σ H Q:=
 ⟨ρ,Hi,R,o.bind.imp fun d Hi' H' e q=>w d Hi' H' e (R.grow e) q⟩
theorem zGe (h:PTd X G a t):PTd X G (.UnaryOp .Not a pos) (lO t):=PT.wk (zFe h) fun σ H Q q=>by
 obtain ⟨ρ,Hi,R,ou⟩:=q
 exact zJO R ou fun c Hi1 H1 e1 R1 o1=>o1.here R1.s
theorem zEJ (h:PTd X G a t):PWd X G (.BoolOp .And [a] pos) t:=zAR h
theorem qS (h:PTd X G a t):PWd X G (.BoolOp .Or [a] pos) t:=zIo h
theorem zHB {rest:List Expr} (ha:PTd X G a t) (hb:PWd X G (.BoolOp .And (b::rest) pos) u):PWd X G (.BoolOp .And (a::b::rest) pos) (zBA t u):=PW.wk (zFi ha hb) fun σ H Q q=>by
 obtain ⟨ρ,Hi,R,ou⟩:=q
 refine zJO R ou fun c Hi1 H1 e1 R1 o1=>?_
 cases c with
 | true=>exact ⟨ρ,Hi1,R1,o1⟩
 | false=>exact o1.here R1.s
theorem zCV {rest:List Expr} (ha:PTd X G a t) (hb:PWd X G (.BoolOp .Or (b::rest) pos) u):PWd X G (.BoolOp .Or (a::b::rest) pos) (tL t u):=PW.wk (zKj ha hb) fun σ H Q q=>by
 obtain ⟨ρ,Hi,R,ou⟩:=q
 refine zJO R ou fun c Hi1 H1 e1 R1 o1=>?_
 cases c with
 | true=>exact o1.here R1.s
 | false=>exact ⟨ρ,Hi1,R1,o1⟩
theorem PWd.pt {e:Expr} (h:PWd X G e t):PTd X G e t:=PW.pt h
theorem yJ {op} (h:PEd X G a f):PEd X G (.BoolOp op [a] pos) f:=zHO h
theorem yL {rest:List Expr} (ha:PEd X G a f) (hb:PEd X G (.BoolOp .And (b::rest) pos) g):PEd X G (.BoolOp .And (a::b::rest) pos) (zFZ f g):=PE.wk (zIR ha hb) fun σ H Q q=>by
 obtain ⟨ρ,Hi,R,ou⟩:=q
 refine lZ R ou fun v d Hi1 H1 e1 R1 r1 o1=>?_
 cases d with
 | bl c=>
  refine ⟨c,r1.blI,?_⟩
  cases c with
  | true=>exact ⟨ρ,Hi1,R1,o1⟩
  | false=>exact o1.here R1.s _ (.bl false)
 | _=>exact o1.elim
theorem zIu (ha:PEd X G a f):PEd X G (.UnaryOp .Not a pos) (eUn zKu f):=PE.wk (zHt ha) fun σ H Q q=>by
 obtain ⟨ρ,Hi,R,ou⟩:=q
 refine lZ R ou fun v d Hi1 H1 e1 R1 r1 o1=>?_
 cases d with
 | bl c=>exact ⟨c,r1.blI,o1.here R1.s _ (.bl _)⟩
 | _=>exact o1.elim
theorem zFd (ha:PEd X G a f):PEd X G (.UnaryOp .USub a pos) (eUn zJx f):=PE.wk (zKr zIG ha) fun σ H Q q=>by
 obtain ⟨ρ,Hi,R,ou⟩:=q
 refine lZ R ou fun v d Hi1 H1 e1 R1 r1 o1=>?_
 cases d with
 | int c=>exact ⟨c,r1.intI,o1.here R1.s _ (.int _)⟩
 | _=>exact o1.elim
theorem zIr {c:Expr} (hc:PTd X G c t) (ha:PEd X G a f) (hb:PEd X G b g):PEd X G (.IfExp c a b pos) (eIf t f g):=PE.wk (zDZ hc ha hb) fun σ H Q q=>by
 obtain ⟨ρ,Hi,R,ou⟩:=q
 refine zJO R ou fun c Hi1 H1 e1 R1 o1=>?_
 cases c with
 | true=>exact ⟨ρ,Hi1,R1,o1⟩
 | false=>exact ⟨ρ,Hi1,R1,o1⟩
variable {fs:Fv}
theorem aT:PAd X G [] aNil:=PA.wk gK fun σ H Q q=>by
 obtain ⟨ρ,Hi,R,ou⟩:=q
 exact ou.here R.s [] .nil
theorem aB (ha:PEd X G e f) (hr:PAd X G es fs) (hs:starEach (e::es) X.env=(false,eval e X.env)::starEach es X.env:=by rfl):PAd X G (e::es) (aA f fs):=PA.wk (cT ha hr hs) fun σ H Q q=>by
 obtain ⟨ρ,Hi,R,ou⟩:=q
 refine lZ R ou fun v d Hi1 H1 e1 R1 r1 o1=>?_
 refine ⟨ρ,Hi1,R1,o1.bind.imp fun ds Hi2 H2 e2 o2 vs rs=>?_⟩
 exact o2.here e2.s _ (.cons (r1.mono e2.i) rs)
theorem zEs {Hi H:Hp} {σ:St} {ρ:Rho} {β:Type} {k:List D->Res β} {k':β->Hp->Hp->Prop} {Q:List V->Hp->Prop} (R:dS X G Hi H σ ρ) (o:Out G Hi H ((fs ρ).bind k) k')
  (w:∀ vs ds Hi' H',Ext Hi H Hi' H'->dS X G Hi' H' σ ρ->IsDs X.K Hi' vs ds->Out G Hi' H' (k ds) k'->Q vs H'):tAs X G fs σ H Q:=
 ⟨ρ,Hi,R,o.bind.imp fun d Hi' H' e q v r=>w v d Hi' H' e (R.grow e) r q⟩
theorem qN {x1} (h:PAd X G es fs):PEd X G (.Tuple es x1 pos) (zDg fs):=PE.wk (zEZ h) fun σ H Q q=>by
 obtain ⟨ρ,Hi,R,ou⟩:=q
 refine zEs R ou fun vs ds Hi1 H1 e1 R1 r1 o1=>?_
 by_cases hz:ds.length<=16777216
 ·rw [if_pos hz] at o1
  refine ⟨by rw [r1.length];exact hz,fun p hp=>?_⟩
  exact o1 _ _ (Ext.new R1.s hp) (.ref p) (.tup (SqT.of aE) (r1.mono (aS (R1.s.none hp) _)))
 ·rw [if_neg hz] at o1;exact o1.elim
theorem eX (h:PAd X G es fs):PEf X G (.List es pos) (pS fs):=PE.wk (zIn h) fun σ H Q q=>by
 obtain ⟨ρ,Hi,R,ou⟩:=q
 refine zEs R ou fun vs ds Hi1 H1 e1 R1 r1 o1=>?_
 by_cases hz:ds.length<=16777216
 ·rw [if_pos hz] at o1
  refine ⟨by rw [r1.length];exact hz,fun p hp=>?_⟩
  exact o1 _ _ (Ext.newF R1.s hp) p ⟨e1.h.none hp,R1.s.none hp,vs,aE,r1⟩
 ·rw [if_neg hz] at o1;exact o1.elim
theorem PEf.d (h:PEf X G e fs):PEd X G e (eF fs):=PE.wk h fun σ H Q q=>by
 obtain ⟨ρ,Hi,R,ou⟩:=q
 refine ⟨ρ,Hi,R,?_⟩
 cases z:fs ρ with
 | no=>unfold eF at ou;rw [z] at ou;exact ou
 | err c=>unfold eF at ou;rw [z] at ou;exact ou
 | ok ds=>
  unfold eF at ou;rw [z] at ou
  intro Hi1 H1 e1 a n
  obtain ⟨n1,n2,xs,n3,n4⟩:=n
  have ou':∀ Hi' H',Ext Hi H Hi' H'->∀ v,IsD X.K Hi' v (.lst ds)->Q v H':=ou
  exact ou' _ _ (e1.hold n1 n3 n2) (.ref a) (.lst (SqL.of aE) (n4.mono (aS n2 _)))
theorem PEd.frz (h:PEd X G e f):PEd X G e (zJz f):=PE.wk h fun σ H Q q=>by
 obtain ⟨ρ,Hi,R,ou⟩:=q
 obtain ⟨Hf,s1,R1,fl⟩:=R.frz
 refine ⟨ρ.map Sl.frz,Hf,R1,?_⟩
 unfold zJz at ou
 cases z:f (ρ.map Sl.frz) with
 | no=>rw [z] at ou;exact ou
 | err c=>
  rw [z] at ou
  intro Hi1 H1 e1
  have ou':∀ Hi' H',Ext Hi H Hi' H'->G.E c H':=ou
  obtain ⟨Ht,e2,k,s2,n⟩:=Ext.thaw s1 fl R1.s e1
  exact ou' Ht H1 e2
 | ok d=>
  rw [z] at ou
  by_cases hz:noL d=true
  ·have ou':Out G Hi H (if noL d=true then Res.ok d else .no) _:=ou
   rw [if_pos hz] at ou'
   intro Hi1 H1 e1 v r
   obtain ⟨Ht,e2,k,s2,n⟩:=Ext.thaw s1 fl R1.s e1
   exact ou' Ht H1 e2 v (r.noL k hz)
  ·have ou':Out G Hi H (if noL d=true then Res.ok d else .no) _:=ou
   rw [if_neg hz] at ou';exact ou'.elim
end
end L3
namespace L3
open PySem PySem.Spec PyProof.Rows L2
unseal PEd PEf PTd PWd PAd PSd bX
section
variable {X:Cx} {G:Gx} {a b e:Expr} {es:List Expr} {pos:Pos} {f g:Ev} {fs:Fv} {t u:Tv}
theorem PEf.frz (h:PEf X G e fs):PEf X G e (zJK fs):=PE.wk h fun σ H Q q=>by
 obtain ⟨ρ,Hi,R,ou⟩:=q
 obtain ⟨Hf,s1,R1,fl⟩:=R.frz
 refine ⟨ρ.map Sl.frz,Hf,R1,?_⟩
 unfold zJK at ou
 cases z:fs (ρ.map Sl.frz) with
 | no=>rw [z] at ou;exact ou
 | err c=>
  rw [z] at ou
  intro Hi1 H1 e1
  have ou':∀ Hi' H',Ext Hi H Hi' H'->G.E c H':=ou
  obtain ⟨Ht,e2,k,s2,n⟩:=Ext.thaw s1 fl R1.s e1
  exact ou' Ht H1 e2
 | ok ds=>
  rw [z] at ou
  have ou':Out G Hi H (if noLs ds=true then Res.ok ds else .no) _:=ou
  by_cases hz:noLs ds=true
  ·rw [if_pos hz] at ou'
   intro Hi1 H1 e1 a n
   obtain ⟨n1,n2,xs,n3,n4⟩:=n
   obtain ⟨Ht,e2,k,s2,_⟩:=Ext.thaw s1 fl R1.s e1
   exact ou' Ht H1 e2 a ⟨n1,s2.none n2,xs,n3,n4.noL k hz⟩
  ·rw [if_neg hz] at ou';exact ou'.elim
theorem OpR.or {o:Value->Value->Sem Value} {r r':R2} (h:OpR X o r) (h':OpR X o r'):OpR X o (fun x y H Q=>r x y H Q∨r' x y H Q):=by
 intro pins s σ H x y v u Q I rx ry q
 rcases q with q | q
 ·exact h pins s σ H x y v u Q I rx ry q
 ·exact h' pins s σ H x y v u Q I rx ry q
theorem zAS {o:Op2} {h:Int->Int->Bool} (hi:∀ i j,o (.int i) (.int j)=.ok (.bl (h i j))) (hn:∀ a b d,o a b=.ok d->∃ i j,a=.int i/\b=.int j) (he:∀ a b c,o a b≠.err c):OpK X (rI0 fun i j=>.bl (h i j)) o:=
 ⟨he,fun Hi H x y a b d Q s r1 r2 z q=>by
  obtain ⟨i,j,rfl,rfl⟩:=hn a b d z
  rw [hi] at z;cases z
  exact ⟨i,j,r1.intI,r2.intI,q _ Hi H (Ext.refl s) (.bl _)⟩⟩
theorem zJA:OpK X (rI0 fun i j=>.bl (decide (i < j))) oLt:=zAS (fun _ _=>rfl) (fun a b d z=>by unfold oLt at z;split at z<;>first | exact ⟨_,_,rfl,rfl⟩ | cases z) (fun a b c z=>by unfold oLt at z;split at z<;>cases z)
theorem zKP:OpK X (rI0 fun i j=>.bl (decide (i<=j))) oLe:=zAS (fun _ _=>rfl) (fun a b d z=>by unfold oLe at z;split at z<;>first | exact ⟨_,_,rfl,rfl⟩ | cases z) (fun a b c z=>by unfold oLe at z;split at z<;>cases z)
theorem zFh:OpK X (rI0 fun i j=>.bl (decide (j < i))) oGt:=zAS (fun _ _=>rfl) (fun a b d z=>by unfold oGt at z;split at z<;>first | exact ⟨_,_,rfl,rfl⟩ | cases z) (fun a b c z=>by unfold oGt at z;split at z<;>cases z)
theorem zEa {o:Op2} {C:Int->Int->Prop} {h:Int->Int->Int} (hn:∀ a b d,o a b=.ok d->∃ i j,a=.int i/\b=.int j/\C i j/\d=.int (h i j)) (he:∀ a b c,o a b≠.err c):OpK X (rI C fun i j=>.int (h i j)) o:=
 ⟨he,fun Hi H x y a b d Q s r1 r2 z q=>by
  obtain ⟨i,j,rfl,rfl,hc,rfl⟩:=hn a b d z
  exact ⟨i,j,r1.intI,r2.intI,hc,q _ Hi H (Ext.refl s) (.int _)⟩⟩
def zIm (i j:Int):Prop:=jV i j=true
theorem zGQ:OpR X (binaryOp .Mult) (rI zIm fun i j=>.int (i * j)):=opI fun i j _ _ _ _ _ hc q=>by
 have hc':jV i j=true:=hc
 unfold jV at hc'
 simp only [Bool.or_eq_true,Bool.and_eq_true,decide_eq_true_eq] at hc'
 rcases hc' with (⟨h1,h2⟩ | ⟨h1,h2⟩) | h
 ·exact mul_int q (zJE.ok (.inl ⟨h1,h2⟩))
 ·exact mul_int q (zJE.ok (.inr ⟨h1,h2⟩))
 ·exact mul_int q (PySem.IntMulOk.of_le (PySem.intBits_le_iff.mpr (zFW i)) (PySem.intBits_le_iff.mpr (zFW j)) h)
def zId (_ j:Int):Prop:=mT j=true
theorem cF:OpR X (binaryOp .FloorDiv) (rI zId fun i j=>.int (i.fdiv j)):=opI fun i j _ _ _ _ _ hc q=>by
 have hc':mT j=true:=hc
 unfold mT at hc'
 simp only [Bool.and_eq_true,decide_eq_true_eq] at hc'
 refine floordiv_int hc'.1 q (.inl (PyProof.noPylong_of_log2 ?_))
 have h2:=hc'.2
 unfold nb at h2
 omega
def zIE (i j:Int):Prop:=oQ i j=true
theorem gQ:OpR X (binaryOp .Pow) (rI zIE fun i j=>.int (i^j.toNat)):=opI fun i j _ _ _ _ _ hc q=>by
 have hc':oQ i j=true:=hc
 unfold oQ at hc'
 simp only [Bool.and_eq_true,decide_eq_true_eq] at hc'
 refine pow_int hc'.1 (Int.le_trans (Int.mul_le_mul_of_nonneg_right ?_ hc'.1) hc'.2) q
 have:=PySem.intBits_le_iff.mpr (zFW i)
 omega
theorem zJZ:OpK X (rI zIm fun i j=>.int (i * j)) zHs:=zEa (fun a b d z=>by
 unfold zHs at z
 split at z
 case h_2=>cases z
 rename_i i j
 have z':(if jV i j=true then Res.ok (D.int (i * j)) else .no)=.ok d:=z
 by_cases h:jV i j=true
 ·rw [if_pos h] at z';cases z';exact ⟨i,j,rfl,rfl,h,rfl⟩
 ·rw [if_neg h] at z';cases z') (fun a b c z=>by
 unfold zHs at z
 split at z
 case h_2=>cases z
 rename_i i j
 have z':(if jV i j=true then Res.ok (D.int (i * j)) else .no)=.err c:=z
 by_cases h:jV i j=true
 ·rw [if_pos h] at z';cases z'
 ·rw [if_neg h] at z';cases z')
theorem gU:OpK X (rI zId fun i j=>.int (i.fdiv j)) nI:=zEa (fun a b d z=>by
 unfold nI at z
 split at z
 case h_2=>cases z
 rename_i i j
 have z':(if mT j=true then Res.ok (D.int (i.fdiv j)) else .no)=.ok d:=z
 by_cases h:mT j=true
 ·rw [if_pos h] at z';cases z';exact ⟨i,j,rfl,rfl,h,rfl⟩
 ·rw [if_neg h] at z';cases z') (fun a b c z=>by
 unfold nI at z
 split at z
 case h_2=>cases z
 rename_i i j
 have z':(if mT j=true then Res.ok (D.int (i.fdiv j)) else .no)=.err c:=z
 by_cases h:mT j=true
 ·rw [if_pos h] at z';cases z'
 ·rw [if_neg h] at z';cases z')
theorem fE:OpK X (rI (fun _ j=>j≠0) fun i j=>.int (i.fmod j)) kY:=zEa (fun a b d z=>by
 unfold kY at z
 split at z
 case h_2=>cases z
 rename_i i j
 have z':(if j≠0 then Res.ok (D.int (i.fmod j)) else .no)=.ok d:=z
 by_cases h:j≠0
 ·rw [if_pos h] at z';cases z';exact ⟨i,j,rfl,rfl,h,rfl⟩
 ·rw [if_neg h] at z';cases z') (fun a b c z=>by
 unfold kY at z
 split at z
 case h_2=>cases z
 rename_i i j
 have z':(if j≠0 then Res.ok (D.int (i.fmod j)) else .no)=.err c:=z
 by_cases h:j≠0
 ·rw [if_pos h] at z';cases z'
 ·rw [if_neg h] at z';cases z')
theorem sL:OpK X (rI zIE fun i j=>.int (i^j.toNat)) zX:=zEa (fun a b d z=>by
 unfold zX at z
 split at z
 case h_2=>cases z
 rename_i i j
 have z':(if oQ i j=true then Res.ok (D.int (i^j.toNat)) else .no)=.ok d:=z
 by_cases h:oQ i j=true
 ·rw [if_pos h] at z';cases z';exact ⟨i,j,rfl,rfl,h,rfl⟩
 ·rw [if_neg h] at z';cases z') (fun a b c z=>by
 unfold zX at z
 split at z
 case h_2=>cases z
 rename_i i j
 have z':(if oQ i j=true then Res.ok (D.int (i^j.toNat)) else .no)=.err c:=z
 by_cases h:oQ i j=true
 ·rw [if_pos h] at z';cases z'
 ·rw [if_neg h] at z';cases z')
def zJm (K:PySem.W.Frag):R2:=fun x y H Q=>∃ a b ys,x=.ref a/\y=.ref b/\SqT K H a []/\SqT K H b ys/\Q (.ref b) H
theorem zFo:OpR X (binaryOp .Add) (zJm X.K):=by
 intro pins s σ H x y v u Q I rx ry h
 obtain ⟨a,b,ys,rfl,rfl,ha,hb,q⟩:=h
 cases rx
 cases ry
 obtain ⟨its,r1,p1,_⟩:=I.tuple ha
 obtain ⟨its2,r2,p2,_⟩:=I.tuple hb
 cases r1
 obtain ⟨⟨c1,d1,t1,s1⟩,ho1,hc1,n1,hd1⟩:=id p1
 obtain ⟨⟨c2,d2,t2,s2⟩,ho2,hc2,n2,hd2⟩:=id p2
 simp only at hc1 hd1 hc2 hd2
 subst hc1 hd1 hc2 hd2
 exact concat_meets ⟨_,ho1,rfl⟩ ⟨_,ho2,rfl⟩ noFill_tuple_add seq_tuple_add PySem.F.slot_tuple_add PySem.F.entry_tuple_add (PySem.F.args_tuple_add_2 _ _) (tuple_addW0 a b #[] its2.toArray n1 n2 d1 d2 s1 s2 rfl) ⟨ho1,ho2,⟨.ref b,H,I,rfl,q⟩⟩
def zJs (K:PySem.W.Frag):R2:=fun x y H Q=>rI0 (fun i j=>.int (i+j)) x y H Q∨(zHv K x y H Q∨zJm K x y H Q)
theorem dO:OpR X (binaryOp .Add) (zJs X.K):=OpR.or zHV (OpR.or zGF zFo)
theorem kD:OpK X (zJs X.K) qK:=⟨fun a b c z=>(by
  unfold qK at z
  split at z
  case h_1=>cases z
  case h_3=>cases z
  rename_i as bs
  have z':(if as.length+bs.length<=16777216 then Res.ok (D.tup (as++bs)) else .no)=.err c:=z
  split at z'<;>cases z'),fun Hi H x y a b d Q s r1 r2 z q=>by
  unfold qK at z
  split at z
  case h_3=>cases z
  ·cases z
   exact .inl ⟨_,_,r1.intI,r2.intI,q _ Hi H (Ext.refl s) (.int _)⟩
  ·rename_i as bs
   have z':(if as.length+bs.length<=16777216 then Res.ok (D.tup (as++bs)) else .no)=.ok d:=z
   split at z'
   ·rename_i hz
    cases z'
    obtain ⟨p,xs,rfl,h1,i1⟩:=r1.tupI
    obtain ⟨p',ys,rfl,h2,i2⟩:=r2.tupI
    by_cases h0:as.length=0
    ·have e0:as=[]:=List.eq_nil_of_length_eq_zero h0
     subst e0
     cases i1
     exact .inr (.inr ⟨p,p',ys,rfl,rfl,bO s h1,bO s h2,q _ Hi H (Ext.refl s) (.tup h2 i2)⟩)
    refine .inr (.inl ⟨p,p',xs,ys,rfl,rfl,bO s h1,bO s h2,fun e=>h0 (by rw [<-i1.length,e];rfl),by rw [i1.length,i2.length];exact hz,fun e=>?_,fun _ l hl=>?_⟩)
    ·subst e
     cases i2
     rw [List.append_nil] at q
     exact q _ Hi H (Ext.refl s) (.tup h1 i1)
    ·exact q _ _ _ (Ext.new s hl) (.tup (SqT.of aE) ((i1.append i2).mono (aS (s.none hl) _)))
   ·cases z'⟩
theorem zFx {α:Type} {xs:List α} {i:Int} {v:α} (h0:i < 0) (h1:0<=(xs.length:Int)+i) (h:xs[((xs.length:Int)+i).toNat]?=some v):atI xs i=some v:=by
 have e:ixN xs.length i=some ((xs.length:Int)+i).toNat:=by
  unfold ixN
  rw [if_neg (by omega),if_pos (by omega)]
  congr 2
  omega
 unfold atI;rw [e];exact h
theorem zAz {K:PySem.W.Frag} {H:Hp} {xs:List V} {ds:List D} {i:Int} {d:D} (h:IsDs K H xs ds) (e:atD ds i=some d):∃ v,atI xs i=some v/\IsD K H v d:=by
 unfold atD at e
 by_cases h0:0<=i
 ·rw [if_pos h0] at e
  obtain ⟨v,hv,r⟩:=h.at e
  refine ⟨v,?_,r⟩
  have:=zFO hv
  rw [show ((i.toNat:Nat):Int)=i by omega] at this
  exact this
 ·rw [if_neg h0] at e
  by_cases h1:0<=(ds.length:Int)+i
  ·rw [if_pos h1] at e
   obtain ⟨v,hv,r⟩:=h.at e
   refine ⟨v,?_,r⟩
   have hl:=h.length
   have e2:((ds.length:Int)+i).toNat=((xs.length:Int)+i).toNat:=by rw [hl]
   rw [e2] at hv
   exact zFx (by omega) (by omega) hv
  ·rw [if_neg h1] at e;cases e
theorem zHh:OpK X (fun x y H Q=>zJS X.K x y H Q∨zJH X.K x y H Q) oIx:=⟨fun a b c z=>(by
  unfold oIx at z
  split at z
  case h_3=>cases z
  ·rename_i ds i
   have z':ofO (atD ds i)=Res.err c:=z
   cases q:atD ds i<;>rw [q] at z'<;>cases z'
  ·rename_i ds i
   have z':ofO (atD ds i)=Res.err c:=z
   cases q:atD ds i<;>rw [q] at z'<;>cases z'),fun Hi H x y a b d Q s r1 r2 z q=>by
  unfold oIx at z
  split at z
  case h_3=>cases z
  ·rename_i ds i
   have z':ofO (atD ds i)=Res.ok d:=z
   cases w:atD ds i with
   | none=>rw [w] at z';cases z'
   | some d'=>
    rw [w] at z';cases z'
    obtain ⟨p,xs,rfl,h1,i1⟩:=r1.tupI
    obtain ⟨v,hv,r⟩:=zAz i1 w
    exact .inr ⟨p,xs,i,v,rfl,r2.intI,bO s h1,hv,q v Hi H (Ext.refl s) r⟩
  ·rename_i ds i
   have z':ofO (atD ds i)=Res.ok d:=z
   cases w:atD ds i with
   | none=>rw [w] at z';cases z'
   | some d'=>
    rw [w] at z';cases z'
    obtain ⟨p,xs,rfl,h1,i1⟩:=r1.lstI
    obtain ⟨v,hv,r⟩:=zAz i1 w
    exact .inl ⟨p,xs,i,v,rfl,r2.intI,bU s h1,hv,q v Hi H (Ext.refl s) r⟩⟩
theorem lD:IxR X (fun x y H Q=>zJS X.K x y H Q∨zJH X.K x y H Q):=zGy.or zEv
end
end L3
namespace L3
open PySem PySem.Spec PyProof.Rows L2
unseal PEd PEf PTd PWd PAd PSd bX
section
variable {X:Cx} {pins:List (Addr×Obj)} {σ:St} {H:Hp} {s:Shared}
mutual
theorem IsD.inj (I:Inv X pins σ H s):∀ {v:V} {d e:D},IsD X.K H v d->IsD X.K H v e->d=e
 | _,_,_,.non,h=>by cases h;rfl
 | _,_,_,.bl b,h=>by cases h;rfl
 | _,_,_,.int i,h=>by cases h;rfl
 | _,_,_,.str x,h=>by cases h;rfl
 | _,_,_,.tup h hs,h2=>by
  cases h2 with
  | tup h' hs'=>
   have e:=I.tuple_inj h h'
   subst e
   rw [IsDs.inj I hs hs']
  | lst h' hs'=>
   exfalso
   obtain ⟨_,_,⟨o,e,c,_⟩,_⟩:=I.tuple h
   obtain ⟨_,_,⟨o',n',e',c',_⟩,_⟩:=I.list h'
   rw [e] at e';cases e';rw [c] at c';exact absurd c' (by decide)
 | _,_,_,.lst h hs,h2=>by
  cases h2 with
  | lst h' hs'=>
   have e:=I.list_inj h h'
   subst e
   rw [IsDs.inj I hs hs']
  | tup h' hs'=>
   exfalso
   obtain ⟨_,_,⟨o,e,c,_⟩,_⟩:=I.tuple h'
   obtain ⟨_,_,⟨o',n',e',c',_⟩,_⟩:=I.list h
   rw [e] at e';cases e';rw [c] at c';exact absurd c' (by decide)
theorem IsDs.inj (I:Inv X pins σ H s):∀ {vs:List V} {ds es:List D},IsDs X.K H vs ds->IsDs X.K H vs es->ds=es
 | _,_,_,.nil,h=>by cases h;rfl
 | _,_,_,.cons h hs,h2=>by
  cases h2 with
  | cons h' hs'=>rw [IsD.inj I h h',IsDs.inj I hs hs']
end
theorem zBn {α:Type} {l:List α} {j:Nat} {x d:α} (h:l[j]?=some x):l.getD j d=x:=by
 rw [List.getD_eq_getElem?_getD,h];rfl
theorem iU {A:Around} {xs xs':List V} {ds ds':List D} {its its':List Value} (hs:IsDs X.K H xs ds) (hs':IsDs X.K H xs' ds') (rv:dM xs its) (rv':dM xs' its')
  (rc:∀ (d d':D) (v v':V) (u u':Value),d∈ds->IsD X.K H v d->IsD X.K H v' d'->cI v u->cI v' u'->SeqAt.EqAt A s u u' (eqD d d'))
  (j:Nat) (g1:j < its.toArray.size) (g2:j < its'.toArray.size):SeqAt.EqAt A s its.toArray[j] its'.toArray[j] (eqD (ds.getD j .non) (ds'.getD j .non)):=by
 have g1':j < its.length:=by simpa using g1
 have g2':j < its'.length:=by simpa using g2
 have l1:its.length=ds.length:=by rw [<-rv.length,hs.length]
 have l2:its'.length=ds'.length:=by rw [<-rv'.length,hs'.length]
 obtain ⟨d,hd⟩:∃ d,ds[j]?=some d:=⟨_,List.getElem?_eq_getElem (by omega)⟩
 obtain ⟨d',hd'⟩:∃ d,ds'[j]?=some d:=⟨_,List.getElem?_eq_getElem (by omega)⟩
 obtain ⟨v,hv,iv⟩:=hs.at hd
 obtain ⟨v',hv',iv'⟩:=hs'.at hd'
 obtain ⟨w1,hw,rw1⟩:=rv.get hv
 obtain ⟨w2,hw',rw2⟩:=rv'.get hv'
 have e1:its.toArray[j]=w1:=by
  rw [List.getElem?_eq_getElem g1'] at hw
  simpa using hw
 have e2:its'.toArray[j]=w2:=by
  rw [List.getElem?_eq_getElem g2'] at hw'
  simpa using hw'
 rw [e1,e2,zBn hd,zBn hd']
 exact rc d d' v v' w1 w2 (List.mem_of_getElem? hd) iv iv' rw1 rw2
theorem fH {ds ds':List D} (h:ds.length=ds'.length):((List.range ds.length).all fun j=>eqD (ds.getD j .non) (ds'.getD j .non))=zBX ds ds':=by
 rw [iQ,<-h,Nat.min_self];simp
theorem rF {ds ds':List D} (h:ds.length≠ds'.length):zBX ds ds'=false:=by
 rw [iQ];simp [h]
theorem vF (I:Inv X pins σ H s) {A:Around} {v v':V} {d d':D} {u u':Value} (h1:IsD X.K H v d) (h2:IsD X.K H v' d') (r1:cI v u) (r2:cI v' u') (hu:A.units < cLine)
  (rc:∀ ds,(d=.tup ds∨d=.lst ds)->∀ (e e':D) (w w':V) (z z':Value),e∈ds->IsD X.K H w e->IsD X.K H w' e'->cI w z->cI w' z'->SeqAt.EqAt A.in1 s z z' (eqD e e')):
  SeqAt.EqAt A s u u' (eqD d d'):=by
 cases h1 with
 | non=>
  cases (show u=Value.none from r1)
  cases h2 with
  | non=>cases (show u'=Value.none from r2);exact SeqAt.EqAt.same _
  | bl b=>cases (show u'=Value.bool _ from r2);exact SeqAt.EqAt.none_bool _
  | int i=>obtain ⟨t,rfl⟩:=r2;exact SeqAt.EqAt.none_int _ _
  | str x=>obtain ⟨t,rfl⟩:=r2;exact SeqAt.EqAt.none_str _ _
  | tup h hs=>cases (show u'=Value.ref _ from r2);obtain ⟨its,rv,p,hz⟩:=I.tuple h;exact SeqAt.EqAt.none_tuple (show s.heap.IsTuple _ its.toArray from p) hu
  | lst h hs=>cases (show u'=Value.ref _ from r2);obtain ⟨its,rv,p,hz⟩:=I.list h;exact SeqAt.EqAt.none_list p.isList hu
 | bl b=>
  cases (show u=Value.bool _ from r1)
  cases h2 with
  | non=>cases (show u'=Value.none from r2);exact SeqAt.EqAt.bool_none _
  | bl b=>cases (show u'=Value.bool _ from r2);exact SeqAt.EqAt.bool_bool _ _
  | int i=>obtain ⟨t,rfl⟩:=r2;exact SeqAt.EqAt.bool_int _ _ _
  | str x=>obtain ⟨t,rfl⟩:=r2;exact SeqAt.EqAt.bool_str _ _ _
  | tup h hs=>cases (show u'=Value.ref _ from r2);obtain ⟨its,rv,p,hz⟩:=I.tuple h;exact SeqAt.EqAt.bool_tuple _ (show s.heap.IsTuple _ its.toArray from p) hu
  | lst h hs=>cases (show u'=Value.ref _ from r2);obtain ⟨its,rv,p,hz⟩:=I.list h;exact SeqAt.EqAt.bool_list _ p.isList hu
 | int i=>
  obtain ⟨t,rfl⟩:=r1
  cases h2 with
  | non=>cases (show u'=Value.none from r2);exact SeqAt.EqAt.int_none _ _
  | bl b=>cases (show u'=Value.bool _ from r2);exact SeqAt.EqAt.int_bool _ _ _
  | int i=>obtain ⟨t,rfl⟩:=r2;exact SeqAt.EqAt.int_int _ _ _ _
  | str x=>obtain ⟨t,rfl⟩:=r2;exact SeqAt.EqAt.int_str _ _ _ _
  | tup h hs=>cases (show u'=Value.ref _ from r2);obtain ⟨its,rv,p,hz⟩:=I.tuple h;exact SeqAt.EqAt.int_tuple _ _ (show s.heap.IsTuple _ its.toArray from p) hu
  | lst h hs=>cases (show u'=Value.ref _ from r2);obtain ⟨its,rv,p,hz⟩:=I.list h;exact SeqAt.EqAt.int_list _ _ p.isList hu
 | str x=>
  obtain ⟨t,rfl⟩:=r1
  cases h2 with
  | non=>cases (show u'=Value.none from r2);exact SeqAt.EqAt.str_none _ _
  | bl b=>cases (show u'=Value.bool _ from r2);exact SeqAt.EqAt.str_bool _ _ _
  | int i=>obtain ⟨t,rfl⟩:=r2;exact SeqAt.EqAt.str_int _ _ _ _
  | str x=>obtain ⟨t,rfl⟩:=r2;exact SeqAt.EqAt.str_str _ _ _ _
  | tup h hs=>cases (show u'=Value.ref _ from r2);obtain ⟨its,rv,p,hz⟩:=I.tuple h;exact SeqAt.EqAt.str_tuple _ _ (show s.heap.IsTuple _ its.toArray from p) hu
  | lst h hs=>cases (show u'=Value.ref _ from r2);obtain ⟨its,rv,p,hz⟩:=I.list h;exact SeqAt.EqAt.str_list _ _ p.isList hu
 | @tup a xs ds h hs=>
  cases (show u=Value.ref a from r1)
  obtain ⟨its,rv,p,hz⟩:=I.tuple h
  cases h2 with
  | non=>cases (show u'=Value.none from r2);exact SeqAt.EqAt.tuple_none (show s.heap.IsTuple _ its.toArray from p) hu
  | bl b=>cases (show u'=Value.bool _ from r2);exact SeqAt.EqAt.tuple_bool _ (show s.heap.IsTuple _ its.toArray from p) hu
  | int i=>obtain ⟨t,rfl⟩:=r2;exact SeqAt.EqAt.tuple_int _ _ (show s.heap.IsTuple _ its.toArray from p) hu
  | str x=>obtain ⟨t,rfl⟩:=r2;exact SeqAt.EqAt.tuple_str _ _ (show s.heap.IsTuple _ its.toArray from p) hu
  | @tup a' xs' ds' h' hs'=>
   cases (show u'=Value.ref a' from r2)
   by_cases e:a=a'
   ·subst e
    have e:=I.tuple_inj h h'
    subst e
    have e:=IsDs.inj I hs hs'
    subst e
    rw [sA]
    exact SeqAt.EqAt.same _
   ·obtain ⟨its',rv',p',hz'⟩:=I.tuple h'
    have l1:its.toArray.size=ds.length:=by rw [List.size_toArray,<-rv.length,hs.length]
    have l2:its'.toArray.size=ds'.length:=by rw [List.size_toArray,<-rv'.length,hs'.length]
    have key:=SeqAt.RcAt.tuples (A:=A) (s:=s) (show s.heap.IsTuple a its.toArray from p) (show s.heap.IsTuple a' its'.toArray from p') hu
     (iU (A:=A.in1) (s:=s) hs hs' rv rv' fun d d' v v' u u' hm iv iv' r r'=>rc ds (.inl rfl) d d' v v' u u' hm iv iv' r r')
    rw [l1,l2,<-iQ] at key
    exact SeqAt.EqAt.of_refs e key
  | @lst a' xs' ds' h' hs'=>
   cases (show u'=Value.ref a' from r2)
   obtain ⟨its',rv',p',hz'⟩:=I.list h'
   exact SeqAt.EqAt.tuple_list (show s.heap.IsTuple _ its.toArray from p) p'.isList hu
 | @lst a xs ds h hs=>
  cases (show u=Value.ref a from r1)
  obtain ⟨its,rv,p,hz⟩:=I.list h
  cases h2 with
  | non=>cases (show u'=Value.none from r2);exact SeqAt.EqAt.list_none p.isList hu
  | bl b=>cases (show u'=Value.bool _ from r2);exact SeqAt.EqAt.list_bool _ p.isList hu
  | int i=>obtain ⟨t,rfl⟩:=r2;exact SeqAt.EqAt.list_int _ _ p.isList hu
  | str x=>obtain ⟨t,rfl⟩:=r2;exact SeqAt.EqAt.list_str _ _ p.isList hu
  | @tup a' xs' ds' h' hs'=>
   cases (show u'=Value.ref a' from r2)
   obtain ⟨its',rv',p',hz'⟩:=I.tuple h'
   exact SeqAt.EqAt.list_tuple p.isList (show s.heap.IsTuple _ its'.toArray from p') hu
  | @lst a' xs' ds' h' hs'=>
   cases (show u'=Value.ref a' from r2)
   by_cases e:a=a'
   ·subst e
    have e:=I.list_inj h h'
    subst e
    have e:=IsDs.inj I hs hs'
    subst e
    rw [sA]
    exact SeqAt.EqAt.same _
   ·obtain ⟨its',rv',p',hz'⟩:=I.list h'
    have l1:its.toArray.size=ds.length:=by rw [List.size_toArray,<-rv.length,hs.length]
    have l2:its'.toArray.size=ds'.length:=by rw [List.size_toArray,<-rv'.length,hs'.length]
    by_cases hl:ds.length=ds'.length
    ·have key:=SeqAt.RcAt.lists (A:=A) (s:=s) p.isList p'.isList (by rw [l1,l2,hl]) hu
      (iU (A:=A.in1) (s:=s) hs hs' rv rv' fun d d' v v' u u' hm iv iv' r r'=>rc ds (.inr rfl) d d' v v' u u' hm iv iv' r r')
     rw [l1,fH hl] at key
     exact SeqAt.EqAt.of_refs e key
    ·have key:=SeqAt.RcAt.lists_lengths (A:=A) (s:=s) p.isList p'.isList (by rw [l1,l2];simp [hl]) hu
     rw [eqD,rF hl]
     exact SeqAt.EqAt.of_refs e key
theorem zAJ (I:Inv X pins σ H s) (n:Nat):∀ {v v':V} {d d':D},dep d<=n->IsD X.K H v d->IsD X.K H v' d'->
  ∀ (A:Around) (u u':Value),A.units+n < cLine->cI v u->cI v' u'->SeqAt.EqAt A s u u' (eqD d d'):=by
 induction n with
 | zero=>
  intro v v' d d' hn h1 h2 A u u' hu r1 r2
  refine vF I h1 h2 r1 r2 (by omega) fun ds hd=>?_
  rcases hd with rfl | rfl<;>(rw [dep] at hn;omega)
 | succ n ih=>
  intro v v' d d' hn h1 h2 A u u' hu r1 r2
  refine vF I h1 h2 r1 r2 (by omega) fun ds hd e e' w w' z z' hm i1 i2 q1 q2=>?_
  refine ih ?_ i1 i2 A.in1 z z' (by show A.units+1+n < cLine;omega) q1 q2
  have:=nR hm
  rcases hd with rfl | rfl<;>(rw [dep] at hn;omega)
theorem zCQ (I:Inv X pins σ H s) {A:Around} {v v':V} {d d':D} {u u':Value} (h1:IsD X.K H v d) (h2:IsD X.K H v' d') (r1:cI v u) (r2:cI v' u') (hu:A.units < cLine)
  (rc:∀ ds,(d=.tup ds∨d=.lst ds)->∀ (e e':D) (w w':V) (z z':Value),e∈ds->IsD X.K H w e->IsD X.K H w' e'->cI w z->cI w' z'->SeqAt.EqAt A.in1 s z z' (eqD e e')):
  SeqAt.RcAt A s u u' (eqD d d'):=by
 cases h1 with
 | non=>
  cases (show u=Value.none from r1)
  cases h2 with
  | non=>cases (show u'=Value.none from r2);exact SeqAt.RcAt.none_none
  | bl b=>cases (show u'=Value.bool _ from r2);exact SeqAt.RcAt.none_bool _
  | int i=>obtain ⟨t,rfl⟩:=r2;exact SeqAt.RcAt.none_int _ _
  | str x=>obtain ⟨t,rfl⟩:=r2;exact SeqAt.RcAt.none_str _ _
  | tup h hs=>cases (show u'=Value.ref _ from r2);obtain ⟨its,rv,p,hz⟩:=I.tuple h;exact SeqAt.RcAt.none_tuple (show s.heap.IsTuple _ its.toArray from p) hu
  | lst h hs=>cases (show u'=Value.ref _ from r2);obtain ⟨its,rv,p,hz⟩:=I.list h;exact SeqAt.RcAt.none_list p.isList hu
 | bl b=>
  cases (show u=Value.bool _ from r1)
  cases h2 with
  | non=>cases (show u'=Value.none from r2);exact SeqAt.RcAt.bool_none _
  | bl b=>cases (show u'=Value.bool _ from r2);exact SeqAt.RcAt.bool_bool _ _
  | int i=>obtain ⟨t,rfl⟩:=r2;exact SeqAt.RcAt.bool_int _ _ _
  | str x=>obtain ⟨t,rfl⟩:=r2;exact SeqAt.RcAt.bool_str _ _ _
  | tup h hs=>cases (show u'=Value.ref _ from r2);obtain ⟨its,rv,p,hz⟩:=I.tuple h;exact SeqAt.RcAt.bool_tuple _ (show s.heap.IsTuple _ its.toArray from p) hu
  | lst h hs=>cases (show u'=Value.ref _ from r2);obtain ⟨its,rv,p,hz⟩:=I.list h;exact SeqAt.RcAt.bool_list _ p.isList hu
 | int i=>
  obtain ⟨t,rfl⟩:=r1
  cases h2 with
  | non=>cases (show u'=Value.none from r2);exact SeqAt.RcAt.int_none _ _
  | bl b=>cases (show u'=Value.bool _ from r2);exact SeqAt.RcAt.int_bool _ _ _
  | int i=>obtain ⟨t,rfl⟩:=r2;exact SeqAt.RcAt.int_int _ _ _ _
  | str x=>obtain ⟨t,rfl⟩:=r2;exact SeqAt.RcAt.int_str _ _ _ _
  | tup h hs=>cases (show u'=Value.ref _ from r2);obtain ⟨its,rv,p,hz⟩:=I.tuple h;exact SeqAt.RcAt.int_tuple _ _ (show s.heap.IsTuple _ its.toArray from p) hu
  | lst h hs=>cases (show u'=Value.ref _ from r2);obtain ⟨its,rv,p,hz⟩:=I.list h;exact SeqAt.RcAt.int_list _ _ p.isList hu
 | str x=>
  obtain ⟨t,rfl⟩:=r1
  cases h2 with
  | non=>cases (show u'=Value.none from r2);exact SeqAt.RcAt.str_none _ _
  | bl b=>cases (show u'=Value.bool _ from r2);exact SeqAt.RcAt.str_bool _ _ _
  | int i=>obtain ⟨t,rfl⟩:=r2;exact SeqAt.RcAt.str_int _ _ _ _
  | str x=>obtain ⟨t,rfl⟩:=r2;exact SeqAt.RcAt.str_str _ _ _ _
  | tup h hs=>cases (show u'=Value.ref _ from r2);obtain ⟨its,rv,p,hz⟩:=I.tuple h;exact SeqAt.RcAt.str_tuple _ _ (show s.heap.IsTuple _ its.toArray from p) hu
  | lst h hs=>cases (show u'=Value.ref _ from r2);obtain ⟨its,rv,p,hz⟩:=I.list h;exact SeqAt.RcAt.str_list _ _ p.isList hu
 | @tup a xs ds h hs=>
  cases (show u=Value.ref a from r1)
  obtain ⟨its,rv,p,hz⟩:=I.tuple h
  cases h2 with
  | non=>cases (show u'=Value.none from r2);exact SeqAt.RcAt.tuple_none (show s.heap.IsTuple _ its.toArray from p) hu
  | bl b=>cases (show u'=Value.bool _ from r2);exact SeqAt.RcAt.tuple_bool _ (show s.heap.IsTuple _ its.toArray from p) hu
  | int i=>obtain ⟨t,rfl⟩:=r2;exact SeqAt.RcAt.tuple_int _ _ (show s.heap.IsTuple _ its.toArray from p) hu
  | str x=>obtain ⟨t,rfl⟩:=r2;exact SeqAt.RcAt.tuple_str _ _ (show s.heap.IsTuple _ its.toArray from p) hu
  | @tup a' xs' ds' h' hs'=>
   cases (show u'=Value.ref a' from r2)
   ·obtain ⟨its',rv',p',hz'⟩:=I.tuple h'
    have l1:its.toArray.size=ds.length:=by rw [List.size_toArray,<-rv.length,hs.length]
    have l2:its'.toArray.size=ds'.length:=by rw [List.size_toArray,<-rv'.length,hs'.length]
    have key:=SeqAt.RcAt.tuples (A:=A) (s:=s) (show s.heap.IsTuple a its.toArray from p) (show s.heap.IsTuple a' its'.toArray from p') hu
     (iU (A:=A.in1) (s:=s) hs hs' rv rv' fun d d' v v' u u' hm iv iv' r r'=>rc ds (.inl rfl) d d' v v' u u' hm iv iv' r r')
    rw [l1,l2,<-iQ] at key
    exact key
  | @lst a' xs' ds' h' hs'=>
   cases (show u'=Value.ref a' from r2)
   obtain ⟨its',rv',p',hz'⟩:=I.list h'
   exact SeqAt.RcAt.tuple_list (show s.heap.IsTuple _ its.toArray from p) p'.isList hu
 | @lst a xs ds h hs=>
  cases (show u=Value.ref a from r1)
  obtain ⟨its,rv,p,hz⟩:=I.list h
  cases h2 with
  | non=>cases (show u'=Value.none from r2);exact SeqAt.RcAt.list_none p.isList hu
  | bl b=>cases (show u'=Value.bool _ from r2);exact SeqAt.RcAt.list_bool _ p.isList hu
  | int i=>obtain ⟨t,rfl⟩:=r2;exact SeqAt.RcAt.list_int _ _ p.isList hu
  | str x=>obtain ⟨t,rfl⟩:=r2;exact SeqAt.RcAt.list_str _ _ p.isList hu
  | @tup a' xs' ds' h' hs'=>
   cases (show u'=Value.ref a' from r2)
   obtain ⟨its',rv',p',hz'⟩:=I.tuple h'
   exact SeqAt.RcAt.list_tuple p.isList (show s.heap.IsTuple _ its'.toArray from p') hu
  | @lst a' xs' ds' h' hs'=>
   cases (show u'=Value.ref a' from r2)
   ·obtain ⟨its',rv',p',hz'⟩:=I.list h'
    have l1:its.toArray.size=ds.length:=by rw [List.size_toArray,<-rv.length,hs.length]
    have l2:its'.toArray.size=ds'.length:=by rw [List.size_toArray,<-rv'.length,hs'.length]
    by_cases hl:ds.length=ds'.length
    ·have key:=SeqAt.RcAt.lists (A:=A) (s:=s) p.isList p'.isList (by rw [l1,l2,hl]) hu
      (iU (A:=A.in1) (s:=s) hs hs' rv rv' fun d d' v v' u u' hm iv iv' r r'=>rc ds (.inr rfl) d d' v v' u u' hm iv iv' r r')
     rw [l1,fH hl] at key
     exact key
    ·have key:=SeqAt.RcAt.lists_lengths (A:=A) (s:=s) p.isList p'.isList (by rw [l1,l2];simp [hl]) hu
     rw [eqD,rF hl]
     exact key
theorem zBF (I:Inv X pins σ H s) {A:Around} {v v':V} {d d':D} {u u':Value} (h1:IsD X.K H v d) (h2:IsD X.K H v' d') (r1:cI v u) (r2:cI v' u') (hu:A.units < cLine)
  (rc:∀ ds,(d=.tup ds∨d=.lst ds)->∀ (e e':D) (w w':V) (z z':Value),e∈ds->IsD X.K H w e->IsD X.K H w' e'->cI w z->cI w' z'->SeqAt.EqAt A.in1 s z z' (eqD e e')):
  SeqAt.RcNeAt A s u u' (!eqD d d'):=by
 cases h1 with
 | non=>
  cases (show u=Value.none from r1)
  cases h2 with
  | non=>cases (show u'=Value.none from r2);exact SeqAt.RcNeAt.none_none
  | bl b=>cases (show u'=Value.bool _ from r2);exact SeqAt.RcNeAt.none_bool _
  | int i=>obtain ⟨t,rfl⟩:=r2;exact SeqAt.RcNeAt.none_int _ _
  | str x=>obtain ⟨t,rfl⟩:=r2;exact SeqAt.RcNeAt.none_str _ _
  | tup h hs=>cases (show u'=Value.ref _ from r2);obtain ⟨its,rv,p,hz⟩:=I.tuple h;exact SeqAt.RcNeAt.none_tuple (show s.heap.IsTuple _ its.toArray from p) hu
  | lst h hs=>cases (show u'=Value.ref _ from r2);obtain ⟨its,rv,p,hz⟩:=I.list h;exact SeqAt.RcNeAt.none_list p.isList hu
 | bl b=>
  cases (show u=Value.bool _ from r1)
  cases h2 with
  | non=>cases (show u'=Value.none from r2);exact SeqAt.RcNeAt.bool_none _
  | bl b=>cases (show u'=Value.bool _ from r2);exact SeqAt.RcNeAt.bool_bool _ _
  | int i=>obtain ⟨t,rfl⟩:=r2;exact SeqAt.RcNeAt.bool_int _ _ _
  | str x=>obtain ⟨t,rfl⟩:=r2;exact SeqAt.RcNeAt.bool_str _ _ _
  | tup h hs=>cases (show u'=Value.ref _ from r2);obtain ⟨its,rv,p,hz⟩:=I.tuple h;exact SeqAt.RcNeAt.bool_tuple _ (show s.heap.IsTuple _ its.toArray from p) hu
  | lst h hs=>cases (show u'=Value.ref _ from r2);obtain ⟨its,rv,p,hz⟩:=I.list h;exact SeqAt.RcNeAt.bool_list _ p.isList hu
 | int i=>
  obtain ⟨t,rfl⟩:=r1
  cases h2 with
  | non=>cases (show u'=Value.none from r2);exact SeqAt.RcNeAt.int_none _ _
  | bl b=>cases (show u'=Value.bool _ from r2);exact SeqAt.RcNeAt.int_bool _ _ _
  | int i=>obtain ⟨t,rfl⟩:=r2;exact SeqAt.RcNeAt.int_int _ _ _ _
  | str x=>obtain ⟨t,rfl⟩:=r2;exact SeqAt.RcNeAt.int_str _ _ _ _
  | tup h hs=>cases (show u'=Value.ref _ from r2);obtain ⟨its,rv,p,hz⟩:=I.tuple h;exact SeqAt.RcNeAt.int_tuple _ _ (show s.heap.IsTuple _ its.toArray from p) hu
  | lst h hs=>cases (show u'=Value.ref _ from r2);obtain ⟨its,rv,p,hz⟩:=I.list h;exact SeqAt.RcNeAt.int_list _ _ p.isList hu
 | str x=>
  obtain ⟨t,rfl⟩:=r1
  cases h2 with
  | non=>cases (show u'=Value.none from r2);exact SeqAt.RcNeAt.str_none _ _
  | bl b=>cases (show u'=Value.bool _ from r2);exact SeqAt.RcNeAt.str_bool _ _ _
  | int i=>obtain ⟨t,rfl⟩:=r2;exact SeqAt.RcNeAt.str_int _ _ _ _
  | str x=>obtain ⟨t,rfl⟩:=r2;exact SeqAt.RcNeAt.str_str _ _ _ _
  | tup h hs=>cases (show u'=Value.ref _ from r2);obtain ⟨its,rv,p,hz⟩:=I.tuple h;exact SeqAt.RcNeAt.str_tuple _ _ (show s.heap.IsTuple _ its.toArray from p) hu
  | lst h hs=>cases (show u'=Value.ref _ from r2);obtain ⟨its,rv,p,hz⟩:=I.list h;exact SeqAt.RcNeAt.str_list _ _ p.isList hu
 | @tup a xs ds h hs=>
  cases (show u=Value.ref a from r1)
  obtain ⟨its,rv,p,hz⟩:=I.tuple h
  cases h2 with
  | non=>cases (show u'=Value.none from r2);exact SeqAt.RcNeAt.tuple_none (show s.heap.IsTuple _ its.toArray from p) hu
  | bl b=>cases (show u'=Value.bool _ from r2);exact SeqAt.RcNeAt.tuple_bool _ (show s.heap.IsTuple _ its.toArray from p) hu
  | int i=>obtain ⟨t,rfl⟩:=r2;exact SeqAt.RcNeAt.tuple_int _ _ (show s.heap.IsTuple _ its.toArray from p) hu
  | str x=>obtain ⟨t,rfl⟩:=r2;exact SeqAt.RcNeAt.tuple_str _ _ (show s.heap.IsTuple _ its.toArray from p) hu
  | @tup a' xs' ds' h' hs'=>
   cases (show u'=Value.ref a' from r2)
   ·obtain ⟨its',rv',p',hz'⟩:=I.tuple h'
    have l1:its.toArray.size=ds.length:=by rw [List.size_toArray,<-rv.length,hs.length]
    have l2:its'.toArray.size=ds'.length:=by rw [List.size_toArray,<-rv'.length,hs'.length]
    have key:=SeqAt.RcNeAt.tuples (A:=A) (s:=s) (show s.heap.IsTuple a its.toArray from p) (show s.heap.IsTuple a' its'.toArray from p') hu
     (iU (A:=A.in1) (s:=s) hs hs' rv rv' fun d d' v v' u u' hm iv iv' r r'=>rc ds (.inl rfl) d d' v v' u u' hm iv iv' r r')
    rw [l1,l2,<-iQ] at key
    exact key
  | @lst a' xs' ds' h' hs'=>
   cases (show u'=Value.ref a' from r2)
   obtain ⟨its',rv',p',hz'⟩:=I.list h'
   exact SeqAt.RcNeAt.tuple_list (show s.heap.IsTuple _ its.toArray from p) p'.isList hu
 | @lst a xs ds h hs=>
  cases (show u=Value.ref a from r1)
  obtain ⟨its,rv,p,hz⟩:=I.list h
  cases h2 with
  | non=>cases (show u'=Value.none from r2);exact SeqAt.RcNeAt.list_none p.isList hu
  | bl b=>cases (show u'=Value.bool _ from r2);exact SeqAt.RcNeAt.list_bool _ p.isList hu
  | int i=>obtain ⟨t,rfl⟩:=r2;exact SeqAt.RcNeAt.list_int _ _ p.isList hu
  | str x=>obtain ⟨t,rfl⟩:=r2;exact SeqAt.RcNeAt.list_str _ _ p.isList hu
  | @tup a' xs' ds' h' hs'=>
   cases (show u'=Value.ref a' from r2)
   obtain ⟨its',rv',p',hz'⟩:=I.tuple h'
   exact SeqAt.RcNeAt.list_tuple p.isList (show s.heap.IsTuple _ its'.toArray from p') hu
  | @lst a' xs' ds' h' hs'=>
   cases (show u'=Value.ref a' from r2)
   ·obtain ⟨its',rv',p',hz'⟩:=I.list h'
    have l1:its.toArray.size=ds.length:=by rw [List.size_toArray,<-rv.length,hs.length]
    have l2:its'.toArray.size=ds'.length:=by rw [List.size_toArray,<-rv'.length,hs'.length]
    by_cases hl:ds.length=ds'.length
    ·have key:=SeqAt.RcNeAt.lists (A:=A) (s:=s) p.isList p'.isList (by rw [l1,l2,hl]) hu
      (iU (A:=A.in1) (s:=s) hs hs' rv rv' fun d d' v v' u u' hm iv iv' r r'=>rc ds (.inr rfl) d d' v v' u u' hm iv iv' r r')
     rw [l1,fH hl] at key
     exact key
    ·have key:=SeqAt.RcNeAt.lists_lengths (A:=A) (s:=s) p.isList p'.isList (by rw [l1,l2];simp [hl]) hu
     rw [eqD,rF hl]
     exact key
theorem eqA {X:Cx} (hu:X.A.units+64 < cLine):OpR X (compareOp .Eq) (fun x y H Q=>∃ d d',IsD X.K H x d/\IsD X.K H y d'/\dep d<=50/\Q (.bl (eqD d d')) H):=by
 intro pins s σ H x y v u Q I rx ry h
 obtain ⟨d,d',h1,h2,hn,q⟩:=h
 refine zCQ I h1 h2 rx ry (by omega) (fun ds hd e e' w w' z z' hm i1 i2 q1 q2=>?_) X.prog X.w X.xe _ ⟨.bl _,H,I,rfl,q⟩
 refine zAJ I 50 ?_ i1 i2 X.A.in1 z z' (by show X.A.units+1+50 < cLine;omega) q1 q2
 have:=nR hm
 rcases hd with rfl | rfl<;>(rw [dep] at hn;omega)
theorem neA {X:Cx} (hu:X.A.units+64 < cLine):OpR X (compareOp .NotEq) (fun x y H Q=>∃ d d',IsD X.K H x d/\IsD X.K H y d'/\dep d<=50/\Q (.bl (!eqD d d')) H):=by
 intro pins s σ H x y v u Q I rx ry h
 obtain ⟨d,d',h1,h2,hn,q⟩:=h
 refine zBF I h1 h2 rx ry (by omega) (fun ds hd e e' w w' z z' hm i1 i2 q1 q2=>?_) X.prog X.w X.xe _ ⟨.bl _,H,I,rfl,q⟩
 refine zAJ I 50 ?_ i1 i2 X.A.in1 z z' (by show X.A.units+1+50 < cLine;omega) q1 q2
 have:=nR hm
 rcases hd with rfl | rfl<;>(rw [dep] at hn;omega)
theorem zBB {X:Cx}:OpK X (fun x y H Q=>∃ d d',IsD X.K H x d/\IsD X.K H y d'/\dep d<=50/\Q (.bl (eqD d d')) H) oEq:=⟨fun a b c z=>(by
  unfold oEq at z;split at z<;>cases z),fun Hi H x y a b d Q s r1 r2 z q=>by
  unfold oEq at z
  split at z
  ·rename_i h;cases z;exact ⟨a,b,r1.mono s,r2.mono s,h,q _ Hi H (Ext.refl s) (.bl _)⟩
  ·cases z⟩
theorem zHf {X:Cx}:OpK X (fun x y H Q=>∃ d d',IsD X.K H x d/\IsD X.K H y d'/\dep d<=50/\Q (.bl (!eqD d d')) H) oNe:=⟨fun a b c z=>(by
  unfold oNe at z;split at z<;>cases z),fun Hi H x y a b d Q s r1 r2 z q=>by
  unfold oNe at z
  split at z
  ·rename_i h;cases z;exact ⟨a,b,r1.mono s,r2.mono s,h,q _ Hi H (Ext.refl s) (.bl _)⟩
  ·cases z⟩
open Classical in
def zHb (K:PySem.W.Frag) (H:Hp) (dx:D) (u:Value):Bool:=if ∃ w d,IsD K H w d/\cI w u/\eqD d dx=true then true else false
theorem zCp (I:Inv X pins σ H s) {dx d:D} {w:V} {u:Value} (h:IsD X.K H w d) (r:cI w u):zHb X.K H dx u=eqD d dx:=by
 unfold zHb
 by_cases e:eqD d dx=true
 ·rw [if_pos ⟨w,d,h,r,e⟩,e]
 ·rw [if_neg]
  ·simpa using e
  ·rintro ⟨w',d',h',r',e'⟩
   have:=r.inj r'
   subst this
   have:=IsD.inj I h h'
   subst this
   exact e e'
theorem wM (I:Inv X pins σ H s) {dx:D}:∀ {xs:List V} {ds:List D} {us:List Value},IsDs X.K H xs ds->dM xs us->us.any (zHb X.K H dx)=ds.any fun d=>eqD d dx
 | _,_,_,.nil,.nil=>rfl
 | _,_,_,.cons h hs,.cons r t=>by rw [List.any_cons,List.any_cons,zCp I h r,wM I hs t]
theorem wO (I:Inv X pins σ H s) {A:Around} {dx:D} {x:V} {ux:Value} (hx:IsD X.K H x dx) (rx:cI x ux) (hu:A.units+50 < cLine):∀ {xs:List V} {ds:List D} {us:List Value},IsDs X.K H xs ds->dM xs us->(∀ d∈ds,dep d<=50)->∀ u∈us,SeqAt.EqAt A s u ux (zHb X.K H dx u)
 | _,_,_,.nil,.nil,_=>fun u hu=>by cases hu
 | _,_,_,.cons h hs,.cons r t,f=>fun u hm=>by
  rcases List.mem_cons.mp hm with rfl | hm
  ·rw [zCp I h r];exact zAJ I 50 (f _ List.mem_cons_self) h hx A _ ux hu r rx
  ·exact wO I hx rx hu hs t (fun d hd=>f d (List.mem_cons_of_mem _ hd)) u hm
def zLm (K:PySem.W.Frag) (neg:Bool):R2:=fun x y H Q=>∃ d ds,IsD K H x d/\(IsD K H y (.lst ds)∨IsD K H y (.tup ds))/\depS ds<=50/\Q (.bl (if neg=true then !(ds.any fun e=>eqD e d) else ds.any fun e=>eqD e d)) H
theorem inA {X:Cx} (hu:X.A.units+64 < cLine):OpR X (compareOp .In) (zLm X.K false):=by
 intro pins s σ H x y v u Q I rx ry h
 obtain ⟨d,ds,h1,h2,hn,q⟩:=h
 have hd:∀ e∈ds,dep e<=50:=fun e he=>Nat.le_trans (nR he) hn
 rcases h2 with h2 | h2
 ·obtain ⟨a,xs,rfl,hl,hs⟩:=h2.lstI
  cases ry
  obtain ⟨its,rv,p,hz⟩:=I.list hl
  refine SeqAt.in_listAt (zHb X.K H d) p.isList (fun y hy=>wO I h1 rx (by show X.A.units+1+50 < cLine;omega) hs rv hd y (by simpa using hy)) ?_
  exact ⟨.bl _,H,I,by rw [List.any_toArray,wM I hs rv];rfl,q⟩
 ·obtain ⟨a,xs,rfl,hl,hs⟩:=h2.tupI
  cases ry
  obtain ⟨its,rv,p,hz⟩:=I.tuple hl
  refine SeqAt.in_tupleAt (zHb X.K H d) (show s.heap.IsTuple _ its.toArray from p) (fun y hy=>wO I h1 rx (by show X.A.units+1+50 < cLine;omega) hs rv hd y (by simpa using hy)) ?_
  exact ⟨.bl _,H,I,by rw [List.any_toArray,wM I hs rv];rfl,q⟩
theorem zHe {X:Cx}:OpK X (zLm X.K false) oIn:=⟨fun a b c z=>(by
  cases b<;>first | cases z | (simp only [oIn] at z;split at z<;>cases z)),fun Hi H x y a b d Q s r1 r2 z q=>by
  cases b<;>first | cases z | skip
  ·rename_i ds
   simp only [oIn] at z
   split at z
   ·rename_i h;cases z;exact ⟨a,ds,r1.mono s,.inr (r2.mono s),h,q _ Hi H (Ext.refl s) (.bl _)⟩
   ·cases z
  ·rename_i ds
   simp only [oIn] at z
   split at z
   ·rename_i h;cases z;exact ⟨a,ds,r1.mono s,.inl (r2.mono s),h,q _ Hi H (Ext.refl s) (.bl _)⟩
   ·cases z⟩
end
end L3
namespace L3
open PySem PySem.Spec PyProof.Rows L2
unseal PEd PEf PTd PWd PAd PSd bX
section
variable {X:Cx} {G:Gx} {a b e:Expr} {es:List Expr} {pos p:Pos} {f g:Ev} {fs gs:Fv} {t u:Tv} {x:Str} {id T:String}
def pF (X:Cx) (r:List V->Hp->VK->Prop) (o:List D->Res D):Prop:=(∀ a c,o a≠.err c)/\∀ (Hi H:Hp) (vs:List V) (ds:List D) (d:D) (Q:VK),Same Hi H->IsDs X.K Hi vs ds->o ds=.ok d->
 (∀ v Hi' H',Ext Hi H Hi' H'->IsD X.K Hi' v d->Q v H')->r vs H Q
theorem zJj {r:List V->Hp->VK->Prop} {o:List D->Res D} (k:pF X r o):∀ σ H Q,tD X G (eB o fs) σ H Q->tCB r (tAs X G fs) σ H Q:=fun σ H Q q=>by
 obtain ⟨ρ,Hi,R,ou⟩:=q
 refine zEs R ou fun vs ds Hi1 H1 e1 R1 r1 o1=>?_
 cases z:o ds with
 | no=>rw [z] at o1;exact o1.elim
 | err c=>exact absurd z (k.1 ds c)
 | ok d=>rw [z] at o1;exact k.2 Hi1 H1 vs ds d Q R1.s r1 z fun v Hi2 H2 e2 r2=>o1 Hi2 H2 e2 v r2
theorem aX {r:List V->Hp->VK->Prop} {o:List D->Res D} (hc:lI X (.builtin id) r) (k:pF X r o) (hg:Gl X x) (hm:X.mg x=none) (hv:bootBuiltins x=some (.builtin id)) (ha:PAd X G (e::es) fs) (hn:x ≠ "__name__" := by decide) (hdb:(x==("__debug__" : Str))=false:=by decide)
  (he:starEach (e::es) X.env=(false,eval e X.env)::starEach es X.env:=by rfl) (hpl:(backTo pos (starEach es X.env)).any (·.1)=false:=by rfl):PEd X G (.Call (.Name x p) (e::es) [] pos) (eB o fs):=
 PE.wk (xJ hc hg hm hv ha hn hdb he hpl) (zJj k)
theorem nM {r:List V->Hp->VK->Prop} {o:List D->Res D} (hc:lI X (.type T) r) (k:pF X r o) (hg:Gl X x) (hm:X.mg x=none) (hv:bootBuiltins x=some (.type T)) (ha:PAd X G (e::es) fs) (hn:x ≠ "__name__" := by decide) (hdb:(x==("__debug__" : Str))=false:=by decide)
  (he:starEach (e::es) X.env=(false,eval e X.env)::starEach es X.env:=by rfl) (hpl:(backTo pos (starEach es X.env)).any (·.1)=false:=by rfl):PEd X G (.Call (.Name x p) (e::es) [] pos) (eB o fs):=
 PE.wk (tH hc hg hm hv ha hn hdb he hpl) (zJj k)
theorem IsDs.one {K:PySem.W.Frag} {H:Hp} {vs:List V} {d:D} (h:IsDs K H vs [d]):∃ v,vs=[v]/\IsD K H v d:=by
 cases h with
 | cons h t=>cases t;exact ⟨_,rfl,h⟩
theorem IsDs.two {K:PySem.W.Frag} {H:Hp} {vs:List V} {d d':D} (h:IsDs K H vs [d,d']):∃ v w,vs=[v,w]/\IsD K H v d/\IsD K H w d':=by
 cases h with
 | cons h t=>obtain ⟨w,rfl,hw⟩:=t.one;exact ⟨_,w,rfl,h,hw⟩
theorem eI:pF X (fun xs H Q=>∃ p ys,xs=[.ref p]/\(SqL X.K H p ys∨SqT X.K H p ys)/\Q (.int ys.length) H) mS:=⟨fun a c z=>(by
  unfold mS at z;split at z<;>cases z),fun Hi H vs ds d Q s r z q=>by
  unfold mS at z
  split at z
  ·cases z
   obtain ⟨v,rfl,h⟩:=r.one
   obtain ⟨a,xs,rfl,h1,h2⟩:=h.lstI
   refine ⟨a,xs,rfl,.inl (bU s h1),?_⟩
   rw [h2.length]
   exact q _ Hi H (Ext.refl s) (.int _)
  ·cases z
   obtain ⟨v,rfl,h⟩:=r.one
   obtain ⟨a,xs,rfl,h1,h2⟩:=h.tupI
   refine ⟨a,xs,rfl,.inr (bO s h1),?_⟩
   rw [h2.length]
   exact q _ Hi H (Ext.refl s) (.int _)
  ·cases z⟩
theorem zHW:pF X (fun xs H Q=>∃ i j,xs=[.int i,.int j]/\Q (.int (if j < i then j else i)) H) zHU:=⟨fun a c z=>(by
  unfold zHU at z;split at z<;>cases z),fun Hi H vs ds d Q s r z q=>by
  unfold zHU at z
  split at z
  ·cases z
   obtain ⟨v,w,rfl,h,h'⟩:=r.two
   exact ⟨_,_,by rw [h.intI,h'.intI],q _ Hi H (Ext.refl s) (.int _)⟩
  ·cases z⟩
theorem zEO:pF X (fun xs H Q=>∃ p ys,xs=[.ref p]/\((SqL X.K H p ys/\∀ l,H l=none->Q (.ref l) (upd H l (.tup ys)))∨(SqT X.K H p ys/\Q (.ref p) H))) zEP:=⟨fun a c z=>(by
  unfold zEP at z;split at z<;>cases z),fun Hi H vs ds d Q s r z q=>by
  unfold zEP at z
  split at z
  ·cases z
   obtain ⟨v,rfl,h⟩:=r.one
   obtain ⟨a,xs,rfl,h1,h2⟩:=h.lstI
   exact ⟨a,xs,rfl,.inl ⟨bU s h1,fun l hl=>q _ _ _ (Ext.new s hl) (.tup (SqT.of aE) (h2.mono (aS (s.none hl) _)))⟩⟩
  ·cases z
   obtain ⟨v,rfl,h⟩:=r.one
   obtain ⟨a,xs,rfl,h1,h2⟩:=h.tupI
   exact ⟨a,xs,rfl,.inr ⟨bO s h1,q _ Hi H (Ext.refl s) (.tup h1 h2)⟩⟩
  ·cases z⟩
theorem zGS (hg:Gl X "list") (hm:X.mg "list" = none) (hv:bootBuiltins "list" = some (.type "list")) (ha:PAd X G (e::es) fs)
  (he:starEach (e::es) X.env=(false,eval e X.env)::starEach es X.env:=by rfl) (hpl:(backTo pos (starEach es X.env)).any (·.1)=false:=by rfl):PEf X G (.Call (.Name "list" p) (e::es) [] pos) (zFK fs):=
 PE.wk (tH uB hg hm hv ha (by decide) (by decide) he hpl) fun σ H Q q=>by
 obtain ⟨ρ,Hi,R,ou⟩:=q
 refine zEs R ou fun vs ds Hi1 H1 e1 R1 r1 o1=>?_
 split at o1
 ·obtain ⟨v,rfl,h⟩:=r1.one
  obtain ⟨a,xs,rfl,h1,h2⟩:=h.lstI
  exact ⟨a,xs,rfl,.inl (bU R1.s h1),fun l hl=>o1 _ _ (Ext.newF R1.s hl) l ⟨e1.h.none hl,R1.s.none hl,xs,aE,h2⟩⟩
 ·obtain ⟨v,rfl,h⟩:=r1.one
  obtain ⟨a,xs,rfl,h1,h2⟩:=h.tupI
  exact ⟨a,xs,rfl,.inr (bO R1.s h1),fun l hl=>o1 _ _ (Ext.newF R1.s hl) l ⟨e1.h.none hl,R1.s.none hl,xs,aE,h2⟩⟩
 ·exact o1.elim
structure Kit (K:PySem.W.Frag) (T:String):Prop where
 non:PySem.W.kitOne K (.type "NoneType") (.type T)=some (isT T .non)
 bl:PySem.W.kitOne K (.type "bool") (.type T)=some (isT T (.bl true))
 int:PySem.W.kitOne K (.type "int") (.type T)=some (isT T (.int 0))
 str:PySem.W.kitOne K (.type "str") (.type T)=some (isT T (.str ⟨#[]⟩))
 tup:PySem.W.kitOne K (.type "tuple") (.type T)=some (isT T (.tup []))
 lst:PySem.W.kitOne K (.type "list") (.type T)=some (isT T (.lst []))
theorem zIF (k:Kit X.K T):lI X (.builtin "isinstance") (fun xs H Q=>∃ y d,xs=[y,.ty T]/\IsD X.K H y d/\Q (.bl (isT T d)) H):=by
 intro pins s σ H xs us Q I r h
 obtain ⟨y,d,rfl,hd,q⟩:=h
 obtain ⟨u,w',rfl,rx,rc⟩:=zHq r
 cases rc
 have fin:∀ tk,EP X pins σ Q (.bool (isT T d)) { s with toks:=tk }:=fun tk=>⟨.bl _,H,I.tok _,rfl,q⟩
 cases hd with
 | non=>cases (show u=Value.none from rx);exact PySem.W.kia_one PySem.W.kitx_none I.kIn True.intro k.non (fun z=>nomatch z) fin
 | bl y=>cases (show u=Value.bool y from rx);exact PySem.W.kia_one PySem.W.kitx_bool I.kIn True.intro k.bl (fun z=>nomatch z) fin
 | int i=>obtain ⟨t,q⟩:=(show ∃ t,u=Value.int i t from rx);cases q;exact PySem.W.kia_one PySem.W.kitx_int I.kIn True.intro k.int (fun z=>nomatch z) fin
 | str y=>obtain ⟨t,q⟩:=(show ∃ t,u=Value.str y t from rx);cases q;exact PySem.W.kia_one PySem.W.kitx_str I.kIn True.intro k.str (fun z=>nomatch z) fin
 | @tup a xs ds h hs=>
  cases (show u=Value.ref a from rx)
  obtain ⟨its,rv,⟨o,h1,h2,_⟩,hz⟩:=I.tuple h
  exact PySem.W.kia_one PySem.W.kitx_tuple I.kIn ⟨o,h1,h2⟩ k.tup (fun z=>nomatch z) fin
 | @lst a xs ds h hs=>
  cases (show u=Value.ref a from rx)
  obtain ⟨its,rv,⟨o,n,h1,h2,_⟩,hz⟩:=I.list h
  exact PySem.W.kia_one PySem.W.kitx_list I.kIn ⟨o,h1,h2⟩ k.lst (fun z=>nomatch z) fin
theorem lW {c:Expr} (k:Kit X.K T) (hg:Gl X "isinstance") (hm:X.mg "isinstance" = none) (ha:PEd X G a f) (hc:PE X c (tC (.ty T)))
  (h1:starEach [a,c] X.env=(false,eval a X.env)::starEach [c] X.env:=by rfl) (h2:starEach [c] X.env=(false,eval c X.env)::starEach [] X.env:=by rfl) (hpl:(backTo pos (starEach [c] X.env)).any (·.1)=false:=by rfl):
  PEd X G (.Call (.Name "isinstance" p) [a,c] [] pos) (zDa T f):=
 PE.wk (xJ (zIF k) hg hm boot_isinstance (cT ha (cT hc gK h2) h1) (by decide) (by decide) h1 hpl) fun σ H Q q=>by
 obtain ⟨ρ,Hi,R,ou⟩:=q
 refine lZ R ou fun v d Hi1 H1 e1 R1 r1 o1=>?_
 exact ⟨v,d,rfl,r1.mono R1.s,o1.here R1.s _ (.bl _)⟩
theorem zCx {K:PySem.W.Frag} {H:Hp} {v:V} {d:D} (h:IsD K H v d):decide (v=.non)=isNon d:=by
 cases h<;>simp [isNon]
theorem zHH {c:Expr} (ha:PEd X G a f) (hc:PE X c (tC .non)) (hm:behindInMarks .Is c=false):PEd X G (.Compare a [.Is] [c] pos) (zHg f):=PE.wk (zBr zEA ha hc hm) fun σ H Q q=>by
 obtain ⟨ρ,Hi,R,ou⟩:=q
 refine lZ R ou fun v d Hi1 H1 e1 R1 r1 o1=>?_
 refine ⟨rfl,?_⟩
 rw [zCx r1]
 exact o1.here R1.s _ (.bl _)
variable {lo hi:Option Expr} {l h:Ov} {p2:Pos}
def tOv (X:Cx) (G:Gx) (f:Ov):TO:=fun σ H Q=>∃ ρ Hi,dS X G Hi H σ ρ/\Out G Hi H (f ρ) fun o _ H'=>Q o H'
@[irreducible] def POd (X:Cx) (G:Gx) (e:Option Expr) (f:Ov):Prop:=PO X e (tOv X G f)
unseal POd
theorem PO.wk {X:Cx} {e:Option Expr} {t t':TO} (h:PO X e t) (w:∀ σ H Q,t' σ H Q->t σ H Q):PO X e t':=fun pins s σ H Q I q=>h pins s σ H Q I (w σ H Q q)
theorem rN:POd X G none oN:=PO.wk zGN fun σ H Q q=>by
 obtain ⟨ρ,Hi,R,ou⟩:=q
 exact ou.here R.s
theorem hW (he:PEd X G e f):POd X G (some e) (oS f):=PO.wk (zFy he) fun σ H Q q=>by
 obtain ⟨ρ,Hi,R,ou⟩:=q
 refine lZ R ou fun v d Hi1 H1 e1 R1 r1 o1=>?_
 cases d with
 | int i=>exact ⟨i,r1.intI,o1.here R1.s⟩
 | _=>exact o1.elim
theorem zHd {f:Ov} {Hi H:Hp} {σ:St} {ρ:Rho} {β:Type} {k:Option Int->Res β} {k':β->Hp->Hp->Prop} {Q:Option Int->Hp->Prop} (R:dS X G Hi H σ ρ) (o:Out G Hi H ((f ρ).bind k) k')
  (w:∀ c Hi' H',Ext Hi H Hi' H'->dS X G Hi' H' σ ρ->Out G Hi' H' (k c) k'->Q c H'):tOv X G f σ H Q:=
 ⟨ρ,Hi,R,o.bind.imp fun d Hi' H' e q=>w d Hi' H' e (R.grow e) q⟩
theorem zBE (n d:Nat) (i:Option Int):cut n i d=HT.sIx n d i:=by
 cases i with
 | none=>rfl
 | some i=>
  simp only [cut,HT.sIx]
  split<;>split<;>omega
theorem IsDs.cut {K:PySem.W.Frag} {H:Hp} {xs:List V} {ds:List D} (h:IsDs K H xs ds) (l r:Option Int):IsDs K H (zDe xs l r) (cV ds l r):=by
 unfold zDe cV
 rw [zBE,zBE,h.length]
 exact (h.drop _).take _
theorem rZ (he:PEd X G e f) (hl:POd X G lo l) (hu:POd X G hi h):PEf X G (.Subscript e (.Slice lo hi none p2) pos) (fSl f l h):=PE.wk (sN zBs he hl hu) fun σ H Q q=>by
 obtain ⟨ρ,Hi,R,ou⟩:=q
 refine lZ R ou fun v d Hi1 H1 e1 R1 r1 o1=>?_
 refine zHd R1 o1 fun i Hi2 H2 e2 R2 o2=>?_
 refine zHd R2 o2 fun j Hi3 H3 e3 R3 o3=>?_
 cases d with
 | lst ds=>
  obtain ⟨a,xs,rfl,h1,h2⟩:=r1.lstI
  refine ⟨a,xs,rfl,bU (e2.i.trans (e3.i.trans R3.s)) h1,fun p hp=>?_⟩
  exact o3 _ _ (Ext.newF R3.s hp) p ⟨(e1.h.trans (e2.h.trans e3.h)).none hp,R3.s.none hp,_,aE,(h2.cut i j).mono (e2.i.trans e3.i)⟩
 | _=>exact o3.elim
def zKv (K:PySem.W.Frag):R2:=fun x y H Q=>∃ l b xs zs,x=.ref l/\y=.ref b/\SqL K H l xs/\SqL K H b zs/\xs.length+zs.length<=sizeLine/\∀ p,H p=none->Q (.ref p) (upd H p (.lst (xs++zs)))
theorem zFY:OpR X (binaryOp .Add) (zKv X.K):=by
 intro pins s σ H x y v u Q I rx ry h
 obtain ⟨l,b,xs,zs,rfl,rfl,hl,hb,hz,q⟩:=h
 cases rx
 cases ry
 obtain ⟨its,r,p,_⟩:=I.list hl
 obtain ⟨its2,r2,p2,_⟩:=I.list hb
 obtain ⟨⟨cls,dd,data,sl⟩,ho,hc,n,hd⟩:=id p.isList
 obtain ⟨⟨cls2,dd2,data2,sl2⟩,ho2,hc2,n2,hd2⟩:=id p2.isList
 simp only at hc hd hc2 hd2
 subst hc hd hc2 hd2
 have hsz:its.toArray.size+its2.toArray.size<=sizeLine:=by rw [List.size_toArray,List.size_toArray,<-r.length,<-r2.length];exact hz
 have e:its.toArray++its2.toArray=(its++its2).toArray:=by simp
 refine concat_meets ⟨_,ho,rfl⟩ ⟨_,ho2,rfl⟩ noFill_list_add seq_list_add PySem.F.slot_list_add PySem.F.entry_list_add (PySem.F.args_list_add_2 _ _) (list_addW l b its.toArray its2.toArray n n2 dd dd2 sl sl2 hsz) ⟨ho,ho2,?_⟩
 rw [e]
 exact ⟨.ref _,_,I.lnew (t':=s.toks) (r.append r2) (by rw [List.length_append];exact hz),rfl,q _ I.fresh⟩
theorem zEK (ha:PEd X G a f) (hb:PEd X G b g):PEf X G (.BinOp a .Add b pos) (zJG f g):=PE.wk (zHw zFY ha hb) fun σ H Q q=>by
 obtain ⟨ρ,Hi,R,ou⟩:=q
 refine lZ R ou fun v d Hi1 H1 e1 R1 r1 o1=>?_
 refine lZ R1 o1 fun w d' Hi2 H2 e2 R2 r2 o2=>?_
 cases d<;>first | exact o2.elim | skip
 cases d'<;>first | exact o2.elim | skip
 rename_i ds es
 obtain ⟨a,xs,rfl,h1,h2⟩:=r1.lstI
 obtain ⟨b,ys,rfl,h3,h4⟩:=r2.lstI
 have o2':Out G Hi2 H2 (if ds.length+es.length<=16777216 then Res.ok (ds++es) else .no) _:=o2
 by_cases hz:ds.length+es.length<=16777216
 ·rw [if_pos hz] at o2'
  refine ⟨a,b,xs,ys,rfl,rfl,bU (e2.i.trans e2.s) h1,bU e2.s h3,by rw [h2.length,h4.length];exact hz,fun p hp=>?_⟩
  exact o2' _ _ (Ext.newF e2.s hp) p ⟨(e1.h.trans e2.h).none hp,e2.s.none hp,_,aE,(h2.mono e2.i).append h4⟩
 ·rw [if_neg hz] at o2';exact o2'.elim
end
end L3
namespace L3
open PySem PySem.Spec PyProof.Rows L2
unseal PEd PEf PTd PWd PAd PSd bX POd
section
variable {X:Cx} {G:Gx} {a b e:Expr} {es:List Expr} {pos p:Pos} {f g:Ev} {fs gs:Fv} {t u:Tv} {x:Str} {st:Stmt} {rest:List Stmt} {sa sb:Sv}
theorem jR {Hi H:Hp} {σ:St} {ρ:Rho} {E:Ends} {α:Type} {r:Res α} {k:α->Res Fl} (R:dS X G Hi H σ ρ) (h:Fin X G Hi E (r.bind k)) {Q:α->Hp->Hp->Prop}
  (w:∀ a Hi' H',r=.ok a->Ext Hi H Hi' H'->Fin X G Hi' E (k a)->Q a Hi' H'):Out G Hi H r Q:=by
 cases r with
 | no=>exact h
 | err c=>exact fun Hi' H' e=>h Hi' H' (R.ext.trans e)
 | ok a=>exact fun Hi' H' e=>w a Hi' H' rfl e (Fin.mono (show Fin X G Hi E (k a) from h) e.i)
theorem bP:bX X G [] sNext:=PSs.wk zAH fun E σ H q=>by
 obtain ⟨ρ,Hi,R,h⟩:=q
 exact h σ Hi H (Same.refl _) R
theorem zKJ {E:Ends} {Hi:Hp} {ρ:Rho} (h:Fin X G Hi E (bI sa sb ρ)):Fin X G Hi { E with nx:=tS X G sb E } (sa ρ):=by
 unfold bI at h
 cases z:sa ρ with
 | no=>rw [z] at h;exact h
 | err c=>rw [z] at h;exact h
 | ok fl=>
  rw [z] at h
  cases fl with
  | nx ρ'=>exact fun σ' Hi' H' s R'=>⟨ρ',Hi',R',Fin.mono (show Fin X G Hi E (sb ρ') from h) s⟩
  | brk ρ'=>exact h
  | ctn ρ'=>exact h
  | ret r=>cases r<;>exact h
theorem zET {E:Ends} {σ:St} {H:Hp} (q:tS X G (bI sa sb) E σ H):tS X G sa { E with nx:=tS X G sb E } σ H:=by
 obtain ⟨ρ,Hi,R,h⟩:=q
 exact ⟨ρ,Hi,R,zKJ h⟩
theorem aD (h1:PSd X G st sa) (h2:bX X G rest sb):bX X G (st::rest) (bI sa sb):=PSs.wk (iR h1 h2) fun _ _ _ q=>zET q
theorem aI (h1:PSd X G st sa):bX X G [st] sa:=vZ h1
theorem zCH (he:PEd X G e f) (hs:swapsWith e none pos.line X.env=pure false:=by rfl):PSd X G (.Expr e pos) (zCJ f):=PS.wk (jT he hs) fun E σ H q=>by
 obtain ⟨ρ,Hi,R,h⟩:=q
 exact ⟨ρ,Hi,R,jR R h fun d Hi' H' _ e h' v r=>h' σ Hi' H' (Same.refl _) (R.grow e)⟩
theorem cY (he:PEd X G e f):PSd X G (.Return (some e) pos) (iS f):=PS.wk (pN he) fun E σ H q=>by
 obtain ⟨ρ,Hi,R,h⟩:=q
 obtain ⟨Hf,s1,R1,fl⟩:=R.frz
 refine ⟨ρ.map Sl.frz,Hf,R1,jR R1 (Fin.mono h s1) fun d Hi' H' _ e h' v r=>?_⟩
 exact h' v Hi' H' (R1.ext.trans e) r
theorem zHo (he:PEf X G e fs):PSd X G (.Return (some e) pos) (zGs fs):=PS.wk (pN he) fun E σ H q=>by
 obtain ⟨ρ,Hi,R,h⟩:=q
 obtain ⟨Hf,s1,R1,fl⟩:=R.frz
 refine ⟨ρ.map Sl.frz,Hf,R1,jR R1 (Fin.mono h s1) fun ds Hi' H' _ e h' a n=>?_⟩
 obtain ⟨n1,n2,xs,n3,n4⟩:=n
 exact h' a Hi' H' (R1.ext.trans e) ⟨R1.ext.h.none n1,n2,xs,n3,n4⟩
theorem rP (i:Nat) (he:PE X e (qJ i)):PSd X G (.Return (some e) pos) (jO i):=PS.wk (pN he) fun E σ H q=>by
 obtain ⟨ρ,Hi,R,h⟩:=q
 unfold jO at h
 cases z:ρ[i]? with
 | none=>rw [z] at h;exact h.elim
 | some s=>
  rw [z] at h
  cases s with
  | own ds=>
   obtain ⟨a,xs,p,h1,h2,h3,h4⟩:=R.slot i _ z
   exact ⟨.ref a,p,h a Hi H R.ext ⟨h3,h2,xs,h1,h4⟩⟩
  | un=>exact h.elim
  | val d=>exact h.elim
  | exc c=>exact h.elim
  | tab T=>exact h.elim
  | ins c fs=>exact h.elim
  | obj ao c lf fs ds=>exact h.elim
theorem jW {c:Expr} {as bs:List Stmt} (hc:PTd X G c t) (ha:bX X G as sa) (hb:bX X G bs sb):PSd X G (.If c as bs pos) (sIf t sa sb):=PS.wk (zFT hc ha hb) fun E σ H q=>by
 obtain ⟨ρ,Hi,R,h⟩:=q
 refine ⟨ρ,Hi,R,jR R h fun c Hi' H' _ e h'=>?_⟩
 cases c with
 | true=>exact ⟨ρ,Hi',R.grow e,h'⟩
 | false=>exact ⟨ρ,Hi',R.grow e,h'⟩
theorem zJT:PSd X G st sNo:=fun _ _ _ _ _ _ h=>by
 obtain ⟨ρ,Hi,R,h⟩:=h
 exact h.elim
theorem zKI {i:Nat} {pos':Pos} (hN:X.N.Nodup) (hi:X.N[i]?=some x) (hx:Loc X.env.scope x) (he:PEd X G e f) (hs:swapsWith e (some (.Name x pos')) pos.line X.env=pure false:=by rfl)
  (hf:X.fn x=true∨X.env.scope.names.lookup x=some .local:=by first | exact .inl rfl | exact .inr rfl | assumption):PSd X G (.Assign [.Name x pos'] e pos) (fV i f):=PS.wk (xI hN hi hx he hs hf) fun E σ H q=>by
 obtain ⟨ρ,Hi,R,h⟩:=q
 exact ⟨ρ,Hi,R,jR R h fun d Hi' H' _ e h' v r=>h' _ Hi' H' (Same.refl _) ((R.grow e).set r)⟩
theorem sT {i:Nat} {pos':Pos} (hN:X.N.Nodup) (hi:X.N[i]?=some x) (hx:Loc X.env.scope x) (he:PEf X G e fs) (hs:swapsWith e (some (.Name x pos')) pos.line X.env=pure false:=by rfl)
  (hf:X.fn x=true∨X.env.scope.names.lookup x=some .local:=by first | exact .inl rfl | exact .inr rfl | assumption):PSd X G (.Assign [.Name x pos'] e pos) (zCy i fs):=PS.wk (xI hN hi hx he hs hf) fun E σ H q=>by
 obtain ⟨ρ,Hi,R,h⟩:=q
 refine ⟨ρ,Hi,R,jR R h fun ds Hi' H' _ e h' a n=>?_⟩
 obtain ⟨n1,n2,xs,n3,n4⟩:=n
 exact h' _ Hi' H' (Same.refl _) (R.setOwn e n1 n3 n2 n4)
theorem zEj {i:Nat} {o:Expr} {apos cpos:Pos} (ho:PE X o (qJ i)) (he:PEd X G e f)
  (hbase:attributeBase o "append" X.env (eval o X.env)=eval o X.env:=by rfl)
  (hfew:((backTo cpos (starEach [e] X.env)).all (fun x=>!x.1) && (backToKw cpos (keywordEach [] X.env)).all (fun x=>x.1.isSome)
   && decide ([e].length+([]:List Keyword).length+(if ([]:List Keyword).isEmpty then 0 else 1) < 30))=true:=by rfl)
  (hline:(apos.endLine==cpos.line)=true:=by rfl) (hs:starEach [e] X.env=(false,eval e X.env)::starEach [] X.env:=by rfl)
  (hsw:swapsWith (.Call (.Attribute o "append" apos) [e] [] cpos) none pos.line X.env=pure false:=by rfl):
  PSd X G (.Expr (.Call (.Attribute o "append" apos) [e] [] cpos) pos) (zEL i f):=
 PS.wk (jT (wB PySem.F.plainAttrs_list PySem.F.slot_list_append PySem.F.type_list_append gJ ho (cT he gK hs) hbase hfew hline hs) hsw) fun E σ H q=>by
 obtain ⟨ρ,Hi,R,h⟩:=q
 unfold zEL at h
 cases z:ρ[i]? with
 | none=>rw [z] at h;exact h.elim
 | some s=>
  rw [z] at h
  cases s with
  | own ds=>
   obtain ⟨a,xs,p,h1,h2,h3,h4⟩:=R.slot i _ z
   refine ⟨.ref a,p,.inl ⟨rfl,xs,SqL.of h1⟩,?_⟩
   refine ⟨ρ,Hi,R,jR R h fun d Hi' H' _ e h' v r=>?_⟩
   have R':=R.grow e
   obtain ⟨g1,g2⟩:=e.out h1 h2
   by_cases hz:ds.length < 16777216
   ·rw [if_pos hz] at h'
    refine ⟨a,xs,v,rfl,rfl,g1,by rw [h4.length];exact hz,?_⟩
    exact h' σ Hi' _ (Same.refl _) (R'.write z p ((h4.mono e.i).append (.cons r .nil)))
   ·rw [if_neg hz] at h';exact h'.elim
  | un=>exact h.elim
  | val d=>exact h.elim
  | exc c=>exact h.elim
  | tab T=>exact h.elim
  | ins c fs=>exact h.elim
  | obj ao c lf fs ds=>exact h.elim
theorem zKo {i:Nat} {o:Expr} {apos cpos:Pos} (ho:PE X o (qJ i)) (he:PEf X G e fs)
  (hbase:attributeBase o "extend" X.env (eval o X.env)=eval o X.env:=by rfl)
  (hfew:((backTo cpos (starEach [e] X.env)).all (fun x=>!x.1) && (backToKw cpos (keywordEach [] X.env)).all (fun x=>x.1.isSome)
   && decide ([e].length+([]:List Keyword).length+(if ([]:List Keyword).isEmpty then 0 else 1) < 30))=true:=by rfl)
  (hline:(apos.endLine==cpos.line)=true:=by rfl) (hs:starEach [e] X.env=(false,eval e X.env)::starEach [] X.env:=by rfl)
  (hsw:swapsWith (.Call (.Attribute o "extend" apos) [e] [] cpos) none pos.line X.env=pure false:=by rfl):
  PSd X G (.Expr (.Call (.Attribute o "extend" apos) [e] [] cpos) pos) (zIt i fs):=
 PS.wk (jT (wB PySem.F.plainAttrs_list PySem.F.slot_list_extend PySem.F.type_list_extend zBR ho (cT he gK hs) hbase hfew hline hs) hsw) fun E σ H q=>by
 obtain ⟨ρ,Hi,R,h⟩:=q
 unfold zIt at h
 cases z:ρ[i]? with
 | none=>rw [z] at h;exact h.elim
 | some s=>
  rw [z] at h
  cases s with
  | own ds=>
   obtain ⟨a,xs,p,h1,h2,h3,h4⟩:=R.slot i _ z
   refine ⟨.ref a,p,.inl ⟨rfl,xs,SqL.of h1⟩,?_⟩
   refine ⟨ρ,Hi,R,jR R h fun es Hi' H' _ e h' b n=>?_⟩
   obtain ⟨n1,n2,ys,n3,n4⟩:=n
   have R':=R.grow e
   obtain ⟨g1,g2⟩:=e.out h1 h2
   by_cases hz:ds.length+es.length<=16777216
   ·rw [if_pos hz] at h'
    refine ⟨a,b,xs,ys,rfl,rfl,g1,n3,by rw [h4.length,n4.length];exact hz,?_⟩
    exact h' σ Hi' _ (Same.refl _) (R'.write z p ((h4.mono e.i).append n4))
   ·rw [if_neg hz] at h';exact h'.elim
  | un=>exact h.elim
  | val d=>exact h.elim
  | exc c=>exact h.elim
  | tab T=>exact h.elim
  | ins c fs=>exact h.elim
  | obj ao c lf fs ds=>exact h.elim
theorem bX.frzAt (i:Nat) {sts:List Stmt} (h:bX X G sts sa):bX X G sts (sFrzAt i sa):=PSs.wk h fun E σ H q=>by
 obtain ⟨ρ,Hi,R,h⟩:=q
 obtain ⟨Hi',s,R'⟩:=R.frzAt (i:=i)
 exact ⟨_,Hi',R',Fin.mono h s⟩
def tGv (X:Cx) (G:Gx) (g:Gv):TG:=fun v σ H Q=>∃ d ρ Hi,IsD X.K Hi v d/\dS X G Hi H σ ρ/\∃ ρ',g d ρ=.ok ρ'/\∀ σ' Hi' H',Same Hi Hi'->dS X G Hi' H' σ' ρ'->Q σ' H'
@[irreducible] def PGd (X:Cx) (G:Gx) (e:Expr) (g:Gv):Prop:=PG X e (tGv X G g)
unseal PGd
theorem zJc {i:Nat} (hN:X.N.Nodup) (hi:X.N[i]?=some x) (hx:Loc X.env.scope x) (hf:X.fn x=true∨X.env.scope.names.lookup x=some .local:=by first | exact .inl rfl | exact .inr rfl | assumption):PGd X G (.Name x pos) (gName i):=
 fun pins s σ H v u Q I r q=>vS hN hi hx hf pins s σ H v u Q I r (by
  obtain ⟨d,ρ,Hi,rd,R,ρ',e,k⟩:=q
  cases e
  exact k _ Hi H (Same.refl _) (R.set rd))
def zLs (X:Cx) (G:Gx) (g:List D->Rho->Res Rho):TGs:=fun vs σ H Q=>∃ ds ρ Hi,IsDs X.K Hi vs ds/\dS X G Hi H σ ρ/\∃ ρ',g ds ρ=.ok ρ'/\∀ σ' Hi' H',Same Hi Hi'->dS X G Hi' H' σ' ρ'->Q σ' H'
@[irreducible] def dH (X:Cx) (G:Gx) (es:List Expr) (g:List D->Rho->Res Rho):Prop:=PGs X es (zLs X G g)
unseal dH
theorem zIs:dH X G [] zDc:=fun pins s σ H vs us Q I r q=>zCE pins s σ H vs us Q I r (by
  obtain ⟨ds,ρ,Hi,rd,R,ρ',e,k⟩:=q
  cases ds with
  | nil=>cases rd;cases e;exact ⟨rfl,k _ Hi H (Same.refl _) R⟩
  | cons d ds=>cases e)
theorem zBO {g:Gv} {r:List D->Rho->Res Rho} (h1:PGd X G e g) (h2:dH X G es r) (hs:(assignEach (e::es) X.env).map (·.2)=assign e X.env::(assignEach es X.env).map (·.2):=by rfl):dH X G (e::es) (kG g r):=
 fun pins s σ H vs us Q I rr q=>rE h1 h2 hs pins s σ H vs us Q I rr (by
  obtain ⟨ds,ρ,Hi,rd,R,ρ',e,k⟩:=q
  cases ds with
  | nil=>cases e
  | cons d ds=>
   cases rd with
   | cons rd rds=>
    refine ⟨_,_,rfl,d,ρ,Hi,rd,R,?_⟩
    have e':(g d ρ).bind (fun ρ'=>r ds ρ')=.ok ρ':=e
    cases z:g d ρ with
    | no=>rw [z] at e';cases e'
    | err c=>rw [z] at e';cases e'
    | ok ρ1=>
     rw [z] at e'
     exact ⟨ρ1,rfl,fun σ1 Hi1 H1 s1 R1=>⟨ds,ρ1,Hi1,rds.mono s1,R1,ρ',e',fun σ2 Hi2 H2 s2 R2=>k σ2 Hi2 H2 (s1.trans s2) R2⟩⟩)
theorem zKD {k:Nat} {r:List D->Rho->Res Rho} {n:Nat} (hc:X.calm=true) (h:dH X G es r) (hr:∀ ds ρ ρ',r ds ρ=.ok ρ'->ds.length=n) (hn:(assignEach es X.env).length=n:=by rfl) (hst:(assignEach es X.env).findIdx? (·.1)=none:=by rfl):PGd X G (.Tuple es k pos) (zDf r):=
 fun pins s σ H v u Q I rr q=>zFb hc h hn hst pins s σ H v u Q I rr (by
  obtain ⟨d,ρ,Hi,rd,R,ρ',e,kk⟩:=q
  cases d with
  | tup ds=>
   obtain ⟨a,xs,rfl,h1,h2⟩:=rd.tupI
   exact ⟨a,xs,rfl,bO R.s h1,by rw [h2.length];exact hr ds ρ ρ' e,ds,ρ,Hi,h2,R,ρ',e,kk⟩
  | _=>cases e)
def Gives (K:PySem.W.Frag) (Hi:Hp) (J:It) (ds:List D):Prop:=∀ (Hi1 H1:Hp),Same Hi Hi1->Same Hi1 H1->∀ i,
 (ds.length<=i->J.stop i H1)/\∀ d,ds[i]?=some d->J.go i H1/\∀ x H2,J.yld i H1 x H2->∃ Hi2,Ext Hi1 H1 Hi2 H2/\IsD K Hi2 x d
def tIv (X:Cx) (G:Gx) (f:Fv):TI:=fun σ H R=>∃ ρ Hi,dS X G Hi H σ ρ/\Out G Hi H (f ρ) fun ds Hi' H'=>∀ J,Gives X.K Hi' J ds->R J H'
@[irreducible] def PId (X:Cx) (G:Gx) (tg e:Expr) (f:Fv):Prop:=PI X tg e (tIv X G f)
unseal PId
theorem PI.wk {tg:Expr} {t t':TI} (h:PI X tg e t) (w:∀ σ H Q,t' σ H Q->t σ H Q):PI X tg e t':=fun pins s σ H Q I q=>h pins s σ H Q I (w σ H Q q)
theorem zJp {g:Gv} {J:It} {ds:List D} {Hi1 H1:Hp} {σ:St} {ρ:Rho} {E:Ends} (hge:∀ d ρ c,g d ρ≠.err c) (R1:dS X G Hi1 H1 σ ρ) (h1:Fin X G Hi1 E (loop g sa ds ρ)) (gv:Gives X.K Hi1 J ds):zKX (fun _ _ R=>R J H1) (tGv X G g) (tS X G sa) E σ H1:=by
 refine ⟨fun i m σ' H'=>m=ds.length - i/\∃ ρ' Hi',Same Hi1 Hi'/\dS X G Hi' H' σ' ρ'/\Fin X G Hi' E (loop g sa (ds.drop i) ρ'),⟨_,rfl,ρ,Hi1,Same.refl _,R1,h1⟩,?_⟩
 rintro i m σ' H' ⟨rfl,ρ',Hi',s',R',h'⟩
 obtain ⟨w1,w2⟩:=gv Hi' H' s' R'.s i
 by_cases hl:i < ds.length
 ·obtain ⟨d,hd⟩:∃ d,ds[i]?=some d:=⟨_,List.getElem?_eq_getElem hl⟩
  obtain ⟨go,yl⟩:=w2 d hd
  have e3:ds.drop i=d::ds.drop (i+1):=by
   rw [List.getElem?_eq_getElem hl] at hd
   cases hd
   exact List.drop_eq_getElem_cons hl
  rw [e3] at h'
  refine .inr ⟨go,fun σ2 H2=>∃ ρ2 Hi2,Same Hi1 Hi2/\dS X G Hi2 H2 σ2 ρ2/\Fin X G Hi2 E (loop g sa (ds.drop (i+1)) ρ2),fun σ2 H2 z=>⟨ds.length - (i+1),by omega,rfl,z⟩,fun x H2 y=>?_⟩
  obtain ⟨Hi2,e2,r2⟩:=yl x H2 y
  have R2:=R'.grow e2
  have h2:Fin X G Hi2 E ((g d ρ').bind fun ρ1=>(sa ρ1).bind fun f=>match f with
   | .nx ρ2=>loop g sa (ds.drop (i+1)) ρ2
   | .ctn ρ2=>loop g sa (ds.drop (i+1)) ρ2
   | .brk ρ2=>.ok (.nx ρ2)
   | .ret r=>.ok (.ret r)):=Fin.mono h' e2.i
  cases z:g d ρ' with
  | no=>rw [z] at h2;exact h2.elim
  | err c=>exact absurd z (hge _ _ _)
  | ok ρ1=>
   rw [z] at h2
   refine ⟨d,ρ',Hi2,r2,R2,ρ1,z,fun σ3 Hi3 H3 s3 R3=>⟨ρ1,Hi3,R3,?_⟩⟩
   have h3:=Fin.mono h2 s3
   have sm:Same Hi1 Hi3:=(s'.trans e2.i).trans s3
   simp only [Res.bind] at h3
   cases zb:sa ρ1 with
   | no=>rw [zb] at h3;exact h3.elim
   | err c=>rw [zb] at h3;exact h3
   | ok fl=>
    rw [zb] at h3
    cases fl with
    | nx ρ2=>exact fun σ4 Hi4 H4 s4 R4=>⟨ρ2,Hi4,sm.trans s4,R4,Fin.mono (show Fin X G Hi3 E (loop g sa (ds.drop (i+1)) ρ2) from h3) s4⟩
    | ctn ρ2=>exact fun σ4 Hi4 H4 s4 R4=>⟨ρ2,Hi4,sm.trans s4,R4,Fin.mono (show Fin X G Hi3 E (loop g sa (ds.drop (i+1)) ρ2) from h3) s4⟩
    | brk ρ2=>exact h3
    | ret r=>cases r<;>exact h3
 ·rw [List.drop_eq_nil_of_le (by omega)] at h'
  exact .inl ⟨w1 (by omega),h' σ' Hi' H' (Same.refl _) R'⟩
theorem oO {tg iter:Expr} {body:List Stmt} {it:Fv} {g:Gv} (hp:PassesOwn (model X.prog X.w) X.A X.env X.xe) (hc:X.calm=true) (hi:PId X G tg iter it) (hg:PGd X G tg g) (hge:∀ d ρ c,g d ρ≠.err c) (hb:bX X G body sa)
  (hs:∀ x,foldedSetIterable iter X.env x=pure x:=by intro _;rfl):PSd X G (.For tg iter body [] pos) (zAh it g sa):=PS.wk (zIW hp hc hi hg hb hs) fun E σ H q=>by
 obtain ⟨ρ,Hi,R,h⟩:=q
 exact ⟨ρ,Hi,R,jR R h fun ds Hi1 H1 _ e1 h1 J gv=>zJp hge (R.grow e1) h1 gv⟩
theorem zFB {c:Expr} {body:List Stmt} (hp:PassesOwn (model X.prog X.w) X.A X.env X.xe) (hc:PTd X G c t) (hb:bX X G body sa):PSd X G (.While c body [] pos) (cZ t sa):=PS.wk (yD hp hc hb) fun E σ H q=>by
 obtain ⟨ρ,Hi,R,h⟩:=q
 have hn:cZ t sa ρ≠.no:=fun z=>by rw [z] at h;exact h
 obtain ⟨n,en⟩:=jL hn
 rw [en] at h
 refine ⟨fun m σ' H'=>∃ ρ' Hi',Same Hi Hi'/\dS X G Hi' H' σ' ρ'/\Fin X G Hi' E (wh t sa m ρ'),⟨n,ρ,Hi,Same.refl _,R,h⟩,?_⟩
 rintro m σ' H' ⟨ρ',Hi',s',R',h'⟩
 cases m with
 | zero=>exact h'.elim
 | succ m=>
  rw [wh] at h'
  refine ⟨ρ',Hi',R',jR R' h' fun c Hi1 H1 _ e1 h1=>?_⟩
  have R1:=R'.grow e1
  cases c with
  | false=>exact h1 σ' Hi1 H1 (Same.refl _) R1
  | true=>
   refine ⟨fun σ2 H2=>∃ ρ2 Hi2,Same Hi Hi2/\dS X G Hi2 H2 σ2 ρ2/\Fin X G Hi2 E (wh t sa m ρ2),fun σ2 H2 z=>⟨m,by omega,z⟩,ρ',Hi1,R1,?_⟩
   have sm:Same Hi Hi1:=s'.trans e1.i
   simp only [if_true] at h1
   cases zb:sa ρ' with
   | no=>rw [zb] at h1;exact h1.elim
   | err c=>rw [zb] at h1;exact h1
   | ok fl=>
    rw [zb] at h1
    cases fl with
    | nx ρ2=>exact fun σ4 Hi4 H4 s4 R4=>⟨ρ2,Hi4,sm.trans s4,R4,Fin.mono (show Fin X G Hi1 E (wh t sa m ρ2) from h1) s4⟩
    | ctn ρ2=>exact fun σ4 Hi4 H4 s4 R4=>⟨ρ2,Hi4,sm.trans s4,R4,Fin.mono (show Fin X G Hi1 E (wh t sa m ρ2) from h1) s4⟩
    | brk ρ2=>exact h1
    | ret r=>cases r<;>exact h1
theorem zAT {K:PySem.W.Frag} {Hi:Hp} {a:Addr} {xs:List V} {ds:List D} (h:SqT K Hi a xs) (hs:IsDs K Hi xs ds):Gives K Hi (Itt K a) ds:=fun Hi1 H1 s1 s2 i=>by
 have h1:=bO (s1.trans s2) h
 refine ⟨fun hl=>⟨xs,h1,by rw [hs.length];exact hl⟩,fun d hd=>?_⟩
 obtain ⟨v,hv,r⟩:=hs.at hd
 refine ⟨⟨xs,v,h1,hv⟩,fun x H2 y=>?_⟩
 obtain ⟨e,y⟩:=y
 subst e
 have:=y xs h1
 rw [hv] at this
 cases this
 exact ⟨Hi1,Ext.refl s2,r.mono s1⟩
theorem zFA {lo c:Int} {n i:Nat} {d:D} (h:(rng lo n c)[i]?=some d):i < n/\d=.int (lo+(i:Int) * c):=by
 unfold rng at h
 rw [List.getElem?_map] at h
 by_cases hl:i < n
 ·rw [List.getElem?_range hl] at h;cases h;exact ⟨hl,rfl⟩
 ·rw [List.getElem?_eq_none (by rw [List.length_range];omega)] at h;cases h
theorem zFq (lo c:Int) (n:Nat):(rng lo n c).length=n:=by unfold rng;rw [List.length_map,List.length_range]
theorem zBD {K:PySem.W.Frag} {Hi:Hp} (lo:Int) (n:Nat):Gives K Hi (Itr lo n) (rng lo n 1):=fun Hi1 H1 s1 s2 i=>by
 refine ⟨fun hl=>by rw [zFq] at hl;exact hl,fun d hd=>?_⟩
 obtain ⟨h1,rfl⟩:=zFA hd
 refine ⟨h1,fun x H2 y=>?_⟩
 obtain ⟨e,y⟩:=y
 subst e y
 rw [Int.mul_one]
 exact ⟨Hi1,Ext.refl s2,.int _⟩
theorem uT {tg:Expr} (hg:Gl X "range") (hm:X.mg "range" = none) (ha:PAd X G [a] fs) (hs:starEach [a] X.env=[(false,eval a X.env)]:=by rfl):PId X G tg (.Call (.Name "range" p) [a] [] pos) (sP fs):=PI.wk (zCq hg hm ha hs) fun σ H Q q=>by
 obtain ⟨ρ,Hi,R,ou⟩:=q
 refine zEs R ou fun vs ds Hi1 H1 e1 R1 r1 o1=>?_
 split at o1
 ·rename_i j
  obtain ⟨v,rfl,h⟩:=r1.one
  by_cases hz:-(2^62)<=j/\j < 2^62
  ·rw [if_pos hz] at o1
   exact ⟨j,by rw [h.intI],hz.1,hz.2,o1.here R1.s _ (zBD 0 j.toNat)⟩
  ·rw [if_neg hz] at o1;exact o1.elim
 ·exact o1.elim
end
end L3
namespace L3
open PySem PySem.Spec PyProof.Rows L2
unseal PEd PEf PTd PWd PAd PSd bX POd PGd dH PId
structure Fn (K:PySem.W.Frag) (mg:Str->Option Value) (x:Str) (st:Stmt) (ps:List Str) (f:Addr) (fd:FuncData):Prop where
 fn:Fun K x x st f fd
 bd:lV K fd ps []
 kp:PySem.W.keepIn K (.ref f)=true
 mg:mg x=some (.ref f)
def XE (X:Cx) (G:Gx):XK:=fun cls _ H=>∃ c,X.mg c=some cls/\G.E c H
def zEE (K:PySem.W.Frag) (mg:Str->Option Value) (P:Addr):Prop:=∃ f oc od fd osl c,mg "ranked" = some (.ref f)/\K.lookup f=some ⟨oc,od,.func fd,osl⟩/\fd.code=.ref c/\∀ h,K.In h->PySem.W.CodeHd h c P
def TB (K:PySem.W.Frag) (mg:Str->Option Value) (Hi H:Hp):Prop:=∀ P,zEE K mg P->pL P H/\Hi P=none
theorem TB.ext {K:PySem.W.Frag} {mg:Str->Option Value} {Hi H Hi' H':Hp} (t:TB K mg Hi H) (e:Ext Hi H Hi' H'):TB K mg Hi' H':=fun P h=>⟨e.h.t P (t P h).1,by
 cases z:Hi' P with
 | none=>rfl
 | some o=>
  obtain ⟨⟨ps,q,_⟩,n⟩:=t P h
  have:=e.n P n (by rw [z];exact fun w=>by cases w)
  rw [q] at this;cases this⟩
structure Good (X:Cx) (G:Gx) (k:Nat):Prop where
 calm:X.calm=true
 room:Room k X.A
 pass:pU (CX1 X.prog X.w) X (XE X G)
 own:PassesOwn (model X.prog X.w) X.A X.env X.xe
 tb:TB X.K X.mg G.Bi G.B
def rW (X:Cx) (G:Gx):Prop:=∀ (pins:List (Addr×Obj)) (σ:St) (H:Hp) (s s':Shared) (ea:Addr) (cls:Value) (vs:List Value),Inv X pins σ H s->Heap.MadeExcOf s.heap s'.heap ea cls vs->s'.os=s.os->AllBare s'.gens->XE X G cls none H->X.xe (.ref ea) s'
def spM (K:PySem.W.Frag) (mg:Str->Option Value) (p:Nat) (m:Mir):Sp:=fun vs H Q E=>vs.length=p/\∃ Bi ds,TB K mg Bi H/\Same Bi H/\IsDs K Bi vs ds/\match m ds with
 | .ok (.v d)=>∀ v Hi' H',Ext Bi H Hi' H'->IsD K Hi' v d->Q v H'
 | .ok (.f es)=>∀ a Hi' H',Ext Bi H Hi' H'->zGV K H Hi' H' a es->Q (.ref a) H'
 | .ok (.w _ d _ _ _ _)=>∀ v Hi' H',Ext Bi H Hi' H'->IsD K Hi' v d->Q v H'
 | .err c=>∀ C,mg c=some C->∀ Hi' H',Ext Bi H Hi' H'->E C none H'
 | .no=>False
structure CanM (P:Program) (w:World) (K:PySem.W.Frag) (mg:Str->Option Value) (base:Heap) (k:Nat) (x:Str) (ps:List Str) (m:Mir):Prop where
 ex:∃ f fd,FnOk P w K mg base (CX1 P w) k f fd ps (spM K mg ps.length m)/\lV K fd ps []/\PySem.W.keepIn K (.ref f)=true/\mg x=some (.ref f)
 ln:∀ ds,m ds≠.no->ds.length=ps.length
theorem Good.u {X:Cx} {G:Gx} {k:Nat} (W:Good X G k):X.A.units+64 < cLine:=W.room.units
theorem CanM.mono {P:Program} {w:World} {K:PySem.W.Frag} {mg:Str->Option Value} {base:Heap} {j k:Nat} {x:Str} {ps:List Str} {m:Mir} (c:CanM P w K mg base j x ps m) (h:j<=k):CanM P w K mg base k x ps m:=by
 obtain ⟨⟨f,fd,F,r⟩,l⟩:=c
 exact ⟨⟨f,fd,F.mono h,r⟩,l⟩
section
variable {X:Cx} {G:Gx} {a b e:Expr} {es:List Expr} {pos p:Pos} {f g:Ev} {fs gs:Fv} {t u:Tv} {x:Str} {st:Stmt} {rest:List Stmt} {sa sb:Sv} {k:Nat} {ps:List Str} {m:Mir}
theorem zIe {ps:List Str} (tb:TB X.K X.mg G.Bi G.B) (ln:∀ ds,m ds≠.no->ds.length=ps.length):∀ σ H Q,tD X G (bF m fs) σ H Q->zFU (spM X.K X.mg ps.length m) [] (XE X G) (tAs X G fs) σ H Q:=fun σ H Q q=>by
 obtain ⟨ρ,Hi,R,ou⟩:=q
 refine zEs R ou fun vs ds Hi1 H1 e1 R1 r1 o1=>?_
 rw [List.append_nil]
 have hm:m ds≠.no:=fun z=>by rw [z] at o1;exact o1
 refine ⟨by rw [r1.length];exact ln ds hm,Hi1,ds,tb.ext R1.ext,R1.s,r1,?_⟩
 cases z:m ds with
 | no=>exact absurd z hm
 | err c=>rw [z] at o1;exact fun C hC Hi2 H2 e2=>⟨c,hC,o1 Hi2 H2 e2⟩
 | ok r=>
  rw [z] at o1
  cases r with
  | v d=>exact fun v Hi2 H2 e2 r2=>o1 Hi2 H2 e2 v r2
  | f ds=>
   intro a Hi2 H2 e2 n
   obtain ⟨n1,n2,xs,n3,n4⟩:=n
   exact o1 _ _ (e2.hold n1 n3 n2) (.ref a) (.lst (SqL.of aE) (n4.mono (aS n2 _)))
  | w a d c lf fs es=>exact fun v Hi2 H2 e2 r2=>o1 Hi2 H2 e2 v r2
theorem aN (W:Good X G k) (c:CanM X.prog X.w X.K X.mg X.base k x ps m) (hg:Gl X x) (ha:PAd X G (e::es) fs)
  (hdb:(x==("__debug__" : Str))=false:=by decide) (he:starEach (e::es) X.env=(false,eval e X.env)::starEach es X.env:=by rfl) (hpl:(backTo pos (starEach es X.env)).any (·.1)=false:=by rfl):
  PEd X G (.Call (.Name x p) (e::es) [] pos) (bF m fs):=by
 obtain ⟨⟨f,fd,F,b,kp,hm⟩,ln⟩:=c
 exact PE.wk (qT F W.room hg hm kp b .nil W.pass ha hdb he hpl) (zIe W.tb ln)
theorem zFH {ps:List Str} (tb:TB X.K X.mg G.Bi G.B) (ln:∀ ds,m ds≠.no->ds.length=ps.length):∀ σ H Q,tF X G (nL m fs) σ H Q->zFU (spM X.K X.mg ps.length m) [] (XE X G) (tAs X G fs) σ H Q:=fun σ H Q q=>by
 obtain ⟨ρ,Hi,R,ou⟩:=q
 refine zEs R ou fun vs ds Hi1 H1 e1 R1 r1 o1=>?_
 rw [List.append_nil]
 have hm:m ds≠.no:=fun z=>by rw [z] at o1;exact o1
 refine ⟨by rw [r1.length];exact ln ds hm,Hi1,ds,tb.ext R1.ext,R1.s,r1,?_⟩
 cases z:m ds with
 | no=>exact absurd z hm
 | err c=>rw [z] at o1;exact fun C hC Hi2 H2 e2=>⟨c,hC,o1 Hi2 H2 e2⟩
 | ok r=>
  rw [z] at o1
  cases r with
  | v d=>exact o1.elim
  | f ds=>exact fun a Hi2 H2 e2 n=>o1 Hi2 H2 e2 a ⟨e1.h.none n.1,n.2⟩
  | w a d c lf fs es=>exact o1.elim
theorem jI (W:Good X G k) (c:CanM X.prog X.w X.K X.mg X.base k x ps m) (hg:Gl X x) (ha:PAd X G (e::es) fs)
  (hdb:(x==("__debug__" : Str))=false:=by decide) (he:starEach (e::es) X.env=(false,eval e X.env)::starEach es X.env:=by rfl) (hpl:(backTo pos (starEach es X.env)).any (·.1)=false:=by rfl):
  PEf X G (.Call (.Name x p) (e::es) [] pos) (nL m fs):=by
 obtain ⟨⟨f,fd,F,b,kp,hm⟩,ln⟩:=c
 exact PE.wk (qT F W.room hg hm kp b .nil W.pass ha hdb he hpl) (zFH W.tb ln)
theorem eR {d:D} (hg:Gl X x) (h:∃ v u',X.mg x=some u'/\cI v u'/\IsD X.K (fun _=>none) v d) (hdb:(x==("__debug__" : Str))=false:=by decide):PEd X G (.Name x pos) (eC d):=by
 obtain ⟨v,u',hm,r,hd⟩:=h
 exact jF (zAY hg hm r hdb) fun H=>hd.mono fun b o z=>by cases z
end
abbrev BX (P:Program) (w:World) (K:PySem.W.Frag) (mg:Str->Option Value) (base:Heap) (N:List Str) (x:Str) (st:Stmt) (f:Addr) (cdv:Value) (A:Around) (outer:List Env) (s:Shared) (H:Hp) (E:XK):Cx:=
 zAb (CX1 P w) P w K mg base N x (aF st) f cdv A outer s H E
theorem tJ {K:PySem.W.Frag} {mg:Str->Option Value} {Bi H:Hp} {N:List Str} {vs:List V} {ds:List D} (s:Same Bi H) (h:IsDs K Bi vs ds):Rel K mg H Bi Bi H (L2.start N vs) (L3.start N.length ds) where
 len:=by
  unfold L2.start L3.start
  rw [List.length_append,List.length_append,List.length_map,List.length_map,List.length_replicate,List.length_replicate,h.length]
 ext:=Ext.refl s
 slot:=fun i sl e=>by
  unfold L3.start at e
  by_cases hi:i < ds.length
  ·rw [List.getElem?_append_left (by rw [List.length_map];exact hi),List.getElem?_map] at e
   obtain ⟨d,hd⟩:∃ d,ds[i]?=some d:=⟨_,List.getElem?_eq_getElem hi⟩
   rw [hd] at e;cases e
   obtain ⟨v,hv,r⟩:=h.at hd
   refine ⟨v,?_,r⟩
   unfold L2.start
   rw [List.getElem?_append_left (by rw [List.length_map,h.length];exact hi),List.getElem?_map,hv]
   rfl
  ·rw [List.getElem?_append_right (by rw [List.length_map];omega),List.getElem?_replicate] at e
   split at e
   ·cases e;trivial
   ·cases e
 dist:=fun i j a es fs e _ _ _=>by
  exfalso
  unfold L3.start at e
  by_cases hi:i < ds.length
  ·rw [List.getElem?_append_left (by rw [List.length_map];exact hi),List.getElem?_map] at e
   cases z:ds[i]? with
   | none=>rw [z] at e;cases e
   | some d=>rw [z] at e;cases e
  ·rw [List.getElem?_append_right (by rw [List.length_map];omega),List.getElem?_replicate] at e
   split at e<;>cases e
section
variable {P:Program} {w:World} {K:PySem.W.Frag} {mg:Str->Option Value} {base:Heap} {N ps:List Str} {x:Str} {st:Stmt} {f:Addr} {fd:FuncData} {k:Nat} {b:Sv}
theorem zCi {cdv:Value} {A:Around} {outer:List Env} {s:Shared} {H Bi:Hp} {E:XK} (hr:Room k (A.deeper (envOfC x (aF st) s.heap.objs.size f cdv))) (tb:TB K mg Bi H):
  Good (BX P w K mg base N x st f cdv A outer s H E) ⟨H,Bi,fun c H'=>∀ C,mg c=some C->E C none H'⟩ k where
 calm:=rfl
 room:=hr
 pass:=zFJ fun c H' q=>by
  obtain ⟨c',h1,h2⟩:=q
  exact h2 c h1
 own:=PassesOwn.leaving
 tb:=tb
theorem yT {cdv:Value} {A:Around} {outer:List Env} {s:Shared} {H Bi:Hp} {E:XK}:
  rW (BX P w K mg base N x st f cdv A outer s H E) ⟨H,Bi,fun c H'=>∀ C,mg c=some C->E C none H'⟩:=fun pins σ H1 s1 s' ea cls vs I hx hos hg q=>by
 obtain ⟨c',h1,h2⟩:=q
 exact nH I hx hos hg (h2 cls h1)
theorem zHp (F:Fn K mg x st ps f fd) (S:FnScope N ps (aF st))
  (h:∀ (cdv:Value) (A:Around) (outer:List Env) (s:Shared) (H:Hp) (E:XK) (G:Gx),Good (BX P w K mg base N x st f cdv A outer s H E) G k->rW (BX P w K mg base N x st f cdv A outer s H E) G->bX (BX P w K mg base N x st f cdv A outer s H E) G (cD st) b):
  FnOk P w K mg base (CX1 P w) (k+1) f fd ps (spM K mg ps.length (fn ps.length N.length b)):=by
 obtain ⟨oc,od,kV,doc,pm,an,cdv,ct,osl,rfl,lk,hcd⟩:=F.fn.ex
 refine zDu lk hcd S (fun vs H Q E h=>h.1) fun A outer s H vs Q E hr hsp=>?_
 obtain ⟨hl,Bi,ds,tb,sm,hd,hq⟩:=hsp
 have hg:=zCi (P:=P) (w:=w) (K:=K) (mg:=mg) (base:=base) (N:=N) (outer:=outer) (H:=H) (Bi:=Bi) (E:=E) hr tb
 refine ⟨_,h cdv A outer s H E _ hg yT,L3.start N.length ds,Bi,tJ sm hd,?_⟩
 have hlen:ds.length=ps.length:=by rw [<-hd.length];exact hl
 unfold fn at hq
 rw [if_pos hlen] at hq
 cases z:b (L3.start N.length ds) with
 | no=>rw [z] at hq;exact hq
 | err c=>rw [z] at hq;exact fun Hi' H' e C hC=>hq C hC Hi' H' e
 | ok fl=>
  rw [z] at hq
  cases fl with
  | nx ρ'=>exact fun σ' Hi' H' s R=>hq .non Hi' H' R.ext .non
  | brk ρ'=>exact hq.elim
  | ctn ρ'=>exact hq.elim
  | ret r=>
   cases r with
   | v d=>exact hq
   | f es=>exact hq
   | w a d c lf fs es=>exact fun v Hi' H' x r _=>hq v Hi' H' x r
theorem lQ (F:Fn K mg x st ps f fd) (S:FnScope N ps (aF st))
  (h:∀ (cdv:Value) (A:Around) (outer:List Env) (s:Shared) (H:Hp) (E:XK) (G:Gx),Good (BX P w K mg base N x st f cdv A outer s H E) G k->rW (BX P w K mg base N x st f cdv A outer s H E) G->bX (BX P w K mg base N x st f cdv A outer s H E) G (cD st) b):
  CanM P w K mg base (k+1) x ps (fn ps.length N.length b):=by
 refine ⟨⟨f,fd,zHp F S h,F.bd,F.kp,F.mg⟩,fun ds hm=>?_⟩
 unfold fn at hm
 split at hm
 ·assumption
 ·exact absurd rfl hm
end
end L3
namespace L3
open PySem PySem.Spec PyProof.Rows L2
unseal PEd PEf PTd PWd PAd PSd bX POd PGd dH PId
section
variable {X:Cx} {G:Gx} {a b e:Expr} {es:List Expr} {pos p:Pos} {f g:Ev} {fs gs:Fv} {t u:Tv} {x:Str} {st:Stmt} {rest:List Stmt} {sa sb:Sv} {k:Nat}
theorem zGE {c:Expr} (ha:PEd X G a f) (hc:PE X c (tC .non)) (hm:behindInMarks .Is c=false):PTd X G (.Compare a [.Is] [c] pos) (cM (zHg f)):=PT.wk (wP zEA ha hc hm) fun σ H Q q=>by
 obtain ⟨ρ,Hi,R,ou⟩:=q
 unfold cM zHg at ou
 cases z:f ρ with
 | no=>rw [z] at ou;exact ou.elim
 | err c=>rw [z] at ou;exact ⟨ρ,Hi,R,by rw [z];exact ou⟩
 | ok d=>
  rw [z] at ou
  refine ⟨ρ,Hi,R,?_⟩
  rw [z]
  intro Hi1 H1 e1 v r
  exact ⟨rfl,_,rfl,by rw [zCx r];exact ou Hi1 H1 e1⟩
def iSq (K:PySem.W.Frag) (tl:TE):TI:=fun σ H R=>tl σ H fun x H1=>∃ a,x=.ref a/\(((∃ xs,SqL K H1 a xs)/\R (Itl K a) H1)∨((∃ xs,SqT K H1 a xs)/\R (Itt K a) H1))
theorem zHJ {tg l:Expr} {tl:TE} (hl:PE X l tl):PI X tg l (iSq X.K tl):=by
 intro pins s σ H R I h
 refine thn (hl pins s σ H _ I h) fun v s1 ⟨x,H1,I1,r1,q1⟩=>?_
 obtain ⟨a,e,q1⟩:=q1
 subst e
 cases r1
 rcases q1 with ⟨⟨xs,hq⟩,q⟩ | ⟨⟨xs,hq⟩,q⟩
 ·obtain ⟨its,rv,p,hz⟩:=I1.list hq
  refine wpAny_pyIter_list p.isList ?_
  refine ⟨s1.heap.objs.size,[s1.heap.objs.size],_,_,H1,rfl,I1.kept (t':=s1.toks) fun b o e=>Heap.get?_push_of_some _ e,zCC a _,⟨_,Heap.get?_push_size _ rfl,rfl,rfl⟩,fun b hb=>?_,q⟩
  have e:b=s1.heap.objs.size:=by simpa using hb
  subst e
  exact I1.fpOk (Nat.le_refl _) (I1.hok.fresh (Nat.le_refl _))
 ·obtain ⟨its,rv,p,hz⟩:=I1.tuple hq
  refine wpAny_pyIter_tuple (show s1.heap.IsTuple a its.toArray from p) ?_
  refine ⟨s1.heap.objs.size,[s1.heap.objs.size],_,_,H1,rfl,I1.kept (t':=s1.toks) fun b o e=>Heap.get?_push_of_some _ e,zI a _,⟨_,Heap.get?_push_size _ rfl,rfl,rfl⟩,fun b hb=>?_,q⟩
  have e:b=s1.heap.objs.size:=by simpa using hb
  subst e
  exact I1.fpOk (Nat.le_refl _) (I1.hok.fresh (Nat.le_refl _))
theorem zAN {K:PySem.W.Frag} {Hi:Hp} {a:Addr} {xs:List V} {ds:List D} (h1:SqL K Hi a xs) (h2:IsDs K Hi xs ds):Gives K Hi (Itl K a) ds:=fun Hi1 H1 s1 s2 i=>by
 have h3:=bU (s1.trans s2) h1
 refine ⟨fun hl=>⟨xs,h3,by rw [h2.length];exact hl⟩,fun d hd=>?_⟩
 obtain ⟨v,hv,r⟩:=h2.at hd
 refine ⟨⟨xs,v,h3,hv⟩,fun x H2 y=>?_⟩
 obtain ⟨e,y⟩:=y
 subst e
 have:=y xs h3
 rw [hv] at this
 cases this
 exact ⟨Hi1,Ext.refl s2,r.mono s1⟩
theorem zD {tg:Expr} (h:PEd X G e f):PId X G tg e (zDJ f):=PI.wk (zHJ h) fun σ H Q q=>by
 obtain ⟨ρ,Hi,R,ou⟩:=q
 refine lZ R ou fun v d Hi1 H1 e1 R1 r1 o1=>?_
 cases d with
 | lst ds=>
  obtain ⟨a,xs,rfl,h1,h2⟩:=r1.lstI
  exact ⟨a,rfl,.inl ⟨⟨xs,bU R1.s h1⟩,o1.here R1.s _ (zAN h1 h2)⟩⟩
 | tup ds=>
  obtain ⟨a,xs,rfl,h1,h2⟩:=r1.tupI
  exact ⟨a,rfl,.inr ⟨⟨xs,bO R1.s h1⟩,o1.here R1.s _ (zAT h1 h2)⟩⟩
 | _=>exact o1.elim
theorem dD {i:Nat}:∀ d ρ c,gName i d ρ≠.err c:=fun d ρ c z=>by cases z
theorem zFu:∀ d ρ c,zDc d ρ≠.err c:=fun d ρ c z=>by cases d<;>cases z
theorem wY {g:Gv} {r:List D->Rho->Res Rho} (h1:∀ d ρ c,g d ρ≠.err c) (h2:∀ d ρ c,r d ρ≠.err c):∀ d ρ c,kG g r d ρ≠.err c:=fun d ρ c z=>by
 cases d with
 | nil=>cases z
 | cons d ds=>
  have z':(g d ρ).bind (fun ρ'=>r ds ρ')=.err c:=z
  cases q:g d ρ with
  | no=>rw [q] at z';cases z'
  | err c'=>exact h1 _ _ _ q
  | ok ρ'=>rw [q] at z';exact h2 _ _ _ z'
theorem zGq {r:List D->Rho->Res Rho} (h:∀ d ρ c,r d ρ≠.err c):∀ d ρ c,zDf r d ρ≠.err c:=fun d ρ c z=>by
 cases d<;>first | cases z | exact h _ _ _ z
theorem zIS:∀ (ds:List D) (ρ ρ':Rho),zDc ds ρ=.ok ρ'->ds.length=0:=fun ds ρ ρ' z=>by
 cases ds with
 | nil=>rfl
 | cons d ds=>cases z
theorem zAC {g:Gv} {r:List D->Rho->Res Rho} {n:Nat} (h:∀ (ds:List D) (ρ ρ':Rho),r ds ρ=.ok ρ'->ds.length=n):∀ (ds:List D) (ρ ρ':Rho),kG g r ds ρ=.ok ρ'->ds.length=n+1:=fun ds ρ ρ' z=>by
 cases ds with
 | nil=>cases z
 | cons d ds=>
  have z':(g d ρ).bind (fun ρ'=>r ds ρ')=.ok ρ':=z
  cases q:g d ρ with
  | no=>rw [q] at z';cases z'
  | err c'=>rw [q] at z';cases z'
  | ok ρ1=>rw [q] at z';rw [List.length_cons,h ds ρ1 ρ' z']
end
end L3
namespace L3
open PySem PySem.Spec PyProof.Rows L2
unseal PEd PEf PTd PWd PAd PSd bX POd PGd dH PId
def spL (K:PySem.W.Frag):Sp:=fun vs H Q _=>∃ (a:Addr) (ns:List Int),vs=[.ref a]/\SqL K H a (ns.map V.int)/\ns.length<=63/\∀ H',Q (.bl true) H'
theorem sY {K:PySem.W.Frag} {H:Hp}:∀ ns:List Int,IsDs K H (ns.map V.int) (ns.map D.int)
 | []=>.nil
 | n::ns=>.cons (.int n) (sY ns)
theorem zHF {P:Program} {w:World} {K:PySem.W.Frag} {mg:Str->Option Value} {base:Heap} {k:Nat} {m:Mir} {f:Addr} {fd:FuncData} (h0:∀ P,¬ zEE K mg P) (F:FnOk P w K mg base (CX1 P w) k f fd ["script"] (spM K mg 1 m))
  (h:∀ ns:List Int,ns.length<=63->m [.lst (ns.map D.int)]=.ok (.v (.bl true))):FnOk P w K mg base (CX1 P w) k f fd ["script"] (spL K):=by
 refine F.imp fun vs H Q E q=>?_
 obtain ⟨a,ns,rfl,hS,hl,q⟩:=q
 refine ⟨rfl,H,[.lst (ns.map D.int)],fun P z=>absurd z (h0 P),Same.refl _,.cons (.lst hS (sY ns)) .nil,?_⟩
 rw [h ns hl]
 intro v Hi' H' e r
 rw [r.blI]
 exact q H'
theorem zLS {l:PySem.W.OpenLaw} {k:Nat} {q:Program} {loose:List Str} {XP:(Str->Option Value)->Heap->Prop} {YP:World->Heap->Prop} {d:DefRec} {K:Params->PySem.W.Frag} (hn:l.most=some 63) (hdf:d.params.defaults=[]) (hr:Room k callerA)
  (hY:∀ (w:World) (h:Heap),YP w h->(K w.params).In h)
  (F:∀ (w:World) (mg:Str->Option Value) (fa:Addr) (h:Heap),(K w.params).In h->h.Ns mainGlobals mg->mg d.name=some (.ref fa)->
   ∃ fd:FuncData,(∀ (s:Shared) (u:Value),BindsTo s fd ⟨[u],[]⟩ [("script", u)])/\∀ base:Heap,(K w.params).In base->base.Ns mainGlobals mg->FnOk l.prog w (K w.params) mg base (CX1 l.prog w) k fa fd ["script"] (spL (K w.params))):
  PySem.W.WalkO q loose XP YP l.row.toRowW d [] (fun f vs=>PySem.call f vs):=
 L2.zGR (n:=63) (k:=k) (x := "script") (CX:=fun w=>CX1 l.prog w) (sp:=fun w=>spL (K w.params)) hn (by decide) hdf hr hY F (fun _ _ a ns hl _ hS=>⟨a,ns,rfl,hS,hl,fun _=>rfl⟩) fun _ _ _ _ _ z=>by
  obtain ⟨_,_,_,_,_,z⟩:=z
  exact z
end L3
namespace L3
open PySem PySem.Spec PyProof.Rows L2
unseal PEd PEf PTd PWd PAd PSd bX POd PGd dH PId
section
variable {X:Cx} {G:Gx} {e:Expr} {es:List Expr} {pos np cpos:Pos} {fs:Fv} {k:Nat} {c:Str}
theorem gR (W:Good X G k) (WR:rW X G) (hR:∃ C,Err X.K X.mg c C) (hg:Gl X c) (ha:PAd X G (e::es) fs)
  (he:starEach (e::es) X.env=(false,eval e X.env)::starEach es X.env:=by rfl) (hplain:(backTo cpos (starEach es X.env)).any (·.1)=false:=by rfl) (hd:(c==("__debug__" : Str))=false:=by decide):
  PSd X G (.Raise (some (.Call (.Name c np) (e::es) [] cpos)) none pos) (iG c fs):=by
 intro pins s σ H E I q
 obtain ⟨ρ,Hi,R,h⟩:=q
 obtain ⟨C,Er⟩:=hR
 obtain ⟨bmB,newId,B,initId,O,FB⟩:=Er.own X.base I.mod.kin
 obtain ⟨tl,N,nm,q,bs,hdct,sn,sub,ab,col,dd,k0,k1,k2,k3,k5,mN,hC,hN,hni,T⟩:=O.obj
 have hA:=ha cpos pins s σ H (fun vs H1=>vs.length<=sizeLine/\XE X G (.ref C) none H1) I ⟨ρ,Hi,R,jR R h fun ds Hi' H' _ e1 h' vs r=>by
  have h':Fin X G Hi' E (if ds.length<=16777216 then (.err c:Res Fl) else .no):=h'
  by_cases hz:ds.length<=16777216
  ·rw [if_pos hz] at h'
   exact ⟨by rw [r.length];exact hz,c,O.bound,h' Hi' H' (R.ext.trans e1)⟩
  ·rw [if_neg hz] at h';exact h'.elim⟩
 refine wpAny_Raise_call_subT (C:=C) (nm:=nm) (q:=q) (N:=N) (bs:=bs) (bm:=tl) (hdct:=hdct) (sn:=sn) (sub:=sub) (ab:=ab) (col:=col) (dd:=dd) (k0:=k0) (k1:=k1) (k2:=k2) (k3:=k3) (k5:=k5)
  FB (mN:=mN) (T.hasType FB.hasBase) (I.ok.hd W.calm) (by rw [he];show (false || (backTo cpos (starEach es X.env)).any (·.1))=false;rw [hplain];rfl) hni (sE I hg O.bound ⟨rfl,?_⟩ hd)
 rw [he] at hA ⊢
 refine Calls.evalArgs_plain (wpAny_mono hA (fun us s₂ h₂=>?_) fun _ _ y=>y)
 obtain ⟨vs,H2,I2,rv,hz,hx⟩:=h₂
 exact ⟨rfl,by show us.length<=sizeLine;rw [<-rv.length];exact hz,I2.bk _ _ hC,hN.keeps I2.bk,T.keeps I2.bk,fun h' ea hm=>WR pins σ H2 s₂ { s₂ with heap:=h' } ea (.ref C) us I2 hm rfl I2.bare hx⟩
end
end L3
namespace L3
open PySem PySem.Spec PyProof.Rows L2 PySem.W Builtin Builtin.ObjectAttr Builtin.Getset_descriptor
unseal PEd PEf PTd PWd PAd PSd bX POd PGd dH PId
section
variable {prog:Program} {w:World} {A:Around} {E:Value->Shared->Prop} {s:Shared} {K:Frag} {x D:Addr} {ox:Obj}
end
end L3
namespace L3
open PySem PySem.Spec PyProof.Rows L2 PySem.W
unseal PEd PEf PTd PWd PAd PSd bX POd PGd dH PId
section
variable {prog:Program} {w:World} {A:Around} {E:Value->Shared->Prop} {s:Shared} {K:Frag} {x C CE:Addr} {ox:Obj}
end
end L3
namespace L3
open PySem PySem.Spec PyProof.Rows L2 PySem.W
unseal PEd PEf PTd PWd PAd PSd bX POd PGd dH PId
section
variable {X:Cx} {pins:List (Addr×Obj)} {σ:St} {H H':Hp} {s s':Shared} {ea:Addr} {cls:Value}
end
end L3
namespace L3
open PySem PySem.Spec PyProof.Rows L2 PySem.W
unseal PEd PEf PTd PWd PAd PSd bX POd PGd dH PId
section
variable {X:Cx} {G:Gx} {a e:Expr} {es:List Expr} {pos p:Pos} {fs:Fv} {t:Tv} {x:Str} {k:Nat} {ps:List Str} {m:Mir} {st:Stmt} {sts:List Stmt} {sa sb:Sv}
def G0 (G:Gx):Gx:={ G with E:=fun _ _=>False }
def zKh (X:Cx) (pins:List (Addr×Obj)) (σ:St) (Hi H:Hp) (c:Str) (ev:Value) (s':Shared):Prop:=
 ∃ (s1:Shared) (H1:Hp) (ea:Addr) (cls:Value) (Hi' H':Hp),ev=.ref ea/\Inv X pins σ H1 s1/\X.mg c=some cls/\Fly X.prog X.w X.stack H1 H' s1 ea cls s'/\Ext Hi H Hi' H'/\Keep H H1
def zKU (X:Cx) (G:Gx) (Hi:Hp) (E:Ends) (r:Res Fl):Prop:=match r with
 | .err _=>True
 | r=>Fin X G Hi E r
@[irreducible] def PSx (X:Cx) (G:Gx) (st:Stmt) (f:Sv):Prop:=∀ (pins:List (Addr×Obj)) (s:Shared) (σ:St) (H:Hp) (E:Ends) (ρ:Rho) (Hi:Hp) (Et:Value->Shared->Prop),
 Inv X pins σ H s->dS X G Hi H σ ρ->f ρ≠.no->zKU X G Hi E (f ρ)->(∀ c ev s',f ρ=.err c->zKh X pins σ Hi H c ev s'->Et ev s')->wpAny (model X.prog X.w) X.A (exec st X.env) (SP X pins E) Et s
unseal PSx
@[irreducible] def eY (X:Cx) (G:Gx) (sts:List Stmt) (f:Sv):Prop:=∀ (pins:List (Addr×Obj)) (s:Shared) (σ:St) (H:Hp) (E:Ends) (ρ:Rho) (Hi:Hp) (Et:Value->Shared->Prop),
 Inv X pins σ H s->dS X G Hi H σ ρ->f ρ≠.no->zKU X G Hi E (f ρ)->(∀ c ev s',f ρ=.err c->zKh X pins σ Hi H c ev s'->Et ev s')->wpAny (model X.prog X.w) X.A (execs sts X.env) (SP X pins E) Et s
unseal eY
end
end L3
namespace L3
open PySem PySem.Spec PyProof.Rows L2 PySem.W
unseal PEd PEf PTd PWd PAd PSd bX POd PGd dH PId PSx eY
section
variable {X:Cx} {G:Gx} {k:Nat} {fb fh:Sv} {body suite:List Stmt} {b₀:Stmt} {ce n:Str} {np hpos pos:Pos} {i:Nat} {tb:List Str}
end
end L3
namespace L3
open PySem PySem.Spec PyProof.Rows L2 PySem.W
unseal PEd PEf PTd PWd PAd PSd bX POd PGd dH PId PSx eY
section
variable {X:Cx} {G:Gx} {a:Expr} {p q pos:Pos} {i:Nat} {anc:List (Str×List Str)} {xs:List Str} {x:Str}
end
end L3
namespace L3
open PySem PySem.Spec PyProof.Rows L2 PySem.W
unseal PEd PEf PTd PWd PAd PSd bX POd PGd dH PId PSx eY
theorem lL {α β:Type} [BEq α] [LawfulBEq α] {a:α} {b:β}:∀ {l:List (α×β)},l.lookup a=some b->(a,b)∈l
 | [],h=>by cases h
 | (x,y)::l,h=>by
  rw [List.lookup_cons] at h
  split at h
  ·rename_i e
   cases h
   rw [beq_iff_eq.mp e]
   exact List.mem_cons_self
  ·exact List.mem_cons_of_mem _ (lL h)
section
variable {K:Frag} {h:Heap} {mg:Str->Option Value} {x c ce:Str} {C CE:Addr}
theorem qF {newId:String} {bmB:List Value} {B initId:String} (X:K.In h) (G:h.Ns mainGlobals mg) (e:nsIn K mainGlobals x=some (some (.ref C))) (q:excIn K C bmB newId=true) (F:ExcBaseFacts B newId initId bmB):∃ C,Err K mg x C:=by
 refine ⟨C,⟨fun h' X'=>⟨bmB,newId,B,initId,⟨mg_of X G e,?_⟩,F⟩⟩⟩
 unfold excIn at q
 split at q
 ·rename_i dd cd sl ho
  split at q
  ·rename_i C' bm k0 k1 k2 k3 n k5 hm hs
   simp only [Bool.and_eq_true,beq_iff_eq,Bool.not_eq_true'] at q
   obtain ⟨⟨⟨⟨⟨rfl,rfl⟩,iZ⟩,ht⟩,hok⟩,hni⟩:=q
   obtain ⟨nm,bs,mro,ns,qn,hd,sn,sub,ab,col,del⟩:=cd
   dsimp only at hm iZ hok hni
   subst hm iZ
   have hsl:sl=#[k0,k1,k2,k3,some (.builtin n),k5]:=by
    obtain ⟨l⟩:=sl
    simp only at hs
    rw [hs]
   subst hsl
   exact ⟨bm,ns,nm,qn,bs,hd,sn,sub,ab,col,dd,k0,k1,k2,k3,k5,_,X' _ _ ho,.of_isNs (isNs_of_in X' hok),nsMap_none_of_in X' hok hni,tail_of_in X' ht⟩
  ·cases q
 ·cases q
end
end L3
namespace L3
open PySem PySem.Spec PyProof.Rows L2
unseal PEd PEf PTd PWd PAd PSd bX POd PGd dH PId PSx eY
def wA (env:Env):List (Str×NameKind)->List (Str×Addr)->List (Str×Addr)
 | [],cs=>cs
 | (n,k)::r,cs=>wA env r (if k==.free then (n,(env.cells.lookup n).getD 0)::cs else cs)
theorem zER {env:Env}:∀ (l:List (Str×NameKind)) (cs:List (Str×Addr)),(∀ p∈l,p.2=.free->∃ c,env.cells.lookup p.1=some c)->
  (forIn l cs (fun p (r:List (Str×Addr))=>if (p.2==NameKind.free)=true then (do let a <-cellOf env p.1;pure (ForInStep.yield ((p.1,a)::r))) else pure (ForInStep.yield r)):Sem (List (Str×Addr)))=pure (wA env l cs)
 | [],cs,_=>by simp [wA]
 | (n,k)::r,cs,h=>by
  rw [List.forIn_cons,wA]
  have ih:=fun cs=>zER r cs fun p hp=>h p (List.mem_cons_of_mem _ hp)
  by_cases e:(k==NameKind.free)=true
  ·obtain ⟨c,hc⟩:=h (n,k) List.mem_cons_self (beq_iff_eq.mp e)
   simp only [e,if_true,cellOf,hc,pure_bind,Option.getD_some]
   exact ih _
  ·simp only [e,Bool.false_eq_true,if_false,pure_bind]
   exact ih _
theorem zEw {env:Env} {scope:Scope} (h:∀ p∈scope.names,p.2=.free->∃ c,env.cells.lookup p.1=some c):closureFor scope env=pure (wA env scope.names []):=by
 have:=zER scope.names [] h
 unfold closureFor
 rw [<-this]
 simp
theorem oI {env:Env}:∀ (l:List (Str×NameKind)) (cs:List (Str×Addr)),(∀ p∈l,p.2=.free->∃ c,env.cells.lookup p.1=some c)->(∀ y c,cs.lookup y=some c->env.cells.lookup y=some c)->
  ∀ y c,(wA env l cs).lookup y=some c->env.cells.lookup y=some c
 | [],cs,_,h,y,c,e=>h y c e
 | (n,k)::r,cs,hl,h,y,c,e=>by
  rw [wA] at e
  refine oI r _ (fun p hp=>hl p (List.mem_cons_of_mem _ hp)) (fun y c e=>?_) y c e
  by_cases z:(k==NameKind.free)=true
  ·obtain ⟨c',hc⟩:=hl (n,k) List.mem_cons_self (beq_iff_eq.mp z)
   simp only [z,if_true,List.lookup_cons,hc,Option.getD_some] at e
   cases w:y==n with
   | true=>rw [w] at e;cases e;rw [beq_iff_eq.mp w];exact hc
   | false=>rw [w] at e;exact h y c e
  ·simp only [z,Bool.false_eq_true,if_false] at e
   exact h y c e
theorem wZ {env:Env}:∀ (l:List (Str×NameKind)) (cs:List (Str×Addr)) (y:Str),(∃ c,cs.lookup y=some c)->∃ c,(wA env l cs).lookup y=some c
 | [],cs,y,h=>h
 | (n,k)::r,cs,y,⟨c,h⟩=>by
  rw [wA]
  refine wZ r _ y ?_
  split
  ·rw [List.lookup_cons]
   cases y==n with
   | true=>exact ⟨_,rfl⟩
   | false=>exact ⟨c,h⟩
  ·exact ⟨c,h⟩
theorem nJ {env:Env}:∀ (l:List (Str×NameKind)) (cs:List (Str×Addr)) (y:Str),(y,NameKind.free)∈l->∃ c,(wA env l cs).lookup y=some c
 | (n,k)::r,cs,y,h=>by
  rw [wA]
  rcases List.mem_cons.mp h with e | h
  ·cases e
   refine wZ r _ _ ⟨(env.cells.lookup n).getD 0,?_⟩
   simp only [beq_self_eq_true,if_true,List.lookup_cons]
  ·exact nJ r _ y h
theorem bE {α:Type}:∀ {l:List (Str×α)} {y:Str} {k:α},l.lookup y=some k->(y,k)∈l
 | (n,k')::r,y,k,h=>by
  rw [List.lookup_cons] at h
  cases z:y==n with
  | true=>rw [z] at h;cases h;rw [beq_iff_eq.mp z];exact List.mem_cons_self
  | false=>rw [z] at h;exact List.mem_cons_of_mem _ (bE h)
theorem bQ {env:Env}:∀ {l:List (Str×NameKind)} {y:Str} {k:NameKind},
  (l.map fun (n,k)=>if (k==NameKind.free && env.scope.kind==.function && env.kindOf n==some .cell) then (n,NameKind.cell) else (n,k)).lookup y=some k->
  l.lookup y=some k∨(k=.cell/\l.lookup y=some .free)
 | (n,k')::r,y,k,h=>by
  rw [List.map_cons] at h
  rw [List.lookup_cons]
  by_cases c:(k'==NameKind.free && env.scope.kind==.function && env.kindOf n==some .cell)=true
  ·simp only [c,if_true,List.lookup_cons] at h
   cases z:y==n with
   | true=>
    rw [z] at h
    cases h
    refine .inr ⟨rfl,?_⟩
    simp only [Bool.and_eq_true] at c
    rw [beq_iff_eq.mp c.1.1]
   | false=>rw [z] at h;exact bQ h
  ·simp only [c,Bool.false_eq_true,if_false,List.lookup_cons] at h
   cases z:y==n with
   | true=>rw [z] at h;exact .inl h
   | false=>rw [z] at h;exact bQ h
def msk (x y:Str):Str:=if y=x then ("" : Str) else y
structure BlkOk (X:Cx) (x:Str) (scope:Scope):Prop where
 kind:scope.kind=.function
 cell:∀ y∈scope.names,y.2≠.cell
 loc:scope.names.lookup x=some .local
 names:∀ y∈scope.names,y.2=.local->scope.names.lookup y.1=some .local
 fre:∀ p∈scope.names,p.2=.free->X.env.kindOf p.1=some .cell∨X.env.kindOf p.1=some .free
 oth:∀ y∈X.N,y≠x->scope.names.lookup y≠some .local
 emp:scope.names.lookup ("" : Str)=none
def cxC (X:Cx) (x:Str) (scope:Scope) (C:Addr) (s₂:Shared) (H₂:Hp) (fp:List Addr):Cx:=
  { prog:=X.prog,w:=X.w,K:=X.K,mg:=X.mg,base:=X.base,A:=X.A,N:=X.N.map (msk x)++[x],s₀:=s₂,H₀:=H₂,env:=compEnvC scope (wA X.env scope.names []) C X.env,outer:=X.stack,stack:=X.stack,
    ex:=fp,fn:=fun _=>false,calm:=X.calm,pn:=X.pn,xe:=fun _ _=>False }
section
variable {X:Cx} {pins:List (Addr×Obj)} {σ:St} {H:Hp} {s₂:Shared} {x:Str} {scope:Scope} {fp:List Addr} {D C:Addr} {h₁:Heap}
theorem BlkOk.cl (B:BlkOk X x scope) (I:Inv X pins σ H s₂):∀ p∈scope.names,p.2=.free->∃ c,X.env.cells.lookup p.1=some c:=fun p hp e=>I.ok.has p.1 (B.fre p hp e)
theorem zJU (I:Inv X pins σ H s₂) (B:BlkOk X x scope) (hfp:∀ b∈fp,vX X pins H b) (hfl:∀ b∈fp,b < s₂.heap.objs.size) (hD:s₂.heap.objs.size<=D) (hC:s₂.heap.objs.size<=C) (hDC:D≠C)
  (old:∀ b o,s₂.heap.get? b=some o->h₁.get? b=some o) {n:Nat} (hacc:h₁.get? D=some { cls:=.type "list", data:=.seq ([]:List Value).toArray n }) {m:Str->Option Value} (hns:h₁.Ns C m) (t:Nat):
  Inv (cxC X x scope C s₂ H fp) pins (σ++[none]) (upd H D (.lst [])) { s₂ with heap:=h₁,toks:=t }:=by
 have sub:=oI scope.names [] (B.cl I) (fun y c e=>nomatch e)
 have old_lt:∀ {b:Addr} {o:Obj},s₂.heap.get? b=some o->b≠D/\b≠C:=fun e=>⟨Nat.ne_of_lt (Nat.lt_of_lt_of_le (Heap.lt_size e) hD),Nat.ne_of_lt (Nat.lt_of_lt_of_le (Heap.lt_size e) hC)⟩
 have free:∀ {b:Addr},b≠D->H b=none->upd H D (.lst []) b=none:=fun n e=>by rw [aG n];exact e
 refine ⟨⟨I.ok.mod,B.kind,I.ok.glob,I.ok.blt,hC,fun y z c e1 e2=>I.ok.inj y z c (sub y c e1) (sub z c e2),fun y hy=>?_,fun y c e=>(nomatch e),I.ok.hd,I.ok.frames,.inl rfl,fun b hb=>⟨Nat.ne_of_lt (Nat.lt_of_lt_of_le (hfl b hb) hC),fun y c e=>(hfp b hb).2.2.2.2.1 y c (sub y c e)⟩,
  I.bs,Nat.le_trans I.ok.bsz I.sz,fun b o e hb=>?_,fun b hb z=>?_,I.stack,I.stkFree⟩,rfl,I.bare,Un.laid old hD (I.hok.fresh hD),⟨m,hns,fun i y v e1 e2 e3=>?_⟩,fun y c e=>?_,free (Ne.symm hDC) (I.hok.fresh hC),fun y c e=>?_,fun p hp=>?_,I.hok.laid old hD ⟨Nat.zero_le _,[],n,.nil,hacc⟩,?_⟩
 ·have:∃ k,(k=NameKind.cell∨k=NameKind.free)/\((relabel scope X.env).names).lookup y=some k:=hy.elim (fun h=>⟨_,.inl rfl,h⟩) fun h=>⟨_,.inr rfl,h⟩
  obtain ⟨k,hk,e⟩:=this
  have e':(y,NameKind.free)∈scope.names:=by
   rcases bQ e with z | ⟨_,z⟩
   ·rcases hk with rfl | rfl
    ·exact absurd rfl (B.cell _ (bE z))
    ·exact bE z
   ·exact bE z
  exact nJ scope.names [] y e'
 ·rcases (hfp b hb).2.2.2.1 with z | z
  ·exact I.ok.noex b o e z
  ·exact absurd (Nat.lt_of_lt_of_le (Heap.lt_size e) (Nat.le_trans I.ok.bsz z)) (Nat.lt_irrefl _)
 ·rcases List.mem_cons.mp (I.stkSub b z) with w | w
  ·exact (hfp b hb).2.1 w
  ·exact (hfp b hb).2.2.1 w
 ·
  have hi:i < σ.length:=by
   by_cases hi:i < σ.length
   ·exact hi
   ·exfalso
    rw [List.getElem?_append_right (by omega)] at e2
    cases q:i - σ.length with
    | zero=>rw [q] at e2;cases e2
    | succ j=>rw [q] at e2;cases e2
  rw [List.getElem?_append_left hi] at e2
  have e1':(X.N.map (msk x)++[x])[i]?=some y:=e1
  rw [List.getElem?_append_left (by rw [List.length_map,<-I.len];exact hi),List.getElem?_map] at e1'
  cases q:X.N[i]? with
  | none=>rw [q] at e1';cases e1'
  | some z=>
   rw [q] at e1'
   have e1'':msk x z=y:=Option.some.inj e1'
   have hz:z∈X.N:=List.mem_of_getElem? q
   have vis:∃ k,((relabel scope X.env).names).lookup y=some k:=e3.elim (fun h=>⟨_,h⟩) fun h=>h.elim (fun h=>⟨_,h⟩) fun h=>⟨_,h⟩
   have hzx:z≠x:=fun w=>by
    obtain ⟨k,hk⟩:=vis
    have:y=("" : Str):=by rw [<-e1'',w];exact if_pos rfl
    rw [this] at hk
    rcases bQ hk with h | ⟨_,h⟩<;>(rw [B.emp] at h;cases h)
   have hy:z=y:=by rw [<-e1''];exact (if_neg hzx).symm
   subst hy
   have fr:(z,NameKind.free)∈scope.names:=by
    rcases e3 with h | h | h
    ·rcases bQ h with h | ⟨h,_⟩
     ·exact absurd h (B.oth z hz hzx)
     ·cases h
    ·rcases bQ h with h | ⟨_,h⟩
     ·exact absurd rfl (B.cell _ (bE h))
     ·exact bE h
    ·rcases bQ h with h | ⟨h,_⟩
     ·exact bE h
     ·cases h
   have kd:=B.fre _ fr rfl
   obtain ⟨m0,hn0,hl⟩:=I.loc
   obtain ⟨u,ru,lk⟩:=hl i z v q e2 (kd.elim (fun h=>.inr (.inl h)) fun h=>.inr (.inr h))
   refine ⟨u,ru,.inr ⟨?_,?_⟩⟩
   ·rcases e3 with h | h | h
    ·rcases bQ h with h | ⟨h,_⟩
     ·exact absurd h (B.oth z hz hzx)
     ·cases h
    ·exact .inl h
    ·exact .inr h
   ·rcases lk with ⟨k1,_⟩ | ⟨_,c,hc,hcell⟩
    ·rcases kd with kd | kd<;>(rw [kd] at k1;cases k1)
    ·obtain ⟨c',hc'⟩:=nJ (env:=X.env) scope.names [] z fr
     have:=sub z c' hc'
     rw [hc] at this
     cases this
     obtain ⟨o,ho,hd⟩:=hcell
     exact ⟨c,hc',o,old _ _ ho,hd⟩
 ·obtain ⟨v,o,ho,hd⟩:=I.cell y c (sub y c e)
  exact ⟨v,o,old _ _ ho,hd⟩
 ·obtain ⟨v,o,ho,hd⟩:=I.cell y c (sub y c e)
  exact free (old_lt ho).1 (I.freeC y c (sub y c e))
 ·obtain ⟨e,n,ne,nf,d⟩:=I.pin p hp
  refine ⟨old _ _ e,free (old_lt e).1 n,(old_lt e).2,fun z=>?_,d⟩
  rcases List.mem_cons.mp (I.stkSub _ z) with w | w
  ·exact ne w
  ·exact nf w
 ·show (σ++[none]).length=(X.N.map (msk x)++[x]).length
  rw [List.length_append,List.length_append,List.length_map,I.len];rfl
end
end L3
namespace L3
open PySem PySem.Spec PyProof.Rows L2
unseal PEd PEf PTd PWd PAd PSd bX POd PGd dH PId PSx eY
section
variable {K:PySem.W.Frag} {mg:Str->Option Value} {B Bi Hi H Hi' H':Hp} {σ:St} {ρ:Rho}
theorem Rel.snoc {v:V} {d:D} (R:Rel K mg B Bi Hi H σ ρ) (h:IsD K Hi v d):Rel K mg B Bi Hi H (σ++[some v]) (ρ++[.val d]) where
 len:=by rw [List.length_append,List.length_append,R.len];rfl
 ext:=R.ext
 slot:=fun j s q=>by
  by_cases hl:j < ρ.length
  ·rw [List.getElem?_append_left hl] at q
   rw [List.getElem?_append_left (by rw [R.len];exact hl)]
   exact R.slot j s q
  ·rw [List.getElem?_append_right (by omega)] at q
   rw [List.getElem?_append_right (by rw [R.len];omega),R.len]
   cases z:j - ρ.length with
   | zero=>rw [z] at q;cases q;exact ⟨v,rfl,h⟩
   | succ n=>rw [z] at q;cases q
 dist:=fun j k a ds es q1 q2 q3 q4=>by
  have own:∀ {j:Nat} {ds:List D},(ρ++[Sl.val d])[j]?=some (.own ds)->j < ρ.length:=fun {j ds} q=>by
   by_cases hl:j < ρ.length
   ·exact hl
   ·rw [List.getElem?_append_right (by omega)] at q
    cases z:j - ρ.length with
    | zero=>rw [z] at q;cases q
    | succ n=>rw [z] at q;cases q
  have h1:=own q1
  have h2:=own q2
  rw [List.getElem?_append_left h1] at q1
  rw [List.getElem?_append_left h2] at q2
  rw [List.getElem?_append_left (by rw [R.len];exact h1)] at q3
  rw [List.getElem?_append_left (by rw [R.len];exact h2)] at q4
  exact R.dist j k a ds es q1 q2 q3 q4
theorem Ext.rewrite {a:Addr} {o:HO} (e:Ext Hi H Hi' H') (hn:H a=none) (hi:Hi' a=none) (hl:∃ xs,H' a=some (.lst xs)):Ext Hi H Hi' (upd H' a o) where
 i:=e.i
 h:=⟨fun b u z=>by rw [aG (aZ z hn)];exact e.h.k _ _ z,fun P z=>by
  obtain ⟨xs,hl⟩:=hl
  exact (e.h.t P z).put (fun ps y=>by rw [hl] at y;cases y) (fun ob u y=>by rw [hl] at y;cases y)⟩
 s:=fun b u z=>by rw [aG (aZ z hi)];exact e.s _ _ z
 n:=e.n
theorem IsDs.snoc {v:V} {d:D} (h:IsD K H v d):∀ {vs:List V} {ds:List D},IsDs K H vs ds->IsDs K H (vs++[v]) (ds++[d])
 | _,_,.nil=>.cons h .nil
 | _,_,.cons r t=>.cons r (IsDs.snoc h t)
end
theorem rL {α:Type} {r:Res α} {a:α} (h:noErr r=.ok a):r=.ok a:=by
 cases r with
 | ok b=>exact h
 | err c=>cases h
 | no=>cases h
theorem zR {t:Tv} {f:Ev} {ρ:Rho} {d:D} {ds es:List D} (h:fN t f ρ (d::ds)=.ok es):
  (t (ρ++[.val d])=.ok false/\fN t f ρ ds=.ok es)∨(t (ρ++[.val d])=.ok true/\∃ e es',f (ρ++[.val d])=.ok e/\fN t f ρ ds=.ok es'/\es=e::es'):=by
 rw [fN] at h
 cases ht:noErr (t (ρ++[.val d])) with
 | no=>rw [ht] at h;cases h
 | err c=>rw [ht] at h;cases h
 | ok c=>
  rw [ht] at h
  have ht':=rL ht
  cases c with
  | false=>exact .inl ⟨ht',h⟩
  | true=>
   refine .inr ⟨ht',?_⟩
   have h':((noErr (f (ρ++[.val d]))).bind fun e=>(fN t f ρ ds).bind fun es=>.ok (e::es))=.ok es:=h
   cases hf:noErr (f (ρ++[.val d])) with
   | no=>rw [hf] at h';cases h'
   | err c=>rw [hf] at h';cases h'
   | ok e=>
    rw [hf] at h'
    have h'':((fN t f ρ ds).bind fun es=>.ok (e::es))=.ok es:=h'
    cases hr:fN t f ρ ds with
    | no=>rw [hr] at h'';cases h''
    | err c=>rw [hr] at h'';cases h''
    | ok es'=>
     rw [hr] at h''
     cases h''
     exact ⟨e,es',rL hf,rfl,rfl⟩
theorem rH {t:Tv} {f:Ev} {ρ:Rho} {c:Str}:∀ {ds:List D},fN t f ρ ds≠.err c
 | []=>fun h=>by cases h
 | d::ds=>fun h=>by
  rw [fN] at h
  cases ht:noErr (t (ρ++[.val d])) with
  | no=>rw [ht] at h;cases h
  | err c=>cases q:t (ρ++[.val d])<;>(rw [q] at ht;cases ht)
  | ok b=>
   rw [ht] at h
   cases b with
   | false=>exact rH h
   | true=>
    have h':((noErr (f (ρ++[.val d]))).bind fun e=>(fN t f ρ ds).bind fun es=>.ok (e::es))=.err c:=h
    cases hf:noErr (f (ρ++[.val d])) with
    | no=>rw [hf] at h';cases h'
    | err c=>cases q:f (ρ++[.val d])<;>(rw [q] at hf;cases hf)
    | ok e=>
     rw [hf] at h'
     cases hr:fN t f ρ ds with
     | no=>simp only [Res.bind,hr] at h';cases h'
     | err c'=>exact rH hr
     | ok es=>simp only [Res.bind,hr] at h';cases h'
@[irreducible] def PTs (X:Cx) (G:Gx) (ifs:List Expr) (t:Tv):Prop:=
 ∀ (pins:List (Addr×Obj)) (s:Shared) (σ:St) (H:Hp) (Q:Bool->Hp->Prop),Inv X pins σ H s->tTb X G t σ H Q->
  wpAny (model X.prog X.w) X.A (forIn ifs true fun c r=>if r=true then do let ok <-isTrue c X.env (eval c X.env);pure (ForInStep.yield ok) else pure (ForInStep.yield r)) (TP X pins σ Q) X.xe s
unseal PTs
theorem zEY {X:Cx} {G:Gx}:PTs X G [] zN:=fun pins s σ H Q I ⟨ρ,Hi,R,o⟩=>wpAny_tests_nil ⟨H,I,Out.here (a:=true) o R.s⟩
end L3
namespace L3
open PySem PySem.Spec PyProof.Rows L2
unseal PEd PEf PTd PWd PAd PSd bX POd PGd dH PId PSx eY PTs
section
variable {X:Cx} {G:Gx} {elt iter:Expr} {x:Str} {px pos:Pos} {ifs:List Expr} {scope:Scope} {it:Fv} {t:Tv} {f:Ev} {k:Nat}
theorem zFm {M:Model} {A:Around} {α:Type} {m:Sem α} {itv u:Value} {s:Shared} {Q1:Unit->Shared->Prop} {R1:α->Shared->Prop} {E:Value->Shared->Prop} (h:wpAny M A (letOwnedTupleGo (.Name x px) itv u) Q1 E s)
  (k:∀ s5,Q1 () s5->wpAny M A m R1 E s5):wpAny M A m R1 E s:=by
 have key:=wpAny_bind (f:=fun _:Unit=>m) (wpAny_mono h (fun _ s5 h5=>k s5 h5) fun _ _ z=>z)
 have e:(letOwnedTupleGo (.Name x px) itv u >>= fun _=>m)=m:=pure_bind () fun _=>m
 rw [e] at key
 exact key
theorem zBi {N:List Str} (hN:N.Nodup) (h0:("" : Str)∉N) (hx:x≠("" : Str)):(N.map (msk x)++[x]).Nodup:=by
 rw [List.nodup_append]
 refine ⟨?_,List.nodup_cons.mpr ⟨by simp,List.nodup_nil⟩,fun a ha b hb e=>?_⟩
 ·induction N with
  | nil=>exact List.nodup_nil
  | cons y N ih=>
   rw [List.map_cons,List.nodup_cons]
   obtain ⟨hy,hN⟩:=List.nodup_cons.mp hN
   refine ⟨fun hm=>?_,ih hN fun z=>h0 (List.mem_cons_of_mem _ z)⟩
   obtain ⟨z,hz,e⟩:=List.mem_map.mp hm
   unfold msk at e
   by_cases c1:z=x
   ·by_cases c2:y=x
    ·exact hy (by rw [c2,<-c1];exact hz)
    ·rw [if_pos c1,if_neg c2] at e;exact h0 (by rw [e];exact List.mem_cons_self)
   ·by_cases c2:y=x
    ·rw [if_neg c1,if_pos c2] at e;exact h0 (by rw [<-e];exact List.mem_cons_of_mem _ hz)
    ·rw [if_neg c1,if_neg c2] at e;exact hy (by rw [<-e];exact hz)
 ·obtain ⟨z,hz,e1⟩:=List.mem_map.mp ha
  rw [List.mem_singleton] at hb
  subst hb
  subst e
  unfold msk at e1
  split at e1
  ·exact hx e1.symm
  ·rename_i c;exact c e1
structure CW where
 i:Nat
 v:List (Option V)
 H:Hp
 Hi:Hp
 ys:List V
 done:List D
 rest:List D
structure CS (Y:Cx) (pins:List (Addr×Obj)) (σ:St) (tn:Nat->Heap->Prop) (fp:List Addr) (Hi2 H2:Hp) (a:Addr) (m:Nat) (cp:Nat->Res (List D)) (es:List D) (c:CW) (s':Shared):Prop where
 inv:Inv Y pins (σ++c.v) c.H s'
 wid:c.v.length=m
 tn:tn c.i s'.heap
 fr:∀ b∈fp,c.H b=none
 ext:Ext Hi2 H2 c.Hi c.H
 acc:c.H a=some (.lst c.ys)
 hi:c.Hi a=none
 isd:IsDs Y.K c.Hi c.ys c.done
 len:c.done.length<=c.i
 cmp:cp c.i=.ok c.rest
 all:es=c.done++c.rest
def zLn (X:Cx) (pins:List (Addr×Obj)) (σ:St) (use:Option (Value->Sem Unit)) (Q':Value->Shared->Prop) (Qa:Addr->Hp->Prop):Prop:=
 ∀ (C A:Addr) (m:Str->Option Value) (s4:Shared) (H3:Hp),s4.heap.Ns C m->(∀ h',Heap.SameBut C s4.heap h'->Inv X pins σ H3 { s4 with heap:=h' })->vX X pins H3 C->Qa A H3->
  compPost (model X.prog X.w) X.A X.xe use Q' (.ref A) C (.ok .next) s4
theorem zCo (hc:X.calm=true/\TB X.K X.mg G.Bi G.B) (hr:Room k X.A) (Bk:BlkOk X x scope) (hN:X.N.Nodup) (h0:("" : Str)∉X.N) (hx0:x≠("" : Str)) (hi:PId X G (.Name x px) iter it)
  (hb:∀ (C:Addr) (s₂:Shared) (H₂:Hp) (fp:List Addr) (G':Gx),Good (cxC X x scope C s₂ H₂ fp) G' k->PTs (cxC X x scope C s₂ H₂ fp) G' ifs t/\PEd (cxC X x scope C s₂ H₂ fp) G' elt f)
  (hs:∀ x,foldedSetIterable iter X.env x=pure x:=by intro _;rfl)
  {pins:List (Addr×Obj)} {s:Shared} {σ:St} {H Hi:Hp} {ρ:Rho} {use:Option (Value->Sem Unit)} {Q':Value->Shared->Prop} {Qa:Addr->Hp->Prop} {cpos:Pos} (I:Inv X pins σ H s) (R:dS X G Hi H σ ρ)
  (ou:Out G Hi H ((zP it t f) ρ) fun ds Hi' H'=>∀ a,zGV X.K H Hi' H' a ds->Qa a H') (hend:zLn X pins σ use Q' Qa):
  wpAny (model X.prog X.w) X.A (comprehension (.ListComp elt [⟨.Name x px,iter,ifs,0⟩] scope pos) scope X.env cpos (newList []) false (eval iter X.env) use) Q' X.xe s:=by
 refine wpAny_comprehension_free (use:=use) rfl hs (zEw (Bk.cl I)) Bk.kind Bk.names ?_
 refine thn (hi pins s σ H (fun J H2=>∃ ds Hi2,Ext Hi H Hi2 H2/\Gives X.K Hi2 J ds/\Out G Hi2 H2 (if ds.length<=16777215 then fN t f ρ ds else .no) fun ds Hi' H'=>∀ a,zGV X.K H Hi' H' a ds->Qa a H') I
  ⟨ρ,Hi,R,(Out.bind ou).imp fun ds Hi2 H2 e2 o2 J gv=>⟨ds,Hi2,e2,gv,o2⟩⟩) fun v s1 h1=>thn h1 fun itv s2 h2=>?_
 obtain ⟨itA,fp,tn,J,H2,rfl,I2,T,st2,f2,ds,Hi2,e2,gv,ou2⟩:=h2
 have hlen:ds.length<=16777215:=by
  by_cases hlen:ds.length<=16777215
  ·exact hlen
  ·rw [if_neg hlen] at ou2;exact ou2.elim
 rw [if_pos hlen] at ou2
 cases hes:fN t f ρ ds with
 | no=>rw [hes] at ou2;exact ou2.elim
 | err c=>exact absurd hes rH
 | ok es=>
  rw [hes] at ou2
  have R2:dS X G Hi2 H2 σ ρ:=R.grow e2
  refine wpAny_newObj_type (wpAny_newFunctionEnv Bk.cell (by intro y hy;simp at hy) (fun h₁ hns₁ hsb₁=>?_) Bk.kind)
  dsimp only at hns₁ hsb₁ ⊢
  generalize hH2:s2.heap.push { cls:=.type "list", dict:=none,data:=.seq ([]:List Value).toArray }=HP at hns₁ hsb₁ ⊢
  have hC:HP.objs.size=s2.heap.objs.size+1:=by rw [<-hH2,Heap.size_push]
  have hDC:s2.heap.objs.size≠HP.objs.size:=by rw [hC];omega
  have ltC:∀ {b:Addr} {o:Obj},s2.heap.get? b=some o->b≠HP.objs.size:=fun e=>by rw [hC];exact Nat.ne_of_lt (Nat.lt_succ_of_lt (Heap.lt_size e))
  have old:∀ b o,s2.heap.get? b=some o->h₁.get? b=some o:=fun b o e=>hsb₁.extBut b o (ltC e) (Heap.get?_push_of_some _ (hH2 ▸ Heap.get?_push_of_some _ e))
  have hacc:h₁.get? s2.heap.objs.size=some { cls:=.type "list", data:=.seq ([]:List Value).toArray 0 }:=hsb₁.extBut _ _ hDC (Heap.get?_push_of_some _ (hH2 ▸ Heap.get?_push_size _ rfl))
  have hfl:∀ b∈fp,b < s2.heap.objs.size:=fun b hb=>by obtain ⟨o,e,_⟩:=T.obj _ _ st2 b hb;exact Heap.lt_size e
  have IE:=zJU (t:=s2.toks+([]:List (Str×Value)).length) I2 Bk f2 hfl (Nat.le_refl _) (by rw [hC];omega) hDC old hacc hns₁
  have sub:=oI scope.names [] (Bk.cl I2) (fun y c e=>nomatch e)
  have H2D:H2 s2.heap.objs.size=none:=I2.hok.fresh (Nat.le_refl _)
  have HD:H s2.heap.objs.size=none:=e2.h.none H2D
  have Hi2D:Hi2 s2.heap.objs.size=none:=e2.s.none H2D
  generalize hX:cxC X x scope HP.objs.size s2 H2 fp=Y at IE
  have GY:Good Y ⟨G.B,G.Bi,fun _ _=>False⟩ k:=by
   subst hX
   exact ⟨hc.1,hr,fun pins σ H s e s' _ h=>by obtain ⟨_,_,_,_,_,c,_,z⟩:=h;exact z.elim,PassesOwn.never,hc.2⟩
  obtain ⟨hts,hel⟩:=(hX ▸ hb HP.objs.size s2 H2 fp ⟨G.B,G.Bi,fun _ _=>False⟩ (hX.symm ▸ GY):PTs Y ⟨G.B,G.Bi,fun _ _=>False⟩ ifs t/\PEd Y ⟨G.B,G.Bi,fun _ _=>False⟩ elt f)
  have stat:∀ {H':Hp},(∀ b∈fp,H' b=none)->∀ b∈fp,vX Y pins H' b:=fun hn b hb=>by
   subst hX
   refine ⟨hn b hb,?_,fun z=>?_,.inl hb,fun y c e=>(f2 b hb).2.2.2.2.1 y c (sub y c e),(f2 b hb).2.2.2.2.2⟩
   ·show b≠HP.objs.size
    rw [hC];exact Nat.ne_of_lt (Nat.lt_succ_of_lt (hfl b hb))
   ·rcases List.mem_cons.mp (I2.stkSub b z) with w | w
    ·exact (f2 b hb).2.1 w
    ·exact (f2 b hb).2.2.1 w
  have YN:Y.N.Nodup:=by subst hX;exact zBi hN h0 hx0
  have Yx:Y.N[σ.length]?=some x:=by
   subst hX
   show (X.N.map (msk x)++[x])[σ.length]?=some x
   rw [List.getElem?_append_right (by rw [List.length_map,I2.len];omega),List.length_map,I2.len,Nat.sub_self]
   rfl
  have Yl:Y.env.scope.names.lookup x=some .local:=by subst hX;exact lookup_relabel_local Bk.loc
  have Ye:Y.env=compEnvC scope (wA X.env scope.names []) HP.objs.size X.env:=by subst hX;rfl
  have Yxe:∀ e s,¬ Y.xe e s:=by subst hX;exact fun _ _ h=>h
  have tn1:tn 0 h₁:=T.keep _ _ _ st2 fun b _ o e=>old b o e
  have loop:∀ s3:Shared,s3={ s2 with heap:=h₁,toks:=s2.toks+([]:List (Str×Value)).length }->
    codeAny (model X.prog X.w) X.A (.compLoop (.ListComp elt [⟨.Name x px,iter,ifs,0⟩] scope pos) 0 (.ref itA) (.ref s2.heap.objs.size) Y.env) (compPost (model X.prog X.w) X.A X.xe use Q' (.ref s2.heap.objs.size) HP.objs.size) s3:=by
   rintro s3 rfl
   subst hX
   have fr0:∀ b∈fp,upd H2 s2.heap.objs.size (.lst []) b=none:=fun b hb=>by
    rw [aG (Nat.ne_of_lt (hfl b hb))]
    exact (f2 b hb).1
   refine codeAny_compLoop_tests (fun n s'=>∃ c:CW,n=ds.length - c.i/\CS (cxC X x scope HP.objs.size s2 H2 fp) pins σ tn fp Hi2 H2 s2.heap.objs.size 1 (fun i=>fN t f ρ (ds.drop i)) es c s') ?_ ds.length
    ⟨⟨0,[none],_,Hi2,[],[],es⟩,rfl,⟨IE,rfl,tn1,fr0,(Ext.refl e2.s).trans (Ext.newF e2.s H2D),aE,Hi2D,.nil,Nat.le_refl _,hes,rfl⟩⟩
   ·rintro n s3 ⟨⟨i,vv,H3,Hi3,ys,done,rest⟩,rfl,I3,wd3,st3,fr3,e3,hD3,hiD3,rd3,hl3,hr3,hes3⟩
    dsimp only at I3 wd3 st3 fr3 e3 hD3 hiD3 rd3 hl3 hr3 hes3 ⊢
    obtain ⟨v,rfl⟩:∃ v,vv=[v]:=by
     match vv,wd3 with
     | [v],_=>exact ⟨v,rfl⟩
    obtain ⟨w1,w2⟩:=gv Hi3 H3 e3.i e3.s i
    have lift:∀ {α:Type} {m:Sem α} {Q':α->Shared->Prop} {E:Value->Shared->Prop} {s':Shared},wpAny (model X.prog X.w) X.A m Q' (cxC X x scope HP.objs.size s2 H2 fp).xe s'->wpAny (model X.prog X.w) X.A m Q' E s':=fun h=>wpAny_mono h (fun _ _ z=>z) fun e s z=>(Yxe e s z).elim
    by_cases hlt:i < ds.length
    ·obtain ⟨d,hd⟩:∃ d,ds[i]?=some d:=⟨_,List.getElem?_eq_getElem hlt⟩
     obtain ⟨go,yl⟩:=w2 d hd
     have e4:ds.drop i=d::ds.drop (i+1):=by
      rw [List.getElem?_eq_getElem hlt] at hd
      cases hd
      exact List.drop_eq_getElem_cons hlt
     rw [e4] at hr3
     refine thn (T.item (cxC X x scope HP.objs.size s2 H2 fp) rfl rfl rfl hc.1 i pins s3 _ H3 _ I3 (stat fr3) st3 go) fun r s4 ⟨u,hru,h4⟩=>?_
     subst hru
     refine zFm h4 fun s5 h5=>?_
     obtain ⟨xv,H5,I5,r5,y5,st5,fr5⟩:=h5
     obtain ⟨Hi5,e5,rd5⟩:=yl xv H5 y5
     have I5':=I5.pinned (stat fr5) (T.obj _ _ st5)
     refine wpAny_assign_Name (mY I5' YN Yx (.inl Yl) r5 (fun s6 I6=>?_) (.inr Yl))
     have es6:(σ++[v]).set σ.length (some xv)=σ++[some xv]:=by rw [List.set_append_right _ _ (Nat.le_refl _),Nat.sub_self];rfl
     rw [es6] at I6
     have E5:Ext Hi2 H2 Hi5 H5:=e3.trans e5
     have R5:dS (cxC X x scope HP.objs.size s2 H2 fp) ⟨G.B,G.Bi,fun _ _=>False⟩ Hi5 H5 (σ++[some xv]) (ρ++[.val d]):=Rel.snoc (R2.grow E5) rd5
     obtain ⟨hD5,hiD5⟩:=e5.out hD3 hiD3
     have rd5':=rd3.mono e5.i
     have again:∀ {H8 Hi8:Hp} {ys':List V} {done' rest':List D} {s8:Shared},Inv (cxC X x scope HP.objs.size s2 H2 fp) (pins++pM fp s5.heap) (σ++[some xv]) H8 s8->Ext Hi2 H2 Hi8 H8->H8 s2.heap.objs.size=some (.lst ys')->Hi8 s2.heap.objs.size=none->IsDs X.K Hi8 ys' done'->done'.length<=i+1->
       fN t f ρ (ds.drop (i+1))=.ok rest'->es=done'++rest'->∃ m,m < ds.length - i/\∃ c:CW,m=ds.length - c.i/\CS (cxC X x scope HP.objs.size s2 H2 fp) pins σ tn fp Hi2 H2 s2.heap.objs.size 1 (fun i=>fN t f ρ (ds.drop i)) es c s8:=fun {H8 Hi8 ys' done' rest' s8} I8 E8 a1 a2 a3 a4 a5 a6=>by
      refine ⟨ds.length - (i+1),by omega,⟨i+1,[some xv],H8,Hi8,ys',done',rest'⟩,rfl,⟨I8.unpinned,rfl,T.keep _ _ _ st5 fun b hb o e=>(I8.pin (b,o) (List.mem_append_right _ (List.mem_append_right _ (fF hb e)))).1,fun b hb=>?_,E8,a1,a2,a3,a4,a5,a6⟩⟩
      obtain ⟨o,e,_⟩:=T.obj _ _ st5 b hb
      exact (I8.pin (b,o) (List.mem_append_right _ (List.mem_append_right _ (fF hb e)))).2.1
     rcases zR hr3 with ⟨ht,hr4⟩ | ⟨ht,e,es',hf,hr4,hee⟩
     ·refine lift (thn (hts _ s6 _ H5 (fun b H'=>b=false/\∃ Hi',Ext Hi5 H5 Hi' H') I6 ⟨_,Hi5,R5,by rw [ht];exact fun Hi' H' e=>⟨rfl,Hi',e⟩⟩) fun b s7 h7=>?_)
      obtain ⟨H7,I7,rfl,Hi7,e7⟩:=h7
      obtain ⟨hD7,hiD7⟩:=e7.out hD5 hiD5
      exact again I7 (E5.trans e7) hD7 hiD7 (rd5'.mono e7.i) (by omega) hr4 hes3
     ·refine lift (thn (hts _ s6 _ H5 (fun b H'=>b=true/\∃ Hi',Ext Hi5 H5 Hi' H') I6 ⟨_,Hi5,R5,by rw [ht];exact fun Hi' H' e=>⟨rfl,Hi',e⟩⟩) fun b s7 h7=>?_)
      obtain ⟨H7,I7,rfl,Hi7,e7⟩:=h7
      obtain ⟨hD7,hiD7⟩:=e7.out hD5 hiD5
      simp only [if_true]
      refine lift (thn (hel _ s7 _ H7 (fun w H'=>∃ Hi',Ext Hi7 H7 Hi' H'/\IsD X.K Hi' w e) I7 ⟨_,Hi7,R5.grow e7,by rw [hf];exact fun Hi' H' ee w hw=>⟨Hi',ee,hw⟩⟩) fun u8 s8 h8=>?_)
      obtain ⟨w8,H8,I8,r8,Hi8,e8,rw8⟩:=h8
      obtain ⟨hD8,hiD8⟩:=e8.out hD7 hiD7
      have rdy:IsDs X.K Hi8 ys done:=(rd5'.mono e7.i).mono e8.i
      refine lift (thn (gJ (X:=(cxC X x scope HP.objs.size s2 H2 fp)) _ s8 _ H8 (.ref s2.heap.objs.size) [w8] (.ref s2.heap.objs.size) [u8] (fun _ H'=>H'=upd H8 s2.heap.objs.size (.lst (ys++[w8]))) I8 rfl (.cons r8 .nil) ⟨_,ys,w8,rfl,rfl,hD8,?_,rfl⟩) fun _ s9 h9=>?_)
      ·rw [rdy.length]
       exact Nat.lt_of_le_of_lt hl3 (Nat.lt_of_lt_of_le hlt (Nat.le_trans hlen (by decide)))
      ·obtain ⟨_,H9,I9,_,rfl⟩:=h9
       refine again I9 (Ext.rewrite ((E5.trans e7).trans e8) H2D hiD8 ⟨_,hD8⟩) aE hiD8 (rdy.snoc rw8) (by rw [List.length_append];exact Nat.succ_le_succ hl3) hr4 ?_
       rw [hes3,hee,List.append_assoc];rfl
    ·rw [List.drop_eq_nil_of_le (by omega),fN] at hr3
     cases hr3
     refine thn (T.done (cxC X x scope HP.objs.size s2 H2 fp) rfl rfl rfl hc.1 i pins s3 _ H3 _ I3 (stat fr3) st3 (w1 (by omega))) fun r s4 ⟨hrn,I4⟩=>?_
     subst hrn
     obtain ⟨m4,hn4,_⟩:=I4.loc
     have fC:H3 HP.objs.size=none:=I4.free
     have nC:∀ b u,H3 b=some u->b≠HP.objs.size:=fun b u e z=>by rw [z,fC] at e;cases e
     have U4:=I4.base
     refine hend HP.objs.size s2.heap.objs.size m4 s4 H3 hn4 (fun h' hs'=>?_) (I2.fpOk (by rw [hC];omega) fC) ?_
     ·have kp:∀ b o,b≠HP.objs.size->s4.heap.get? b=some o->h'.get? b=some o:=fun b o hb e=>hs'.extBut b o hb e
      refine Inv.call' I2 (ch:=fp) I4.os ⟨fun b o e n hb hx=>kp b o (ltC e) (U4.keep b o e n hb hx),fun b o e n hb hx=>?_,U4.free,fun b o e hx=>?_,U4.tups,U4.frzs,U4.tbls⟩ (fun b u e=>?_) I4.bare (fun b hb=>⟨(f2 b hb).2.2.2.1,(f2 b hb).2.1,(f2 b hb).2.2.2.2.1,(f2 b hb).2.2.2.2.2⟩)
      ·obtain ⟨sl,q⟩:=U4.slot b o e n hb hx
       exact ⟨sl,kp b _ (ltC e) q⟩
      ·obtain ⟨o',q⟩:=U4.there b o e hx
       exact ⟨o',kp b _ (ltC e) q⟩
      ·refine (I4.hok b u e).stay (fun c v hc q=>kp c v ?_ q) (fun _ q=>q) fun _ _ q=>q
       rcases hc with z | z
       ·rw [z];exact nC b u e
       ·exact nC c _ z
     ·refine ou2 Hi3 H3 e3 _ ⟨HD,hiD3,ys,hD3,?_⟩
      rw [hes3,List.append_nil]
      exact rd3
  rw [Ye] at loop
  exact codeAny_compStart_list (loop _ rfl) (T.self _ 0 _ _ _ tn1 (loop _ rfl))
theorem zFl (hc:X.calm=true/\TB X.K X.mg G.Bi G.B) (hr:Room k X.A) (Bk:BlkOk X x scope) (hN:X.N.Nodup) (h0:("" : Str)∉X.N) (hx0:x≠("" : Str)) (hi:PId X G (.Name x px) iter it)
  (hb:∀ (C:Addr) (s₂:Shared) (H₂:Hp) (fp:List Addr) (G':Gx),Good (cxC X x scope C s₂ H₂ fp) G' k->PTs (cxC X x scope C s₂ H₂ fp) G' ifs t/\PEd (cxC X x scope C s₂ H₂ fp) G' elt f)
  (hs:∀ x,foldedSetIterable iter X.env x=pure x:=by intro _;rfl):PEf X G (.ListComp elt [⟨.Name x px,iter,ifs,0⟩] scope pos) (zP it t f):=by
 intro pins s σ H Q I w
 obtain ⟨ρ,Hi,R,ou⟩:=w
 rw [eval_ListComp]
 refine zCo hc hr Bk hN h0 hx0 hi hb hs (use:=none) (Qa:=fun a H'=>Q (.ref a) H') I R ou fun C A m s4 H3 hn hI _ q=>?_
 exact ⟨m,hn,fun h' hs'=>⟨.ref A,H3,hI h' hs',rfl,q⟩⟩
def PC (X:Cx) (e:Expr) (t:TE):Prop:=∀ (pins:List (Addr×Obj)) (s:Shared) (σ:St) (H:Hp) (Q:VK),Inv X pins σ H s->t σ H Q->∀ (u:Value->Sem Unit) (Q':Unit->Shared->Prop),
 (∀ (C:Addr) (m:Str->Option Value) (s4:Shared) (v:V) (w:Value) (H3:Hp),s4.heap.Ns C m->(∀ h',Heap.SameBut C s4.heap h'->Inv X pins σ H3 { s4 with heap:=h' })->vX X pins H3 C->cI v w->Q v H3->
  wpAny (model X.prog X.w) X.A (u w) (fun _ s''=>∃ m,s''.heap.Ns C m/\∀ h',Heap.SameBut C s''.heap h'->Q' () { s'' with heap:=h' }) X.xe s4)->wpAny (model X.prog X.w) X.A (evalThenUse e X.env u) Q' X.xe s
theorem PC.wk {X:Cx} {e:Expr} {t t':TE} (h:PC X e t) (w:∀ σ H Q,t' σ H Q->t σ H Q):PC X e t':=fun pins s σ H Q I q=>h pins s σ H Q I (w σ H Q q)
@[irreducible] def PCd (X:Cx) (G:Gx) (e:Expr) (f:Ev):Prop:=PC X e (tD X G f)
unseal PCd
@[irreducible] def PCf (X:Cx) (G:Gx) (e:Expr) (f:Fv):Prop:=PC X e (tF X G f)
unseal PCf
theorem PCf.d (h:PCf X G e fs):PCd X G e (eF fs):=PC.wk h fun σ H Q q=>by
 obtain ⟨ρ,Hi,R,ou⟩:=q
 refine ⟨ρ,Hi,R,?_⟩
 cases z:fs ρ with
 | no=>unfold eF at ou;rw [z] at ou;exact ou
 | err c=>unfold eF at ou;rw [z] at ou;exact ou
 | ok ds=>
  unfold eF at ou;rw [z] at ou
  intro Hi1 H1 e1 a n
  obtain ⟨n1,n2,xs,n3,n4⟩:=n
  have o2:∀ Hi' H',Ext Hi H Hi' H'->∀ v,IsD X.K Hi' v (.lst ds)->Q v H':=ou
  exact o2 _ _ (e1.hold n1 n3 n2) (.ref a) (.lst (SqL.of aE) (n4.mono (aS n2 _)))
theorem zGW {i:Nat} {y:Str} {e:Expr} {te:TE} {pos' pos:Pos} (hN:X.N.Nodup) (hi:X.N[i]?=some y) (hx:Loc X.env.scope y) (he:PC X e te) (hs:swapsWith e (some (.Name y pos')) pos.line X.env=pure true)
  (hf:X.fn y=true∨X.env.scope.names.lookup y=some .local):PS X (.Assign [.Name y pos'] e pos) (zKR te (L2.gName i)):=by
 intro pins s σ H E I h
 rw [exec_Assign_Name_used _ _ _ _ hs]
 refine wpAny_bind (wpAny_standAt (wpAny_bind ?_))
 refine he pins s σ H _ I h _ _ fun C m s4 v w H3 hn hI fo r q=>?_
 have I4:Inv X pins σ H3 s4:=hI s4.heap (Heap.SameBut.refl _ _)
 refine wpAny_assign_Name (uM I4 hN hi hx r (fun s5 I5 sb=>?_) hf)
 obtain ⟨a,sb,ha⟩:=sb
 have aC:C≠a:=by
  rcases ha with rfl | ha
  ·exact fo.2.1
  ·exact fun z=>fo.2.2.2.2.1 y a ha z.symm
 refine ⟨m,hn.sameBut sb aC,fun h' hs'=>wpAny_pure ?_⟩
 have fC:=fo.1
 have nC:∀ b u,H3 b=some u->b≠C:=fun b u e z=>by rw [z,fC] at e;cases e
 have kp:∀ b o,b≠C->s5.heap.get? b=some o->h'.get? b=some o:=fun b o hb e=>hs'.extBut b o hb e
 refine ⟨σ.set i (some v),H3,?_,q⟩
 refine Inv.call' I5 (ch:=[C]) rfl ⟨fun b o e n hb hx=>kp b o (by simpa using hx) e,fun b o e n hb hx=>⟨o.slots,kp b _ (by simpa using hx) e⟩,fun b o e n hx=>n,fun b o e hx=>⟨o,kp b _ (by simpa using hx) e⟩,fun _ _ q=>q,fun _ _ _ q=>q,fun _ ps q=>⟨#[],by simpa using q⟩⟩ (fun b u e=>?_) I5.bare (fun b hb=>?_)
 ·refine (I5.hok b u e).stay (fun c v hc q=>kp c v ?_ q) (fun _ q=>q) fun _ _ q=>q
  rcases hc with z | z
  ·rw [z];exact nC b u e
  ·exact nC c _ z
 ·have e:b=C:=by simpa using hb
  subst e
  exact ⟨fo.2.2.2.1,fo.2.1,fo.2.2.2.2.1,fo.2.2.2.2.2⟩
theorem zFf {i:Nat} {y:Str} {e:Expr} {f:Ev} {pos' pos:Pos} (hN:X.N.Nodup) (hi:X.N[i]?=some y) (hx:Loc X.env.scope y) (he:PCd X G e f) (hs:swapsWith e (some (.Name y pos')) pos.line X.env=pure true)
  (hf:X.fn y=true∨X.env.scope.names.lookup y=some .local:=by first | exact .inl rfl | exact .inr rfl | assumption):PSd X G (.Assign [.Name y pos'] e pos) (fV i f):=PS.wk (zGW hN hi hx he hs hf) fun E σ H q=>by
 obtain ⟨ρ,Hi,R,h⟩:=q
 exact ⟨ρ,Hi,R,jR R h fun d Hi' H' _ e h' v r=>h' _ Hi' H' (Same.refl _) ((R.grow e).set r)⟩
end
end L3
namespace L3
open PySem PySem.Spec PyProof.Rows L2
unseal PEd PEf PTd PWd PAd PSd bX POd PGd dH PId PSx eY PTs PCd PCf
def zKx (sc:Scope) (N:List Str) (x:Str) (scope:Scope):Bool:=
 scope.names.all (fun y=>y.2 != .cell) && scope.names.lookup x==some .local && scope.names.all (fun y=>y.2 != .local || scope.names.lookup y.1==some .local)
  && scope.names.all (fun p=>p.2 != .free || (sc.names.lookup p.1==some .cell || sc.names.lookup p.1==some .free)) && N.all (fun y=>y==x || scope.names.lookup y != some .local) && (scope.names.lookup ("" : Str)).isNone && !N.contains ("" : Str) && x != ("" : Str)
section
variable {X:Cx} {G:Gx} {elt iter:Expr} {x:Str} {px pos:Pos} {ifs:List Expr} {scope sc:Scope} {it:Fv} {t:Tv} {f:Ev} {k:Nat} {N:List Str}
theorem zHE (hk:scope.kind=.function) (hsc:X.env.scope=sc) (hN:X.N=N) (h:zKx sc N x scope=true):BlkOk X x scope/\("" : Str)∉X.N/\x≠("" : Str):=by
 unfold zKx at h
 simp only [Bool.and_eq_true] at h
 obtain ⟨⟨⟨⟨⟨⟨⟨h1,h2⟩,h3⟩,h4⟩,h5⟩,h6⟩,h7⟩,h8⟩:=h
 subst hN hsc
 refine ⟨⟨hk,fun y hy e=>?_,beq_iff_eq.mp h2,fun y hy e=>?_,fun p hp e=>?_,fun y hy hne e=>?_,?_⟩,fun z=>?_,fun z=>?_⟩
 ·have:=List.all_eq_true.mp h1 y hy
  rw [e] at this;cases this
 ·have:=List.all_eq_true.mp h3 y hy
  rw [e] at this
  simpa using this
 ·have:=List.all_eq_true.mp h4 p hp
  rw [e] at this
  have q:X.env.scope.names.lookup p.1=some .cell∨X.env.scope.names.lookup p.1=some .free:=by simpa using this
  exact q
 ·have:=List.all_eq_true.mp h5 y hy
  rw [e] at this
  simp [hne] at this
 ·simpa using h6
 ·have:X.N.contains ("" : Str)=true:=by simpa using z
  rw [this] at h7;cases h7
 ·rw [z] at h8;simp at h8
theorem xX (W:Good X G k) (hnd:N.Nodup) (hk:scope.kind=.function) (hsc:X.env.scope=sc) (hN:X.N=N) (h:zKx sc N x scope=true) (hi:PId X G (.Name x px) iter it)
  (hb:∀ (C:Addr) (s₂:Shared) (H₂:Hp) (fp:List Addr) (G':Gx),Good (cxC X x scope C s₂ H₂ fp) G' k->PTs (cxC X x scope C s₂ H₂ fp) G' ifs t/\PEd (cxC X x scope C s₂ H₂ fp) G' elt f)
  (hs:∀ x,foldedSetIterable iter X.env x=pure x:=by intro _;rfl):PEf X G (.ListComp elt [⟨.Name x px,iter,ifs,0⟩] scope pos) (zP it t f):=by
 obtain ⟨b,h0,hx⟩:=zHE hk hsc hN h
 exact zFl ⟨W.calm,W.tb⟩ W.room b (hN ▸ hnd) h0 hx hi hb hs
end
end L3
namespace L3
open PySem PySem.Spec PyProof.Rows L2
unseal PEd PEf PTd PWd PAd PSd bX POd PGd dH PId PSx eY PTs PCd PCf
section
variable {X:Cx} {G:Gx} {a b:Expr} {pos:Pos} {f:Fv} {g:Ev}
end
section
variable {es r:List Expr} {a b f:Expr} {k:Nat} {p:Pos} {x:Str} {c:Const} {env:Env}
theorem yY:starEach (.Tuple es k p::r) env=(false,eval (.Tuple es k p) env)::starEach r env:=rfl
theorem dC {o:Operator}:starEach (.BinOp a o b p::r) env=(false,eval (.BinOp a o b p) env)::starEach r env:=rfl
theorem gP:starEach (.Subscript a b p::r) env=(false,eval (.Subscript a b p) env)::starEach r env:=rfl
theorem bA:starEach (.Name x p::r) env=(false,eval (.Name x p) env)::starEach r env:=rfl
theorem cG:starEach (.Constant c k p::r) env=(false,eval (.Constant c k p) env)::starEach r env:=rfl
theorem bB {ks:List Keyword}:starEach (.Call f es ks p::r) env=(false,eval (.Call f es ks p) env)::starEach r env:=rfl
end
end L3
namespace L3
open PySem PySem.Spec PyProof.Rows L2
unseal PEd PEf PTd PWd PAd PSd bX POd PGd dH PId PSx eY PTs PCd PCf
section
variable {X:Cx} {G:Gx} {e st:Expr} {te tk:TE} {lo hi:Option Expr} {tl th:TO} {pos p2:Pos} {f g:Ev} {l h:Ov}
end
end L3
set_option maxRecDepth 100000
namespace L3
open PySem PySem.Spec PyProof.Rows L2
section
variable {prog:Program} {w:World} {A:Around} {E:Value->Shared->Prop} {s:Shared}
end
section
unseal PEd PEf PTd PWd PAd PSd bX POd PGd dH PId PSx eY PTs PCd PCf
variable {X:Cx} {G:Gx} {fs:Fv} {f:Ev}
end
end L3
namespace L3
open PySem PySem.Spec PyProof.Rows L2
unseal PEd PEf PTd PWd PAd PSd bX POd PGd dH PId PSx eY PTs PCd PCf
section
variable {X:Cx} {G:Gx}
def zKV (K:PySem.W.Frag):List V->Hp->VK->Prop:=fun xs H Q=>∃ (a:Addr) (ns:List Int),xs=[.ref a]/\(SqL K H a (ns.map V.int)∨SqT K H a (ns.map V.int))/\Q (.int ns.sum) H
theorem oH (ns:List Int):∀ j,preSum (fun i=>ns.getD i 0) j=(ns.take j).sum
 | 0=>by rw [List.take_zero];rfl
 | j+1=>by
  rw [preSum,oH ns j,List.take_succ]
  rw [List.getD_eq_getElem?_getD]
  cases ns[j]? with
  | none=>simp
  | some x=>simp
theorem qW {ns:List Int} {its:List Value} (r:dM (ns.map V.int) its) {i:Nat} {v:Value} (h:its[i]?=some v):∃ t,v=.int (ns.getD i 0) t:=by
 have hl:=r.length
 rw [List.length_map] at hl
 have hi:=(List.getElem?_eq_some_iff.mp h).1
 have hx:(ns.map V.int)[i]?=some (.int (ns.getD i 0)):=by
  rw [List.getElem?_map,List.getD_eq_getElem?_getD,List.getElem?_eq_getElem (by omega)]
  rfl
 obtain ⟨u,hu,ru⟩:=r.get hx
 rw [h] at hu
 cases hu
 exact ru
theorem zDk (hc:X.calm=true):lI X (.builtin "sum") (zKV X.K):=by
 intro pins s σ H xs us Q I r h
 obtain ⟨a,ns,rfl,hq,q⟩:=h
 obtain ⟨u,rfl,ru⟩:=r.one
 cases ru
 have hh:=I.ok.hd hc
 rcases hq with hq | hq
 ·obtain ⟨its,rv,p,hz⟩:=I.list hq
  have hlt:a < s.heap.objs.size:=by obtain ⟨_,e,_⟩:=p.isList;exact Heap.lt_size e
  have hl:=rv.length
  rw [List.length_map] at hl
  refine call_sum_walkG (wpAny_pyIter_list p.isList ?_)
  refine ⟨s.heap.objs.size,_,_,_,_,_,fun i=>ns.getD i 0,rfl,Walks.list (A:=X.A.in1) hh s.heap.objs.size a (Nat.ne_of_lt hlt) its.toArray,⟨⟨_,Heap.get?_push_size _ rfl,rfl,rfl⟩,p.isList.push _⟩,fun b hb=>?_,fun i v hv=>qW rv (by simpa using hv),fun h' tk t' hk=>?_⟩
  ·show b < (s.heap.push _).objs.size
   rw [Heap.size_push]
   rcases List.mem_cons.mp hb with rfl | hb
   ·exact Nat.lt_succ_self _
   ·rcases List.mem_cons.mp hb with rfl | hb
    ·exact Nat.lt_succ_of_lt hlt
    ·cases hb
  ·refine ⟨.int ns.sum,H,I.kept (t':=tk) fun b o e=>hk b o (fun z=>?_) (Heap.get?_push_of_some _ e),⟨t',?_⟩,q⟩
   ·have z':b=s.heap.objs.size:=by simpa using z
    have l:=Heap.lt_size e
    rw [z'] at l
    exact Nat.lt_irrefl _ l
   ·rw [List.size_toArray,<-hl,oH,List.take_length]
 ·obtain ⟨its,rv,p,hz⟩:=I.tuple hq
  have p':s.heap.IsTuple a its.toArray:=p
  have hlt:a < s.heap.objs.size:=by obtain ⟨_,e,_⟩:=p';exact Heap.lt_size e
  have hl:=rv.length
  rw [List.length_map] at hl
  refine call_sum_walkG (wpAny_pyIter_tuple p' ?_)
  refine ⟨s.heap.objs.size,_,_,_,_,_,fun i=>ns.getD i 0,rfl,Walks.tuple (A:=X.A.in1) hh s.heap.objs.size a (Nat.ne_of_lt hlt) its.toArray,⟨⟨_,Heap.get?_push_size _ rfl,rfl,rfl⟩,p'.push _⟩,fun b hb=>?_,fun i v hv=>qW rv (by simpa using hv),fun h' tk t' hk=>?_⟩
  ·show b < (s.heap.push _).objs.size
   rw [Heap.size_push]
   rcases List.mem_cons.mp hb with rfl | hb
   ·exact Nat.lt_succ_self _
   ·rcases List.mem_cons.mp hb with rfl | hb
    ·exact Nat.lt_succ_of_lt hlt
    ·cases hb
  ·refine ⟨.int ns.sum,H,I.kept (t':=tk) fun b o e=>hk b o (fun z=>?_) (Heap.get?_push_of_some _ e),⟨t',?_⟩,q⟩
   ·have z':b=s.heap.objs.size:=by simpa using z
    have l:=Heap.lt_size e
    rw [z'] at l
    exact Nat.lt_irrefl _ l
   ·rw [List.size_toArray,<-hl,oH,List.take_length]
theorem gE {K:PySem.W.Frag} {H:Hp}:∀ {xs:List V} {ds:List D} {ns:List Int},IsDs K H xs ds->iY ds=some ns->xs=ns.map V.int
 | _,_,ns,.nil,h=>by cases h;rfl
 | _,_,ns,.cons (d:=d) (ds:=ds) r rs,h=>by
  cases d with
  | int i=>
   rw [iY] at h
   cases z:iY ds with
   | none=>rw [z] at h;cases h
   | some ms=>
    rw [z] at h
    cases h
    rw [r.intI,gE rs z]
    rfl
  | _=>cases h
theorem zIM:pF X (zKV X.K) zHc:=⟨fun a c z=>(by
  unfold zHc at z
  split at z
  ·split at z<;>cases z
  ·split at z<;>cases z
  ·cases z),fun Hi H vs ds d Q s r z q=>by
  unfold zHc at z
  split at z
  ·split at z
   ·rename_i ns hns
    cases z
    obtain ⟨v,rfl,h⟩:=r.one
    obtain ⟨a,xs,rfl,h1,h2⟩:=h.lstI
    have e:=gE h2 hns
    subst e
    exact ⟨a,ns,rfl,.inl (bU s h1),q _ Hi H (Ext.refl s) (.int _)⟩
   ·cases z
  ·split at z
   ·rename_i ns hns
    cases z
    obtain ⟨v,rfl,h⟩:=r.one
    obtain ⟨a,xs,rfl,h1,h2⟩:=h.tupI
    have e:=gE h2 hns
    subst e
    exact ⟨a,ns,rfl,.inr (bO s h1),q _ Hi H (Ext.refl s) (.int _)⟩
   ·cases z
  ·cases z⟩
theorem zCU:bootBuiltins "sum" = some (.builtin "sum"):=by first | rfl | decide +kernel
end
end L3
namespace L3
open PySem PySem.Spec PyProof.Rows L2
unseal PEd PEf PTd PWd PAd PSd bX POd PGd dH PId PSx eY PTs PCd PCf
section
variable {prog:Program} {w:World} {A:Around} {E:Value->Shared->Prop} {s:Shared}
end
section
variable {X:Cx} {G:Gx} {es:List Expr} {pos:Pos}
end
theorem ln0 {α:Type} {us:List α} (h:us.length=0):us=[]:=List.eq_nil_of_length_eq_zero h
theorem ln1 {α:Type} {us:List α} (h:us.length=1):∃ a0:α,us=[a0]:=by
 cases us with
 | nil=>cases h
 | cons a r=>
  cases ln0 (Nat.succ.inj h)
  exact ⟨a,rfl⟩
theorem ln2 {α:Type} {us:List α} (h:us.length=2):∃ a0 a1:α,us=[a0,a1]:=by
 cases us with
 | nil=>cases h
 | cons a r=>
  obtain ⟨a1,rfl⟩:=ln1 (Nat.succ.inj h)
  exact ⟨a,a1,rfl⟩
theorem ln3 {α:Type} {us:List α} (h:us.length=3):∃ a0 a1 a2:α,us=[a0,a1,a2]:=by
 cases us with
 | nil=>cases h
 | cons a r=>
  obtain ⟨a1,a2,rfl⟩:=ln2 (Nat.succ.inj h)
  exact ⟨a,a1,a2,rfl⟩
end L3
namespace L3
open PySem PySem.Spec PyProof.Rows L2
unseal PEd PEf PTd PWd PAd PSd bX POd PGd dH PId PSx eY PTs PCd PCf
section
variable {X:Cx} {G:Gx} {a b c e:Expr} {pos p2:Pos} {f g h:Ev} {fs:Fv} {lo hi:Option Expr} {l u:Ov}
theorem zHk:OpK X (fun x y H Q=>∃ i j,x=.str i/\y=.str j/\i.length+j.length<=sizeLine/\Q (.str (i++j)) H) zCc:=⟨fun a b c z=>(by
  unfold zCc at z
  split at z
  ·split at z<;>cases z
  ·cases z),fun Hi H x y a b d Q s r1 r2 z q=>by
  unfold zCc at z
  split at z
  ·split at z
   ·rename_i hz
    cases z
    exact ⟨_,_,r1.strI,r2.strI,hz,q _ Hi H (Ext.refl s) (.str _)⟩
   ·cases z
  ·cases z⟩
theorem zJh {o:Option Nat} {c:Str}:chO o≠.err c:=fun z=>by cases o<;>cases z
theorem zKc:OpK X (fun x y H Q=>∃ z i c,x=.str z/\y=.int i/\0<=i/\i < 2^63/\i < z.length/\z.cps[i.toNat]?=some c/\Q (.str ⟨#[c]⟩) H) uZ:=⟨fun a b c z=>(by
  unfold uZ at z
  split at z
  ·split at z
   ·exact zJh z
   ·cases z
  ·cases z),fun Hi H x y a b d Q s r1 r2 z q=>by
  unfold uZ at z
  split at z
  ·rename_i w i
   split at z
   ·rename_i hz
    cases hc:w.cps[i.toNat]? with
    | none=>rw [hc] at z;cases z
    | some c=>
     rw [hc] at z
     cases z
     have hl:i.toNat < w.cps.size:=(Array.getElem?_eq_some_iff.mp hc).1
     exact ⟨w,i,c,r1.strI,r2.intI,hz.1,hz.2,by show i < (w.cps.size:Int);omega,hc,q _ Hi H (Ext.refl s) (.str _)⟩
   ·cases z
  ·cases z⟩
theorem yZ (ha:PEd X G a f) (hb:PEd X G b g) (hs:yU b):PEd X G (.Subscript a b pos) (eOp uZ f g):=PE.wk (vO ha hb hs) (op2 zKc)
theorem zJd:OpK X (fun x y H Q=>∃ i j,x=.str i/\y=.str j/\Q (.bl (!(Builtin.Str.occurrences j i 0 j.length 1).isEmpty)) H) zDH:=⟨fun a b c z=>(by
  unfold zDH at z
  split at z<;>cases z),fun Hi H x y a b d Q s r1 r2 z q=>by
  unfold zDH at z
  split at z
  ·cases z
   exact ⟨_,_,r1.strI,r2.strI,q _ Hi H (Ext.refl s) (.bl _)⟩
  ·cases z⟩
theorem oU:pF X (fun xs H Q=>∃ x n,xs=[x]/\zKQ X.K x H n/\Q (.int n) H) mO:=⟨fun a c z=>(by
  unfold mO at z
  split at z
  ·split at z<;>cases z
  ·cases z),fun Hi H vs ds d Q s r z q=>by
  unfold mO at z
  split at z
  ·split at z
   ·rename_i hz
    cases z
    obtain ⟨v,rfl,h⟩:=r.one
    exact ⟨v,_,rfl,by rw [h.strI];exact ⟨hz,rfl⟩,q _ Hi H (Ext.refl s) (.int _)⟩
   ·cases z
  ·cases z⟩
theorem zCf:lI X (.type "int") (fun xs H Q=>∃ x n,xs=[.str x]/\x.length<=640/\intText? x=some n/\Q (.int n) H):=by
 intro pins s σ H xs us Q I r h
 obtain ⟨x,n,rfl,hl,hn,q⟩:=h
 obtain ⟨u,rfl,t,rfl⟩:=wV r
 exact PySem.W.KIN.call_text hn hl ⟨.int n,H,I.tok _,⟨_,rfl⟩,q⟩
theorem zGg:pF X (fun xs H Q=>∃ x n,xs=[.str x]/\x.length<=640/\intText? x=some n/\Q (.int n) H) zBh:=⟨fun a c z=>(by
  unfold zBh at z
  split at z
  ·split at z
   ·split at z<;>cases z
   ·cases z
  ·cases z),fun Hi H vs ds d Q s r z q=>by
  unfold zBh at z
  split at z
  ·split at z
   ·rename_i hz
    split at z
    ·rename_i n hn
     cases z
     obtain ⟨v,rfl,h⟩:=r.one
     exact ⟨_,n,by rw [h.strI],hz,hn,q _ Hi H (Ext.refl s) (.int _)⟩
    ·cases z
   ·cases z
  ·cases z⟩
def zLX:V->Option Int->Option Int->Hp->VK->Prop:=fun x lo hi H Q=>∃ z,x=.str z/\z.length<=sizeLine/\Q (.str (Txt.slice z lo hi)) H
theorem zBL {v:Value} {o:Option Int} (h:IsPart v o):∃ q:Option (Int×Tok),v=partValue q/\q.map (·.1)=o:=by
 cases h with
 | none=>exact ⟨none,rfl,rfl⟩
 | int i t=>exact ⟨some (i,t),rfl,rfl⟩
theorem zIj:SlR X zLX:=by
 intro pins s σ H x v vl vu lo hi sl Q I rx hs pl pu h
 obtain ⟨z,rfl,hz,q⟩:=h
 obtain ⟨t,rfl⟩:=rx
 obtain ⟨ql,rfl,rfl⟩:=zBL pl
 obtain ⟨qu,rfl,rfl⟩:=zBL pu
 refine ⟨"str", _,PySem.F.slot_str_getitem.lookup,typeIs_str _ _ _,wpAny_getItem_str_slice (l:=ql) (u:=qu) (st:=none) hs rfl (post_val_or_str ⟨Nat.le_trans (Txt.slice_le z _ _) hz,fun t' k=>⟨.str _,H,I.tok _,⟨_,rfl⟩,q⟩⟩)⟩
theorem zCA (he:PEd X G e f) (hl:POd X G lo l) (hu:POd X G hi u):PEd X G (.Subscript e (.Slice lo hi none p2) pos) (zJL f l u):=PE.wk (sN zIj he hl hu) fun σ H Q q=>by
 obtain ⟨ρ,Hi,R,ou⟩:=q
 refine lZ R ou fun v d Hi1 H1 e1 R1 r1 o1=>?_
 refine zHd R1 o1 fun i Hi2 H2 e2 R2 o2=>?_
 refine zHd R2 o2 fun j Hi3 H3 e3 R3 o3=>?_
 cases d with
 | str x=>
  have o3':Out G Hi3 H3 (if x.length<=sizeLine then Res.ok (D.str (Txt.slice x i j)) else .no) _:=o3
  by_cases hz:x.length<=sizeLine
  ·rw [if_pos hz] at o3'
   exact ⟨x,r1.strI,hz,o3'.here R3.s _ (.str _)⟩
  ·rw [if_neg hz] at o3'
   exact o3'.elim
 | _=>exact o3.elim
theorem Out.grow {Hi H Hi' H':Hp} {α:Type} {r:Res α} {k:α->Hp->Hp->Prop} (o:Out G Hi H r k) (e:Ext Hi H Hi' H'):Out G Hi' H' r k:=by
 cases r with
 | no=>exact o
 | err c=>exact fun a b x=>o a b (e.trans x)
 | ok y=>exact fun a b x=>o a b (e.trans x)
theorem zHR {r r':R2} {o o':Op2} (k:OpK X r o) (k':OpK X r' o'):∀ σ H Q,tD X G (xQ o o' f g h) σ H Q->zEM r r' (tD X G f) (tD X G g) (tD X G h) σ H Q:=fun σ H Q q=>by
 obtain ⟨ρ,Hi,R,ou⟩:=q
 refine lZ R ou fun v d Hi1 H1 e1 R1 r1 o1=>?_
 refine lZ R1 o1 fun w d' Hi2 H2 e2 R2 r2 o2=>?_
 cases z:o d d' with
 | no=>rw [z] at o2;exact o2.elim
 | err c=>exact absurd z (k.1 d d' c)
 | ok y=>
  rw [z] at o2
  refine k.2 Hi2 H2 v w d d' y _ R2.s (r1.mono e2.i) r2 z fun v3 Hi3 H3 e3 r3=>?_
  have o3:Out G Hi3 H3 (zIg o' h ρ d' y) _:=Out.grow o2 e3
  have R3:=R2.grow e3
  cases y with
  | bl b=>
   refine ⟨b,r3.blI,?_⟩
   cases b with
   | true=>
    rw [if_pos rfl]
    refine lZ R3 o3 fun w2 d2 Hi4 H4 e4 R4 r4 o4=>?_
    cases z':o' d' d2 with
    | no=>rw [z'] at o4;exact o4.elim
    | err c=>exact absurd z' (k'.1 d' d2 c)
    | ok y'=>
     rw [z'] at o4
     exact k'.2 Hi4 H4 w w2 d' d2 y' _ R4.s ((r2.mono e3.i).mono e4.i) r4 z' fun v5 Hi5 H5 e5 r5=>o4 Hi5 H5 e5 v5 r5
   | false=>
    rw [if_neg (by decide)]
    exact o3.here R3.s _ (.bl _)
  | _=>exact o3.elim
theorem zEp {op op':CmpOp} {r r':R2} {o o':Op2} (ho:OpR X (compareOp op) r) (k:OpK X r o) (ho':OpR X (compareOp op') r') (k':OpK X r' o') (ha:PEd X G a f) (hb:PEd X G b g) (hc:PEd X G c h)
  (hm:lastMarks [op,op'] [b,c]=false:=by with_unfolding_all rfl):PEd X G (.Compare a [op,op'] [b,c] pos) (xQ o o' f g h):=PE.wk (zDs ho ho' ha hb hc hm) (zHR k k')
def zLb (K:PySem.W.Frag):List V->Hp->VK->Prop:=fun xs H Q=>∃ (a:Addr) (bs:List Bool),xs=[.ref a]/\SqL K H a (bs.map V.bl)/\Q (.bl (bs.all id)) H
theorem zBP (bs:List Bool):(List.range bs.length).all (fun i=>bs.getD i false)=bs.all id:=by
 induction bs with
 | nil=>rfl
 | cons b r ih=>
  rw [List.length_cons,List.range_succ_eq_map,List.all_cons,List.all_cons,List.all_map,<-ih]
  rfl
theorem zEb (hc:X.calm=true):lI X (.builtin "all") (zLb X.K):=by
 intro pins s σ H xs us Q I r h
 obtain ⟨a,bs,rfl,hq,q⟩:=h
 obtain ⟨u,rfl,ru⟩:=wV r
 cases ru
 have hh:=I.ok.hd hc
 obtain ⟨its,rv,p,hz⟩:=I.list hq
 have hlt:a < s.heap.objs.size:=by obtain ⟨_,e,_⟩:=p.isList;exact Heap.lt_size e
 have hl:=rv.length
 rw [List.length_map] at hl
 refine call_all_walk (wpAny_pyIter_list p.isList ?_)
 refine ⟨s.heap.objs.size,_,_,_,_,_,fun i=>bs.getD i false,rfl,Walks.list (A:=X.A.in1) hh s.heap.objs.size a (Nat.ne_of_lt hlt) its.toArray,⟨⟨_,Heap.get?_push_size _ rfl,rfl,rfl⟩,p.isList.push _⟩,fun i v s' Q' E' hv hQ=>?_,fun h' tk hk=>?_⟩
 ·have hv':its[i]?=some v:=by simpa using hv
  have hi:i < its.length:=(List.getElem?_eq_some_iff.mp hv').1
  have hx:(bs.map V.bl)[i]?=some (.bl (bs.getD i false)):=by
   rw [List.getElem?_map,List.getD_eq_getElem?_getD,List.getElem?_eq_getElem (by omega)]
   rfl
  obtain ⟨u,hu,ru⟩:=rv.get hx
  rw [hv'] at hu
  cases hu
  cases ru
  exact wpAny_truthy_bool hQ
 ·refine ⟨.bl (bs.all id),H,I.kept (t':=tk) fun b o e=>hk b o (fun z=>?_) (Heap.get?_push_of_some _ e),?_,q⟩
  ·have z':b=s.heap.objs.size:=by simpa using z
   have l:=Heap.lt_size e
   rw [z'] at l
   exact Nat.lt_irrefl _ l
  ·show Value.bool _=Value.bool _
   rw [List.size_toArray,<-hl,zBP]
theorem oB {K:PySem.W.Frag} {H:Hp}:∀ {xs:List V} {ds:List D} {bs:List Bool},IsDs K H xs ds->mC ds=some bs->xs=bs.map V.bl
 | _,_,_,.nil,h=>by cases h;rfl
 | _,_,_,.cons (d:=d) (ds:=ds) r rs,h=>by
  cases d with
  | bl i=>
   rw [mC] at h
   cases z:mC ds with
   | none=>rw [z] at h;cases h
   | some ms=>
    rw [z] at h
    cases h
    rw [r.blI,oB rs z]
    rfl
  | _=>cases h
theorem zHG:pF X (zLb X.K) zHZ:=⟨fun a c z=>(by
  unfold zHZ at z
  split at z
  ·split at z<;>cases z
  ·cases z),fun Hi H vs ds d Q s r z q=>by
  unfold zHZ at z
  split at z
  ·split at z
   ·rename_i ns hns
    cases z
    obtain ⟨v,rfl,h⟩:=r.one
    obtain ⟨a,xs,rfl,h1,h2⟩:=h.lstI
    have e:=oB h2 hns
    subst e
    exact ⟨a,ns,rfl,bU s h1,q _ Hi H (Ext.refl s) (.bl _)⟩
   ·cases z
  ·cases z⟩
theorem zCm:bootBuiltins "all" = some (.builtin "all"):=by first | rfl | decide +kernel
def Its (x:Str):It:=⟨fun i _=>i < x.cps.size,fun i H v H'=>H'=H/\∃ c,x.cps[i]?=some c/\v=.str ⟨#[c]⟩,fun i _=>x.cps.size<=i⟩
theorem yI {P:Program} {w:World} {K:PySem.W.Frag} {tg:Expr} (it:Addr) (x:Str) (t:Tok) {ty:String} (hty:ty = "str_ascii_iterator" ∨ ty = "str_iterator"):Turn P w K tg (Its x) [it] it (fun i h=>h.IsStrIter it ty x t i) where
 mem:=by simp
 obj:=fun i h st b hb=>by
  have e:b=it:=by simpa using hb
  subst e
  obtain ⟨o,e,c,d⟩:=st
  exact ⟨o,e,fun v z=>by rw [d] at z;cases z⟩
 keep:=fun i h h' st k=>by
  obtain ⟨o,e,c,d⟩:=st
  exact ⟨o,k it (by simp) o e,c,d⟩
 item:=by
  intro X hP hw hK hc i pins s σ H E I hf st hg
  subst hP hw hK
  obtain ⟨f0,f1,f2,f3,f4,f5⟩:=hf it (by simp)
  have hx:x.cps[i]?=some x.cps[i]:=Array.getElem?_eq_getElem hg
  have next:∀ h',h'.IsStrIter it ty x t (i+1)->Heap.SameBut it s.heap h'->∃ u,some (Value.str ⟨#[x.cps[i]]⟩ s.toks)=some u/\
    wpAny (model X.prog X.w) X.A (letOwnedTupleGo tg (.ref it) u) (fun _ s2=>∃ y H',Inv X pins σ H' s2/\cI y u/\(Its x).yld i H y H'/\s2.heap.IsStrIter it ty x t (i+1)/\∀ b∈[it],H' b=none) E { s with heap:=h',toks:=s.toks+1 }:=by
   intro h' st' sb
   have I1:Inv X pins σ H { s with heap:=h',toks:=s.toks+1 }:=I.turned (t':=s.toks+1) (fun b o hb e=>(sb.2 b hb).trans e) f0 f1 f3 f4 f5
   obtain ⟨o,e,c,d⟩:=id st'
   exact ⟨_,rfl,zDY (s:={ s with heap:=h',toks:=s.toks+1 }) e c d (by rcases hty with rfl | rfl<;>decide) ⟨.str ⟨#[x.cps[i]]⟩,H,I1,⟨_,rfl⟩,⟨rfl,_,hx,rfl⟩,st',fun b hb=>(hf b hb).1⟩⟩
  rcases hty with rfl | rfl
  ·exact wpAny_pyNext_ascii_item st hx next
  ·exact wpAny_pyNext_wide_item st hx next
 done:=by
  intro X hP hw hK hc i pins s σ H E I hf st hg
  subst hP hw hK
  obtain ⟨f0,f1,f2,f3,f4,f5⟩:=hf it (by simp)
  have hx:x.cps[i]?=none:=Array.getElem?_eq_none hg
  rcases hty with rfl | rfl
  ·exact wpAny_pyNext_ascii_end (I.ok.hd hc) st hx fun h' eb=>⟨rfl,I.turned (t':=s.toks) (fun b o hb e=>eb b o hb e) f0 f1 f3 f4 f5⟩
  ·exact wpAny_pyNext_wide_end (I.ok.hd hc) st hx fun h' eb=>⟨rfl,I.turned (t':=s.toks) (fun b o hb e=>eb b o hb e) f0 f1 f3 f4 f5⟩
 self:=fun _ _ _ _ _ st h=>by
  rcases hty with rfl | rfl
  ·exact wpAny_pyIter_striter_ascii st h
  ·exact wpAny_pyIter_striter_wide st h
def zLL (tl:TE):TI:=fun σ H R=>tl σ H fun x H1=>∃ z,x=.str z/\R (Its z) H1
theorem zIk {tg l:Expr} {tl:TE} (hl:PE X l tl):PI X tg l (zLL tl):=by
 intro pins s σ H R I h
 refine thn (hl pins s σ H _ I h) fun v s1 ⟨x,H1,I1,r1,q1⟩=>?_
 obtain ⟨z,e,q⟩:=q1
 subst e
 obtain ⟨t,rfl⟩:=r1
 have done':∀ b∈[s1.heap.objs.size],vX X pins H1 b:=fun b hb=>by
  have e:b=s1.heap.objs.size:=by simpa using hb
  subst e
  exact I1.fpOk (Nat.le_refl _) (I1.hok.fresh (Nat.le_refl _))
 cases ha:z.cps.all (· < 128)
 ·exact wpAny_pyIter_wide ha ⟨s1.heap.objs.size,[s1.heap.objs.size],_,_,H1,rfl,I1.kept (t':=s1.toks) fun b o e=>Heap.get?_push_of_some _ e,yI _ z t (.inr rfl),⟨_,Heap.get?_push_size _ rfl,rfl,rfl⟩,done',q⟩
 ·exact wpAny_pyIter_ascii ha ⟨s1.heap.objs.size,[s1.heap.objs.size],_,_,H1,rfl,I1.kept (t':=s1.toks) fun b o e=>Heap.get?_push_of_some _ e,yI _ z t (.inl rfl),⟨_,Heap.get?_push_size _ rfl,rfl,rfl⟩,done',q⟩
theorem zCa {K:PySem.W.Frag} {Hi:Hp} (x:Str):Gives K Hi (Its x) (x.cps.toList.map fun c=>.str ⟨#[c]⟩):=fun Hi1 H1 s1 s2 i=>by
 refine ⟨fun hl=>by rw [List.length_map,Array.length_toList] at hl;exact hl,fun d hd=>?_⟩
 rw [List.getElem?_map] at hd
 cases hc:x.cps.toList[i]? with
 | none=>rw [hc] at hd;cases hd
 | some c=>
  rw [hc] at hd
  cases hd
  have hc':x.cps[i]?=some c:=by simpa using hc
  refine ⟨(Array.getElem?_eq_some_iff.mp hc').1,fun y H2 q=>?_⟩
  obtain ⟨e,c2,h2,h3⟩:=q
  subst e
  rw [hc'] at h2
  cases h2
  subst h3
  exact ⟨Hi1,Ext.refl s2,.str _⟩
theorem zJX {tg:Expr} (h:PEd X G e f):PId X G tg e (zKf f):=PI.wk (zIk h) fun σ H Q q=>by
 obtain ⟨ρ,Hi,R,ou⟩:=q
 refine lZ R ou fun v d Hi1 H1 e1 R1 r1 o1=>?_
 cases d with
 | str x=>exact ⟨x,r1.strI,o1.here R1.s _ (zCa x)⟩
 | _=>exact o1.elim
end
end L3
namespace L3
open PySem PySem.Spec PyProof.Rows L2
unseal PEd PEf PTd PWd PAd PSd bX POd PGd dH PId PSx eY PTs PCd PCf
section
variable {X:Cx} {G:Gx} {a b c e:Expr} {pos p2 p:Pos} {f g h:Ev} {fs:Fv} {x:Str}
theorem zY {bl:List Stmt}:bX X G bl sNo:=fun pins s σ H E I q=>by
 obtain ⟨ρ,Hi,R,ou⟩:=q
 exact ou.elim
def zIN (T:List (Str×Str)):List (Str×KTD.Dat):=T.map fun q=>(q.1,.flat (.str q.2))
structure IsTab (K:PySem.W.Frag) (mg:Str->Option Value) (x:Str) (T:List (Str×Str)) (a:Addr):Prop where
 mg:mg x=some (.ref a)
 tab:∀ h:Heap,K.In h->KTD.TextTab h a (zIN T)
theorem zAE (k:Str):∀ T:List (Str×Str),KTD.datumAt k (zIN T)=(T.lookup k).map fun y=>.flat (.str y)
 | []=>rfl
 | (x,y)::r=>by
  show (if decide (k=x)=true then some (KTD.Dat.flat (.str y)) else KTD.datumAt k (zIN r))=_
  rw [List.lookup_cons]
  by_cases hx:k=x
  ·rw [if_pos (decide_eq_true hx),show (k==x)=true from beq_iff_eq.mpr hx];rfl
  ·rw [if_neg (by simp [hx]),show (k==x)=false from beq_eq_false_iff_ne.mpr hx];exact zAE k r
theorem zGo (k:Str) (T:List (Str×Str)):KTD.inKeys k (zIN T)=(T.lookup k).isSome:=by
 rw [<-KTD.isSome_datumAt,zAE,Option.isSome_map]
theorem zIv {T:List (Str×Str)} {ad:Addr} (t:IsTab X.K X.mg x T ad) (hg:Gl X x) (hd:(x==("__debug__" : Str))=false:=by decide):PE X (.Name x p) (tC (.ref ad)):=zAY hg t.mg rfl hd
theorem zBo {T:List (Str×Str)} {ad:Addr} (t:IsTab X.K X.mg x T ad):OpR X (compareOp .NotIn) (fun v y H Q=>∃ k,v=.str k/\y=.ref ad/\Q (.bl (!(T.lookup k).isSome)) H):=by
 intro pins s σ H v y u w Q I rx ry h
 obtain ⟨k,rfl,rfl,q⟩:=h
 obtain ⟨tk,rfl⟩:=rx
 cases ry
 refine KTD.notin_text ⟨t.tab s.heap I.kIn,fun _ _ e=>e⟩ ?_
 rw [zGo]
 exact ⟨.bl _,H,I.tok _,rfl,q⟩
theorem unT {o:D->Res D} {r:R2} {y:V} (hr:∀ (Hi H:Hp) (v:V) (d:D) (Q:VK),IsD X.K Hi v d->Same Hi H->(∃ d',o d=.ok d'/\(∀ w Hi' H',Ext Hi H Hi' H'->IsD X.K Hi' w d'->Q w H'))->r v y H Q)
  (he:∀ d c,o d≠.err c):∀ σ H Q,tD X G (eUn o f) σ H Q->tOp r (tD X G f) (tC y) σ H Q:=fun σ H Q q=>by
 obtain ⟨ρ,Hi,R,ou⟩:=q
 refine lZ R ou fun v d Hi1 H1 e1 R1 r1 o1=>?_
 cases z:o d with
 | no=>rw [z] at o1;exact o1.elim
 | err c=>exact absurd z (he d c)
 | ok d'=>rw [z] at o1;exact hr Hi1 H1 v d Q r1 R1.s ⟨d',z,fun w Hi' H' e1 r1=>o1 Hi' H' e1 w r1⟩
theorem zHy {T:List (Str×Str)} {ad:Addr}:∀ σ H Q,tD X G (eUn (lR T) f) σ H Q->tOp (fun v y H Q=>∃ k,v=.str k/\y=.ref ad/\Q (.bl (!(T.lookup k).isSome)) H) (tD X G f) (tC (.ref ad)) σ H Q:=
 unT (fun Hi H v d Q r s h=>by
  obtain ⟨d',z,q⟩:=h
  unfold lR at z
  split at z
  ·cases z;exact ⟨_,r.strI,rfl,q _ Hi H (Ext.refl s) (.bl _)⟩
  ·cases z) fun d c z=>by unfold lR at z;split at z<;>cases z
theorem zHM {op:CmpOp} {o:D->Res D} {r:R2} {y:V} (hp:PT X (.Compare a [op] [b] pos) (zHu (tOp r (tD X G f) (tC y)))) (hu:∀ σ H Q,tD X G (eUn o f) σ H Q->tOp r (tD X G f) (tC y) σ H Q):PTd X G (.Compare a [op] [b] pos) (cM (eUn o f)):=
 PT.wk hp fun σ H Q q=>by
  obtain ⟨ρ,Hi,R,ou⟩:=q
  refine hu σ H _ ⟨ρ,Hi,R,ou.bind.imp fun d Hi' H' e o v r=>?_⟩
  cases d with
  | bl c=>rw [r.blI];exact ⟨c,rfl,o.here e.s⟩
  | _=>exact o.elim
theorem zDi {T:List (Str×Str)} {ad:Addr} (t:IsTab X.K X.mg x T ad) (hg:Gl X x) (ha:PEd X G a f) (hm:behindInMarks .NotIn (.Name x p)=false) (hd:(x==("__debug__" : Str))=false:=by decide):PTd X G (.Compare a [.NotIn] [.Name x p] pos) (cM (eUn (lR T) f)):=
 zHM (wP (zBo t) ha (zIv t hg hd) hm) zHy
end
end L3
namespace L3
open PySem PySem.Spec PyProof.Rows L2
unseal PEd PEf PTd PWd PAd PSd bX POd PGd dH PId PSx eY PTs PCd PCf
section
variable {prog:Program} {w:World} {A:Around} {R:Result->Shared->Prop} {I:Addr} {fp wr:List Addr} {n:Nat} {P:Nat->Value->Prop} {St:Nat->Heap->Prop} {kw:List (Str×Value)}
def zFn (R:Result->Shared->Prop) (wr:List Addr) (S:Addr) (s:Shared) (P:Value->Prop):Prop:=
 ∀ v h' tk,P v->(∀ b o,b∉wr->b≠S->s.heap.get? b=some o->h'.get? b=some o)->R (.ok (.ret v)) { s with heap:=h',toks:=tk }
def zKM (s:Shared) (S:Addr) (vs:Array Value) (c:Nat):Prop:=s.heap.get? S=some { cls:=.type "list", dict:=none,data:=.seq vs c,slots:=#[] }
theorem xL:(toString "max" ++ toString ".loop" : String) = "max.loop" := by decide
theorem zGh (W:Walks prog w A.in1 I fp wr n P St) (bt:Nat->Nat->Bool) (hcmp:CmpOf prog w A.in1 .Gt P bt) (S:Addr) (hSf:S∉fp):
  ∀ (k j:Nat) (s:Shared) (vb:Value) (c:Nat),n - (j+1)=k->j+1<=n->St (j+1) s.heap->P (argBest bt j) vb->zKM s S #[vb,vb] c->zFn R wr S s (P (argBest bt (n - 1)))->
  codeAny (model prog w) A (.builtin "max.loop" ⟨[.ref I,.none,.ref S],kw⟩) R s:=by
 have hSw:S∉wr:=fun h=>hSf (W.sub _ h)
 intro k
 induction k with
 | zero=>
  intro j s vb c hk hj hst hPb hS hR
  have hin:j+1=n:=by omega
  refine codeAny_builtin F.entry_max_loop ?_;rw [Around.under_plainId F.plain_max_loop _]
  refine wpAny_bind (wpAny_seqItems hS rfl ?_)
  refine wpAny_bind (m:=tryCatch (pyNext (.ref I)) _) (wpAny_tryCatch (W.done s _ _ (hin ▸ hst) fun h' tk hk'=>?_))
  have hS':=hk' S _ hSw hS
  refine wpAny_bind (m:=updateSeq S (fun _=>#[])) (wpAny_updateSeq hS' rfl (wpAny_bind (wpAny_letGo (wpAny_pure ?_))))
  exact hR vb _ tk (by rw [<-hin];exact hPb) fun b o hbw hbS e=>(Heap.get?_update_other _ _ (Ne.symm hbS)).trans (hk' b o hbw e)
 | succ k ih=>
  intro j s vb c hk hj hst hPb hS hR
  have hlt:j+1 < n:=by omega
  refine codeAny_builtin F.entry_max_loop ?_;rw [Around.under_plainId F.plain_max_loop _]
  refine wpAny_bind (wpAny_seqItems hS rfl ?_)
  refine wpAny_bind (m:=tryCatch (pyNext (.ref I)) _) (wpAny_tryCatch (W.item (j+1) s _ _ hlt hst fun v h' tk hP hst' hk'=>?_))
  have hS':=hk' S _ hSw hS
  refine wpAny_bind (m:=tryCatch (holding [v,v] (richCompare .Gt v vb >>= _)) _) (wpAny_tryCatch (wpAny_holding (wpAny_bind (hcmp (j+1) (argBest bt j) v vb _ _ _ hP hPb ?_))))
  refine wpAny_bind (wpAny_holding (wpAny_truthy_bool (wpAny_bind (wpAny_letGo (wpAny_pure ?_)))))
  cases hb:bt (j+1) (argBest bt j) with
  | true=>
   simp only [if_true]
   refine wpAny_bind ?_;refine wpAny_updateSeq hS' rfl (wpAny_bind (wpAny_letGo ?_));rw [xL]
   refine wpAny_pure ⟨plainId_quiet F.plain_max_loop _,ih (j+1) _ v _ (by omega) hlt (W.frame _ _ _ hst' fun b hbf o e=>(Heap.get?_update_other _ _ (fun h:S=b=>hSf (by rw [h];exact hbf))).trans e) (by simp only [argBest,hb,if_true];exact hP) (Heap.get?_update_self _ hS' rfl) fun v' h'' tk'' hP' hk''=>?_⟩
   exact hR v' h'' tk'' hP' fun b o hbw hbS e=>hk'' b o hbw hbS ((Heap.get?_update_other _ _ (Ne.symm hbS)).trans (hk' b o hbw e))
  | false=>
   simp only [Bool.false_eq_true,if_false]
   refine wpAny_bind (wpAny_letGo ?_);rw [xL]
   exact wpAny_pure ⟨plainId_quiet F.plain_max_loop _,ih (j+1) _ vb c (by omega) hlt hst' (by simp only [argBest,hb,Bool.false_eq_true,if_false];exact hPb) hS' fun v' h'' tk'' hP' hk''=>hR v' h'' tk'' hP' fun b o hbw hbS e=>hk'' b o hbw hbS (hk' b o hbw e)⟩
theorem zEh (W:Walks prog w A.in1 I fp wr n P St) (bt:Nat->Nat->Bool) (hcmp:CmpOf prog w A.in1 .Gt P bt) (S:Addr) (hSf:S∉fp) (hn:0 < n) {s:Shared} {c:Nat} (hst:St 0 s.heap) (hS:zKM s S #[] c) (hR:zFn R wr S s (P (argBest bt (n - 1)))):
  codeAny (model prog w) A (.builtin "max.loop" ⟨[.ref I,.none,.ref S],kw⟩) R s:=by
 have hSw:S∉wr:=fun h=>hSf (W.sub _ h)
 refine codeAny_builtin F.entry_max_loop ?_;rw [Around.under_plainId F.plain_max_loop _]
 refine wpAny_bind (wpAny_seqItems hS rfl ?_)
 refine wpAny_bind (m:=tryCatch (pyNext (.ref I)) _) (wpAny_tryCatch (W.item 0 s _ _ hn hst fun v h' tk hP hst' hk'=>?_))
 have hS':=hk' S _ hSw hS
 refine wpAny_bind (m:=updateSeq S (fun _=>#[v,v])) (wpAny_updateSeq hS' rfl ?_);rw [xL]
 refine wpAny_pure ⟨plainId_quiet F.plain_max_loop _,zGh W bt hcmp S hSf _ 0 _ v _ rfl hn (W.frame _ _ _ hst' fun b hbf o e=>(Heap.get?_update_other _ _ (fun h:S=b=>hSf (by rw [h];exact hbf))).trans e) hP (Heap.get?_update_self _ hS' rfl) fun v' h'' tk'' hP' hk''=>?_⟩
 exact hR v' h'' tk'' hP' fun b o hbw hbS e=>hk'' b o hbw hbS ((Heap.get?_update_other _ _ (Ne.symm hbS)).trans (hk' b o hbw e))
theorem zGw {x:Str} {d:Value} (W:Walks prog w A.in1 I fp wr 0 P St) (S:Addr) (hSf:S∉fp) {s:Shared} {c:Nat} (hst:St 0 s.heap) (hS:zKM s S #[] c) (hR:zFn R wr S s (·=d)):
  codeAny (model prog w) A (.builtin "max.loop" ⟨[.ref I,.none,.ref S],[(x,d)]⟩) R s:=by
 refine codeAny_builtin F.entry_max_loop ?_;rw [Around.under_plainId F.plain_max_loop _]
 refine wpAny_bind (wpAny_seqItems hS rfl ?_)
 refine wpAny_bind (m:=tryCatch (pyNext (.ref I)) _) (wpAny_tryCatch (W.done s _ _ hst fun h' tk hk'=>?_))
 exact wpAny_bind (wpAny_rule (wpAny_pure (hR d h' tk rfl fun b o hbw _ e=>hk' b o hbw e)))
end
section
variable {X:Cx} {G:Gx} {a c:Expr} {pos p kp:Pos} {f g:Ev}
theorem zCS (num:Nat->Int):∀ k,num (argBest (fun i j=>decide (num i > num j)) k)=qY (num 0) ((List.range k).map fun i=>num (i+1))
 | 0=>rfl
 | k+1=>by
  rw [List.range_succ,List.map_append]
  have app:∀ (l:List Int) (a b:Int),qY a (l++[b])=if b > qY a l then b else qY a l:=by
   intro l
   induction l with
   | nil=>intro a b;rfl
   | cons x r ih=>intro a b;rw [List.cons_append,qY,ih,qY]
  rw [List.map_singleton,app,<-zCS num k]
  show num (if decide (num (k+1) > num (argBest _ k))=true then k+1 else argBest _ k)=_
  by_cases h:num (k+1) > num (argBest (fun i j=>decide (num i > num j)) k)
  ·rw [if_pos (decide_eq_true h),if_pos h]
  ·rw [if_neg (by simp [h]),if_neg h]
theorem wL (m:Int) (ns:List Int):(m::ns).getD (argBest (fun i j=>decide ((m::ns).getD i 0 > (m::ns).getD j 0)) ns.length) 0=qY m ns:=by
 rw [zCS (fun i=>(m::ns).getD i 0) ns.length]
 show qY m _=_
 congr 1
 refine List.ext_getElem? fun i=>?_
 rw [List.getElem?_map]
 by_cases h:i < ns.length
 ·rw [List.getElem?_range h,List.getElem?_eq_getElem h]
  show some ((m::ns).getD (i+1) 0)=_
  rw [List.getD_cons_succ,List.getD_eq_getElem?_getD,List.getElem?_eq_getElem h];rfl
 ·rw [List.getElem?_eq_none (by rw [List.length_range];omega),List.getElem?_eq_none (by omega)];rfl
def zLh (d:Int):List Int->Int
 | []=>d
 | m::r=>qY m r
def zIO (K:PySem.W.Frag):R2:=fun x y H Q=>∃ (ad:Addr) (d:Int) (ns:List Int),x=.ref ad/\y=.int d/\SqL K H ad (ns.map V.int)/\Q (.int (zLh d ns)) H
theorem zBx (x v:Value):argsOk "max" ⟨[x],[(Str.ofString "default", v)]⟩:=by unfold argsOk;kernel_rfl
theorem zBU (hc:X.calm=true) {pins:List (Addr×Obj)} {s:Shared} {σ:St} {H:Hp} {ad:Addr} {d:Int} {t:Tok} {ns:List Int} {Q:VK} (I:Inv X pins σ H s) (hq:SqL X.K H ad (ns.map V.int)) (q:Q (.int (zLh d ns)) H):
  wpAny (model X.prog X.w) X.A (call (.builtin "max") [.ref ad] [(Str.ofString "default", .int d t)]) (EP X pins σ Q) X.xe s:=by
 have hh:=I.ok.hd hc
 obtain ⟨its,rv,p,hz⟩:=I.list hq
 have hlt:ad < s.heap.objs.size:=by obtain ⟨_,e,_⟩:=p.isList;exact Heap.lt_size e
 have hl:=rv.length
 rw [List.length_map] at hl
 refine kmk_tree F.kind_max F.plain_max F.entry_max (zBx _ _) ?_
 refine wpAny_bind (m:=Builtin.Builtins.bindParams "max" ["key", "default"] 0 ⟨[],[(Str.ofString "default", .int d t)]⟩) (wpAny_of_eq (a:=[none,some (.int d t)]) (by first | rfl | kernel_rfl) ?_)
 refine wpAny_bind (wpAny_pure ?_)
 refine wpAny_bind (wpAny_pyIter_list p.isList ?_)
 refine wpAny_bind (wpAny_newObj_type ?_)
 rw [xL]
 refine wpAny_pure ⟨plainId_quiet F.plain_max_loop _,?_⟩
 have W:=Walks.list (prog:=X.prog) (w:=X.w) (A:=X.A.in1) hh s.heap.objs.size ad (Nat.ne_of_lt hlt) its.toArray
 have hSf:(s.heap.push { cls:=.type "list_iterator", data:=.fields #[.ref ad,.int 0 0] }).objs.size∉[s.heap.objs.size,ad]:=by
  rw [Heap.size_push]
  intro z
  rcases List.mem_cons.mp z with z | z
  ·exact Nat.succ_ne_self _ z
  ·exact Nat.lt_irrefl _ (Nat.lt_of_le_of_lt (Nat.le_of_eq (List.mem_singleton.mp z)) (Nat.lt_succ_of_lt hlt))
 have keep:∀ {h':Heap} {b:Addr} {o:Obj},(∀ b o,b∉[s.heap.objs.size]->b≠(s.heap.push { cls:=.type "list_iterator", data:=.fields #[.ref ad,.int 0 0] }).objs.size->((s.heap.push { cls:=.type "list_iterator", data:=.fields #[.ref ad,.int 0 0] }).push { cls:=.type "list", data:=.seq #[] }).get? b=some o->h'.get? b=some o)->s.heap.get? b=some o->h'.get? b=some o:=fun {h' b o} hk e=>by
  have l:=Heap.lt_size e
  refine hk b o (fun z=>?_) (fun z=>?_) (Heap.get?_push_of_some _ (Heap.get?_push_of_some _ e))
  ·rw [List.mem_singleton.mp z] at l;exact Nat.lt_irrefl _ l
  ·rw [z,Heap.size_push] at l;exact Nat.lt_irrefl _ (Nat.lt_of_succ_lt l)
 have hst:((s.heap.push { cls:=.type "list_iterator", data:=.fields #[.ref ad,.int 0 0] }).push { cls:=.type "list", data:=.seq #[] }).IsListIter s.heap.objs.size ad 0/\((s.heap.push { cls:=.type "list_iterator", data:=.fields #[.ref ad,.int 0 0] }).push { cls:=.type "list", data:=.seq #[] }).IsList ad its.toArray:=
  ⟨⟨_,Heap.get?_push_of_some _ (Heap.get?_push_size _ rfl),rfl,rfl⟩,(p.isList.push _).push _⟩
 cases ns with
 | nil=>
  have e0:its=[]:=List.eq_nil_of_length_eq_zero (by rw [<-hl];rfl)
  subst e0
  exact zGw W _ hSf hst (Heap.get?_push_size _ rfl) fun v h' tk hv hk=>⟨.int d,H,I.kept (t':=tk) fun b o e=>keep hk e,⟨t,hv⟩,q⟩
 | cons m r=>
  refine zEh W (fun i j=>decide ((m::r).getD i 0 > (m::r).getD j 0)) (CmpOf.ints_gt _ fun i v hv=>qW rv (by simpa using hv)) _ hSf (by rw [List.size_toArray,<-hl];exact Nat.succ_pos _) hst (Heap.get?_push_size _ rfl) fun v h' tk hv hk=>?_
  obtain ⟨t',rfl⟩:=qW rv (i:=argBest (fun i j=>decide ((m::r).getD i 0 > (m::r).getD j 0)) (its.toArray.size - 1)) (by simpa using hv)
  refine ⟨.int (qY m r),H,I.kept (t':=tk) fun b o e=>keep hk e,⟨t',?_⟩,q⟩
  rw [List.size_toArray,<-hl,List.length_cons,Nat.add_sub_cancel,wL]
theorem zGU {ta tb:TE} (hc:X.calm=true) (hg:Gl X "max") (hm:X.mg "max" = none) (ha:PE X a ta) (hb:PE X c tb) (hs:starEach [a] X.env=(false,eval a X.env)::starEach [] X.env:=by rfl):
  PE X (.Call (.Name "max" p) [a] [⟨some "default", c,kp⟩] pos) (tOp (zIO X.K) ta tb):=by
 intro pins s σ H Q I h
 refine wpAny_Call_Name_kw (oV I hg hm boot_max ?_ (by decide) (by decide))
 refine callWith_kw (thn ((cT ha gK hs) pos pins s σ H (fun vs H1=>match vs with | [x]=>tb σ H1 fun y H2=>zIO X.K x y H2 Q | _=>False) I h) fun us s1 ⟨vs,H1,I1,r1,q1⟩=>?_) (by rw [hs];rfl) (by rw [hs];rfl)
 match vs,r1,q1 with
 | [x],r1,q1=>
  obtain ⟨u,rfl,ru⟩:=wV r1
  refine kws_cons (thn (hb pins s1 σ H1 _ I1 q1) fun v s2 ⟨y,H2,I2,r2,q2⟩=>kws_nil ?_)
  obtain ⟨ad,d,ns,rfl,rfl,hq,q⟩:=q2
  cases ru
  obtain ⟨t,rfl⟩:=r2
  exact zBU hc I2 hq q
theorem zGc (hc:X.calm=true) (hg:Gl X "max") (hm:X.mg "max" = none) (ha:PEd X G a f) (hb:PEd X G c g) (hs:starEach [a] X.env=(false,eval a X.env)::starEach [] X.env:=by rfl):
  PEd X G (.Call (.Name "max" p) [a] [⟨some "default", c,kp⟩] pos) (eOp (fun x y=>wS [x,y]) f g):=PE.wk (zGU hc hg hm ha hb hs) (op2 ⟨fun a b c z=>(by
  replace z:wS [a,b]=_:=z
  unfold wS at z
  split at z
  ·split at z<;>cases z
  ·cases z),fun Hi H x y a b d Q s r1 r2 z q=>by
  replace z:wS [a,b]=_:=z
  unfold wS at z
  split at z
  ·rename_i ds d' he
   cases he
   obtain ⟨ad,xs,rfl,h1,h2⟩:=r1.lstI
   split at z
   ·rename_i m ns hns
    cases z
    have e:=gE h2 hns
    subst e
    exact ⟨ad,_,_,rfl,r2.intI,bU s h1,q _ Hi H (Ext.refl s) (.int _)⟩
   ·rename_i hns
    cases z
    have e:=gE h2 hns
    subst e
    exact ⟨ad,_,[],rfl,r2.intI,bU s h1,q _ Hi H (Ext.refl s) (.int _)⟩
   ·cases z
  ·cases z⟩)
end
end L3
namespace L3
open PySem PySem.Spec PyProof.Rows L2
unseal PEd PEf PTd PWd PAd PSd bX POd PGd dH PId PSx eY PTs PCd PCf
section
variable {X:Cx} {G:Gx} {e:Expr} {pos:Pos} {f:Ev}
end
end L3
namespace L2
open PySem PySem.Spec PyProof.Rows
section
variable {κ:Type} [DecidableEq κ]
end
abbrev KT (H:Hp):List (List Key×V)->List (List Key×Addr×Value)->Prop:=Paired fun p q=>p.1=q.1/\H q.2.1=some (.tup (p.1.map kV))/\cI p.2 q.2.2
section
variable {P:Program} {w:World} {H:Hp} {h:Heap} {a:Addr}
end
section
variable {X:Cx} {pins:List (Addr×Obj)} {σ:St} {H:Hp} {s:Shared} {a:Addr} {y v:V} {u r:Value} {o:Option V} {A:Around} {E:Value->Shared->Prop}
end
section
variable {X:Cx} {pins:List (Addr×Obj)} {σ:St} {H:Hp} {s:Shared} {a:Addr} {kvs:List (Key×V)} {k:Key} {u:Value} {A:Around} {E:Value->Shared->Prop}
end
section
variable {X:Cx} {o i e value:Expr} {pos pos' tpos:Pos} {td ty tv:TE}
end
section
variable {X:Cx} {pos:Pos}
end
end L2
namespace L3
open PySem PySem.Spec PyProof.Rows L2
unseal PEd PEf PTd PWd PAd PSd bX POd PGd dH PId PSx eY PTs PCd PCf
section
variable {X:Cx} {G:Gx} {a b c e:Expr} {pos p2 p:Pos} {f g h:Ev} {fs:Fv} {x:Str}
theorem Rel.setS {K:PySem.W.Frag} {mg:Str->Option Value} {B Bi Hi H:Hp} {σ:St} {ρ:Rho} {i:Nat} {v:V} {s:Sl} (R:Rel K mg B Bi Hi H σ ρ) (h:uR K mg B Hi H (some (some v)) s) (hs:∀ ds,s≠.own ds):
  Rel K mg B Bi Hi H (σ.set i (some v)) (ρ.set i s) where
 len:=by rw [List.length_set,List.length_set];exact R.len
 ext:=R.ext
 slot:=fun j t q=>by
  by_cases e:i=j
  ·subst e
   by_cases hl:i < ρ.length
   ·rw [List.getElem?_set_self hl] at q;cases q
    rw [List.getElem?_set_self (by rw [R.len];exact hl)];exact h
   ·rw [List.getElem?_eq_none (by rw [List.length_set];omega)] at q;cases q
  ·rw [List.getElem?_set_ne e] at q ⊢
   exact R.slot j t q
 dist:=fun j k a ds es q1 q2 q3 q4=>by
  have h1:∀ {j:Nat} {ds:List D},(ρ.set i s)[j]?=some (.own ds)->i≠j:=fun {j ds} q e=>by
   subst e
   by_cases hl:i < ρ.length
   ·rw [List.getElem?_set_self hl] at q;exact hs ds (Option.some.inj q)
   ·rw [List.getElem?_eq_none (by rw [List.length_set];omega)] at q;cases q
  have n1:=h1 q1
  have n2:=h1 q2
  rw [List.getElem?_set_ne n1] at q1 q3
  rw [List.getElem?_set_ne n2] at q2 q4
  exact R.dist j k a ds es q1 q2 q3 q4
end
end L3
namespace L3
open PySem PySem.Spec PyProof.Rows L2
def itN (k:Bool):String:=if k then "list_iterator" else "tuple_iterator"
def qI (k:Bool) (h:Heap) (it l:Addr) (i:Nat):Prop:=if k then h.IsListIter it l i else h.IsTupleIter it l i
def mL (k:Bool) (h:Heap) (l:Addr) (xs:Array Value):Prop:=if k then h.IsList l xs else h.IsTuple l xs
theorem qI.get {k:Bool} {h:Heap} {it l:Addr} {i:Nat} (x:qI k h it l i):∃ o,h.get? it=some o/\o.cls=.type (itN k)/\o.data=.fields #[.ref l,.int i 0]:=by
 cases k<;>(obtain ⟨o,a,b,c⟩:=x;exact ⟨o,a,b,c⟩)
theorem qI.mk {k:Bool} {h:Heap} {it l:Addr} {i:Nat} {o:Obj} (a:h.get? it=some o) (b:o.cls=.type (itN k)) (c:o.data=.fields #[.ref l,.int i 0]):qI k h it l i:=by
 cases k<;>exact ⟨o,a,b,c⟩
theorem qI.go {k:Bool} {h h':Heap} {it l:Addr} {i:Nat} (x:qI k h it l i) (g:∀ o,h.get? it=some o->h'.get? it=some o):qI k h' it l i:=by
 obtain ⟨o,a,b,c⟩:=x.get
 exact .mk (g o a) b c
theorem mL.go {k:Bool} {h h':Heap} {l:Addr} {xs:Array Value} (x:mL k h l xs) (g:∀ o,h.get? l=some o->h'.get? l=some o):mL k h' l xs:=by
 cases k<;>(obtain ⟨o,a,b⟩:=x;exact ⟨o,g o a,b⟩)
section
variable {prog:Program} {w:World} {A:Around} {E:Value->Shared->Prop} {s:Shared}
theorem sM {k:Bool} {l:Addr} {xs:Array Value} {Q:Value->Shared->Prop} (hl:mL k s.heap l xs) (hQ:Q (.ref s.heap.objs.size) { s with heap:=s.heap.push { cls:=.type (itN k),data:=.fields #[.ref l,.int 0 0] } }):
  wpAny (model prog w) A (pyIter (.ref l)) Q E s:=by
 cases k
 ·exact wpAny_pyIter_tuple hl hQ
 ·exact wpAny_pyIter_list hl hQ
theorem nxT {it t:Addr} {i:Nat} {items:Array Value} {Q:Value->Shared->Prop} (hh:A.handled=none∨(items[i]?).isSome=true) (x:s.heap.IsTupleIter it t i) (y:s.heap.IsTuple t items)
  (go:∀ v,items[i]?=some v->∀ h2,h2.IsTupleIter it t (i+1)->Heap.SameBut it s.heap h2->Q v { s with heap:=h2 })
  (stop:items[i]?=none->∀ h2 e,Heap.ExtBut it s.heap h2->(∃ ob,h2.get? e=some ob/\ob.cls=.type "StopIteration")->E (.ref e) { s with heap:=h2 }):wpAny (model prog w) A (Builtin.SmallTypes.nextOf (.ref it)) Q E s:=by
 obtain ⟨oi,ei,ci,di⟩:=id x
 obtain ⟨ot,et,_,nt,dt⟩:=y
 have nn:¬ ((Value.ref t==Value.none)=true):=Bool.false_ne_true
 unfold Builtin.SmallTypes.nextOf
 refine wpAny_bind (wpAny_callSpecial?_slot (name:=Str.ofString "__next__") x.typeIs F.slot_tuple_iterator_next (wpAny_call_entry F.slot_tuple_iterator_next x.typeIs F.entry_tuple_iterator_next (show wpAny _ _ (field _ 0 >>= _) _ _ s from wpAny_bind (wpAny_field ei di (x:=.ref t) rfl ?_)) (F.args_tuple_iterator_next_1 _)))
 show wpAny _ _ (ite ((Value.ref t==Value.none)=true) _ _) _ _ s
 rw [if_neg nn]
 refine show wpAny _ _ (field _ 1 >>= _) _ _ s from wpAny_bind (wpAny_field ei di (x:=.int i 0) rfl (show wpAny _ _ (seqItems? _ >>= _) _ _ s from wpAny_bind (wpAny_seqItems et dt ?_)))
 have fr:∀ g:Array Value->Array Value,Heap.get? (s.heap.update it (Obj.mapFields g)) it=some (Obj.mapFields g oi):=fun g=>Heap.get?_update_self _ ei (Obj.isFreed_of_fields (Obj.data_mapFields di g))
 cases q:items[i]? with
 | some v=>
  simp only [Int.toNat_natCast,q]
  refine wpAny_bind (wpAny_setField ei di (by simp) (wpAny_pure ⟨v,rfl,wpAny_pure (go v q _ ⟨_,fr _,(Obj.cls_mapFields ..).trans ci,?_⟩ (Heap.SameBut.update ..))⟩))
  rw [Obj.data_mapFields di]
  simp [rawInt]
 | none=>
  have hh:A.handled=none:=hh.elim id fun z=>by rw [q] at z;cases z
  simp only [Int.toNat_natCast,q]
  refine wpAny_bind (wpAny_rule (wpAny_bind (wpAny_setField ei di (by simp) (show wpAny _ _ (newExc _ [] >>= _) _ _ _ from wpAny_bind ?_))))
  simp only [newExc,newTuple]
  refine wpAny_bind (wpAny_newObj_type (wpAny_bind (m:=firstArgMember _ _) (wpAny_of_eq (a:=Value.none) (by first | rfl | (simp only [firstArgMember];rfl)) (wpAny_newObj_type ?_ (by size_fits)))) (by size_fits))
  simp only [raiseNew]
  refine wpAny_bind (wpAny_handled ?_)
  rw [show A.in1.handled=none from hh]
  exact wpAny_bind (wpAny_pure (wpAny_throw (stop q _ _ (((Heap.SameBut.update ..).extBut.push _).push _) ⟨_,Heap.get?_push_size _ rfl,rfl⟩)))
theorem wT {k:Bool} {it t:Addr} {i:Nat} {items:Array Value} {x:Value} {Q:Value->Shared->Prop} (hit:qI k s.heap it t i) (ht:mL k s.heap t items) (hx:items[i]?=some x)
  (hQ:∀ h',qI k h' it t (i+1)->Heap.SameBut it s.heap h'->Q x { s with heap:=h' }):wpAny (model prog w) A (Builtin.SmallTypes.nextOf (.ref it)) Q E s:=by
 cases k
 ·exact nxT (.inr (by rw [hx];rfl)) hit ht (fun v q h2 g1 g2=>by rw [hx] at q;cases q;exact hQ h2 g1 g2) fun q=>by rw [hx] at q;cases q
 ·exact wpAny_nextOf_list_item hit ht hx hQ
theorem xV {k:Bool} {it t:Addr} {i:Nat} {items:Array Value} {Q:Value->Shared->Prop} (hh:A.handled=none) (hit:qI k s.heap it t i) (ht:mL k s.heap t items) (hx:items[i]?=none)
  (hE:∀ h' e,Heap.ExtBut it s.heap h'->(∃ o,h'.get? e=some o/\o.cls=.type "StopIteration")->E (.ref e) { s with heap:=h' }):wpAny (model prog w) A (Builtin.SmallTypes.nextOf (.ref it)) Q E s:=by
 cases k
 ·exact nxT (.inl hh) hit ht (fun v q=>by rw [hx] at q;cases q) fun _=>hE
 ·exact wpAny_nextOf_list_end hh hit ht hx hE
theorem zIZ {k:Bool} (hh:A.handled=none) (it l:Addr) (hne:l≠it) (items:Array Value):Draws prog w A it [it,l] items.size (fun i v=>items[i]?=some v) (fun i h=>qI k h it l i/\mL k h l items) where
 live:=fun _ _ st=>let ⟨o,ho,_⟩:=st.1.get;⟨o,ho⟩
 frame:=fun _ _ _ st hk=>⟨st.1.go fun o e=>hk it (by simp) o e,st.2.go fun o e=>hk l (by simp) o e⟩
 item:=fun i s Q E hi st hQ=>by
  refine wT st.1 st.2 (x:=items[i]) (by simp [hi]) fun h' hit' hs'=>?_
  exact hQ _ h' s.toks (by simp [hi]) ⟨hit',st.2.go fun o e=>hs'.extBut _ o hne e⟩ hs'
 done:=fun s Q E st hE=>xV hh st.1 st.2 (by simp) hE
def qD (f0:Value) (k1 k2:Bool) (l1 l2 n:Addr) (j1 j2:Nat) (h:Heap):Prop:=
 IsZip h (n+4) (n+2) (n+3) f0/\IsPair h (n+2) (.ref n) (.ref (n+1))/\(∃ a b,IsPair h (n+3) a b)/\qI k1 h n l1 j1/\qI k2 h (n+1) l2 j2
def jK (n:Addr) (h h2:Heap):Prop:=∀ c o,c≠n+4->c≠n+3->c≠n->c≠n+1->h.get? c=some o->h2.get? c=some o
theorem jK.then {n:Addr} {h h1 h2:Heap} (a:jK n h h1) (b:jK n h1 h2):jK n h h2:=fun c o c1 c2 c3 c4 e=>b c o c1 c2 c3 c4 (a c o c1 c2 c3 c4 e)
theorem jK.eb {n a:Addr} {h h2:Heap} (k:Heap.ExtBut a h h2) (m:a=n+4∨a=n+3∨a=n∨a=n+1):jK n h h2:=fun c o c1 c2 c3 c4 e=>k c o (fun z=>by subst z;rcases m with m | m | m | m<;>contradiction) e
theorem jK.sq {k:Bool} {n l:Addr} {h h2:Heap} {xs:Array Value} (a:jK n h h2) (hl:l < n) (x:mL k h l xs):mL k h2 l xs:=
 x.go fun o e=>a l o (Nat.ne_of_lt (Nat.lt_add_right 4 hl)) (Nat.ne_of_lt (Nat.lt_add_right 3 hl)) (Nat.ne_of_lt hl) (Nat.ne_of_lt (Nat.lt_succ_of_lt hl)) e
theorem zDt (n:Addr):n+3≠n+4/\n+2≠n+4/\n≠n+4/\n+1≠n+4/\n+2≠n+3/\n≠n+3/\n+1≠n+3/\n+2≠n/\n+1≠n/\n+2≠n+1:=by
 refine ⟨?_,?_,?_,?_,?_,?_,?_,?_,?_,?_⟩<;>(intro z;have z':(_:Nat)=_:=z;omega)
theorem qD.fld {f0:Value} {k1 k2:Bool} {l1 l2 n:Addr} {j1 j2:Nat} {h h2:Heap} (g:qD f0 k1 k2 l1 l2 n j1 j2 h) {f1:Value} (z:IsZip h2 (n+4) (n+2) (n+3) f1) (s:Heap.ExtBut (n+4) h h2):qD f1 k1 k2 l1 l2 n j1 j2 h2:=by
 obtain ⟨_,g2,⟨a,b,g3⟩,g4,g5⟩:=g
 obtain ⟨e1,e2,e3,e4,_⟩:=zDt n
 exact ⟨z,s _ _ e2 g2,⟨a,b,s _ _ e1 g3⟩,g4.go fun o e=>s _ o e3 e,g5.go fun o e=>s _ o e4 e⟩
theorem qD.it1 {f0:Value} {k1 k2:Bool} {l1 l2 n:Addr} {j1 j2 m:Nat} {h h2:Heap} (g:qD f0 k1 k2 l1 l2 n j1 j2 h) (z:qI k1 h2 n l1 m) (s:Heap.ExtBut n h h2):qD f0 k1 k2 l1 l2 n m j2 h2:=by
 obtain ⟨g1,g2,⟨a,b,g3⟩,_,g5⟩:=g
 obtain ⟨e1,e2,e3,e4,e5,e6,e7,e8,e9,_⟩:=zDt n
 exact ⟨s _ _ e3.symm g1,s _ _ e8 g2,⟨a,b,s _ _ e6.symm g3⟩,z,g5.go fun o e=>s _ o e9 e⟩
theorem qD.it2 {f0:Value} {k1 k2:Bool} {l1 l2 n:Addr} {j1 j2 m:Nat} {h h2:Heap} (g:qD f0 k1 k2 l1 l2 n j1 j2 h) (z:qI k2 h2 (n+1) l2 m) (s:Heap.ExtBut (n+1) h h2):qD f0 k1 k2 l1 l2 n j1 m h2:=by
 obtain ⟨g1,g2,⟨a,b,g3⟩,g4,_⟩:=g
 obtain ⟨e1,e2,e3,e4,e5,e6,e7,e8,e9,e10⟩:=zDt n
 exact ⟨s _ _ e4.symm g1,s _ _ e10 g2,⟨a,b,s _ _ e7.symm g3⟩,g4.go fun o e=>s _ o e9.symm e,z⟩
theorem qD.out {f0 a b:Value} {k1 k2:Bool} {l1 l2 n:Addr} {j1 j2:Nat} {h h2:Heap} (g:qD f0 k1 k2 l1 l2 n j1 j2 h) (z:IsPair h2 (n+3) a b) (s:Heap.ExtBut (n+3) h h2):qD f0 k1 k2 l1 l2 n j1 j2 h2:=by
 obtain ⟨g1,g2,_,g4,g5⟩:=g
 obtain ⟨e1,e2,e3,e4,e5,e6,e7,_⟩:=zDt n
 exact ⟨s _ _ e1.symm g1,s _ _ e5 g2,⟨a,b,z⟩,g4.go fun o e=>s _ o e6 e,g5.go fun o e=>s _ o e7 e⟩
theorem zLC {k1 k2:Bool} {n l1 l2:Addr} {j:Nat} {xs ys:Array Value} {Q:PySem.Fin->Shared->Prop} (hh:A.handled=none) (b1:l1 < n) (b2:l2 < n) (g:qD .none k1 k2 l1 l2 n j j s.heap) (d1:mL k1 s.heap l1 xs) (d2:mL k2 s.heap l2 ys)
  (go:∀ x y,xs[j]?=some x->ys[j]?=some y->∀ h2,qD (rawInt s.heap.objs.size) k1 k2 l1 l2 n (j+1) (j+1) h2->IsPair h2 s.heap.objs.size x y->jK n s.heap h2->Q (.done (.ret (.ref s.heap.objs.size))) { s with heap:=h2 })
  (stop:xs[j]?=none∨ys[j]?=none->∀ h2 e,jK n s.heap h2->(∃ o,h2.get? e=some o/\o.cls=.type "StopIteration")->E (.ref e) { s with heap:=h2 }):
  wpAny (model prog w) A (Builtin.«zip.__next__» ⟨[.ref (n+4)],[]⟩) Q E s:=by
 have stopZ:∀ {h1:Heap} {e:Addr} {v:Value} {k:Nat} {R:Unit->Shared->Prop},(xs[j]?=none∨ys[j]?=none)->jK n s.heap h1->IsZip h1 (n+4) (n+2) (n+3) .ellipsis->(∃ o,h1.get? e=some o/\o.cls=.type "StopIteration")->k < 5->
   (∀ h3,jK n s.heap h3->(∃ o,h3.get? e=some o/\o.cls=.type "StopIteration")->R () { s with heap:=h3 })->wpAny (model prog w) A (setField (.ref (n+4)) k v) R E { s with heap:=h1 }:=by
  intro h1 e v k R q kz z he hk fin
  obtain ⟨oe,e1,e2⟩:=he
  have nz:e≠n+4:=fun y=>by subst y;rw [z] at e1;cases e1;simp at e2
  exact wpAny_setField_rec z (by simpa using hk) fun h3 _ s3=>fin h3 (kz.then (.eb s3.extBut (.inl rfl))) ⟨oe,s3.extBut _ _ nz e1,e2⟩
 obtain ⟨z0,t0,⟨a,b,p0⟩,_⟩:=id g
 refine show wpAny _ _ (field _ 2 >>= _) _ _ s from wpAny_bind (wpAny_field z0 rfl (x:=.bool false) rfl (show wpAny _ _ (field _ 3 >>= _) _ _ s from wpAny_bind (wpAny_field z0 rfl (x:=.ref (n+2)) rfl (wpAny_bind (wpAny_seqItems t0 rfl (wpAny_bind ?_))))))
 unfold Builtin.SmallTypes.ownedTupleIsFree
 refine wpAny_bind (wpAny_field z0 rfl (x:=.none) rfl (wpAny_pure ?_))
 simp only [if_true]
 refine wpAny_bind (wpAny_rule (wpAny_bind (wpAny_field z0 rfl (x:=.ref (n+3)) rfl (wpAny_bind (wpAny_setField_rec z0 (by simp) fun h1 z1 s1=>wpAny_bind ?_)))))
 have g1:qD .ellipsis k1 k2 l1 l2 n j j h1:=g.fld z1 s1.extBut
 have k1':jK n s.heap h1:=.eb s1.extBut (.inl rfl)
 simp only [List.zipIdx_cons,List.zipIdx_nil,List.forIn_cons,List.forIn_nil]
 refine wpAny_bind (wpAny_bind (wpAny_onRaise (show wpAny _ _ (Builtin.SmallTypes.nextOf _ >>= _) _ _ _ from wpAny_bind ?_)))
 cases q1:xs[j]? with
 | none=>
  refine xV (s:={ s with heap:=h1 }) hh g1.2.2.2.1 (k1'.sq b1 d1) q1 fun h2 e x2 he=>stopZ (.inl q1) (k1'.then (.eb x2 (.inr (.inr (.inl rfl))))) (x2 _ _ (zDt n).2.2.1.symm g1.1) he (by decide) fun h3=>stop (.inl q1) h3 e
 | some x=>
  refine wT (s:={ s with heap:=h1 }) g1.2.2.2.1 (k1'.sq b1 d1) q1 fun h2 i2 s2=>wpAny_pure ?_
  have g2:=g1.it1 i2 s2.extBut
  have k2':=k1'.then (.eb s2.extBut (.inr (.inr (.inl rfl))))
  have p2:IsPair h2 (n+3) a b:=s2.extBut _ _ (zDt n).2.2.2.2.2.1.symm (s1.extBut _ _ (zDt n).1 p0)
  refine wpAny_bind (wpAny_seqItems (s:={ s with heap:=h2 }) p2 rfl (wpAny_bind (wpAny_updateSeq_pair p2 fun h3 p3 s3=>wpAny_bind (wpAny_letGo (wpAny_pure ?_)))))
  have g3:=g2.out p3 s3.extBut
  have k3':=k2'.then (.eb s3.extBut (.inr (.inl rfl)))
  refine wpAny_bind (wpAny_bind (wpAny_onRaise (show wpAny _ _ (Builtin.SmallTypes.nextOf _ >>= _) _ _ _ from wpAny_bind ?_)))
  cases q2:ys[j]? with
  | none=>
   refine xV (s:={ s with heap:=h3 }) hh g3.2.2.2.2 (k3'.sq b2 d2) q2 fun h4 e x4 he=>stopZ (.inr q2) (k3'.then (.eb x4 (.inr (.inr (.inr rfl))))) (x4 _ _ (zDt n).2.2.2.1.symm g3.1) he (by decide) fun h5=>stop (.inr q2) h5 e
  | some y=>
   refine wT (s:={ s with heap:=h3 }) g3.2.2.2.2 (k3'.sq b2 d2) q2 fun h4 i4 s4=>wpAny_pure ?_
   have g4:=g3.it2 i4 s4.extBut
   have p4:IsPair h4 (n+3) x b:=s4.extBut _ _ (zDt n).2.2.2.2.2.2.1.symm p3
   refine wpAny_bind (wpAny_seqItems (s:={ s with heap:=h4 }) p4 rfl (wpAny_bind (wpAny_updateSeq_pair p4 fun h5 p5 s5=>wpAny_bind (wpAny_letGo (wpAny_pure (wpAny_pure ?_))))))
   have p5:IsPair h5 (n+3) x y:=p5
   have g5:=g4.out p5 s5.extBut
   have k5':=(k3'.then (.eb s4.extBut (.inr (.inr (.inr rfl))))).then (.eb s5.extBut (.inr (.inl rfl)))
   have sz:h5.objs.size=s.heap.objs.size:=s5.1.trans (s4.1.trans (s3.1.trans (s2.1.trans s1.1)))
   refine wpAny_bind (wpAny_seqItems (s:={ s with heap:=h5 }) p5 rfl (wpAny_bind (wpAny_newTuple (show wpAny _ _ (Builtin.SmallTypes.ownedTupleHandOut _ (.ref h5.objs.size) >>= _) _ _ _ from wpAny_bind ?_))))
   unfold Builtin.SmallTypes.ownedTupleHandOut
   refine wpAny_bind (wpAny_setField_rec (Heap.get?_push_of_some _ g5.1) (by simp) fun h7 z7 s7=>wpAny_setField_rec z7 (by simp) fun h8 z8 s8=>wpAny_pure ?_)
   have nz:h5.objs.size≠n+4:=Nat.ne_of_gt (Heap.lt_size g5.1)
   have x8:Heap.ExtBut (n+4) h5 h8:=fun c o c1 e=>s8.extBut _ _ c1 (s7.extBut _ _ c1 (Heap.get?_push_of_some _ e))
   have g8:qD (rawInt h5.objs.size) k1 k2 l1 l2 n (j+1) (j+1) h8:=g5.fld z8 x8
   have t8:IsPair h8 h5.objs.size x y:=s8.extBut _ _ nz (s7.extBut _ _ nz (Heap.get?_push_size _ rfl))
   rw [sz] at g8 t8
   show Q (.done (.ret (.ref h5.objs.size))) _
   rw [sz]
   exact go x y q1 q2 h8 g8 t8 (k5'.then (.eb x8 (.inl rfl)))
theorem zLd {k1 k2:Bool} {n l1 l2:Addr} {j:Nat} {xs ys:Array Value} {Q:Option Value->Shared->Prop} (hh:A.handled=none) (b1:l1 < n) (b2:l2 < n) (g:qD .none k1 k2 l1 l2 n j j s.heap) (d1:mL k1 s.heap l1 xs) (d2:mL k2 s.heap l2 ys)
  (go:∀ x y,xs[j]?=some x->ys[j]?=some y->∀ h2,qD (rawInt s.heap.objs.size) k1 k2 l1 l2 n (j+1) (j+1) h2->IsPair h2 s.heap.objs.size x y->jK n s.heap h2->Q (some (.ref s.heap.objs.size)) { s with heap:=h2 })
  (stop:xs[j]?=none∨ys[j]?=none->∀ h2,jK n s.heap h2->Q none { s with heap:=h2 }):wpAny (model prog w) A (pyNext (.ref (n+4))) Q E s:=by
 have ty:s.TypeIs (.ref (n+4)) "zip" := ⟨_,g.1,rfl⟩
 unfold pyNext
 refine wpAny_bind (wpAny_attempt (wpAny_callSpecial?_slot (name:=Str.ofString "__next__") ty F.slot_zip_next (wpAny_call_entry F.slot_zip_next ty F.entry_zip_next
  (zLC hh b1 b2 g d1 d2 (fun x y q1 q2 h2 a1 a2 a3=>⟨_,rfl,wpAny_pure (go x y q1 q2 h2 a1 a2 a3)⟩) fun q h2 e k he=>?_) (F.args_zip_next_1 _))))
 obtain ⟨o,eo,co⟩:=he
 exact wpAny_bind (wpAny_isInstance (T := "StopIteration") (b:=true) ⟨o,eo,co⟩ isSubtype_stop (wpAny_pure (stop q h2 k)))
end
abbrev zO (k:Bool) (l:Addr):Obj:={ cls:=.type (itN k),data:=.fields #[.ref l,.int 0 0] }
abbrev zH2 (k1 k2:Bool) (h:Heap) (l1 l2:Addr):Heap:=(h.push (zO k1 l1)).push (zO k2 l2)
abbrev zH3 (k1 k2:Bool) (h:Heap) (l1 l2:Addr):Heap:=(zH2 k1 k2 h l1 l2).push { cls:=.type "tuple", data:=.seq #[.ref h.objs.size,.ref (h.push (zO k1 l1)).objs.size] }
abbrev zH4 (k1 k2:Bool) (h:Heap) (l1 l2:Addr):Heap:=(zH3 k1 k2 h l1 l2).push { cls:=.type "tuple", data:=.seq #[.none,.none] }
abbrev zH5 (k1 k2:Bool) (h:Heap) (l1 l2:Addr):Heap:=(zH4 k1 k2 h l1 l2).push { cls:=.type "zip", data:=.fields #[.none,.bool false,.bool false,.ref (zH2 k1 k2 h l1 l2).objs.size,.ref (zH3 k1 k2 h l1 l2).objs.size] }
theorem zDA (k1 k2:Bool) (l1 l2:Addr) (xs ys:Array Value):Meets (Builtin.«zip.__new__» ⟨[.type "zip", .ref l1,.ref l2],[]⟩) (fun _ R s=>mL k1 s.heap l1 xs/\mL k2 s.heap l2 ys/\
  R (.ok (.ret (.ref (zH4 k1 k2 s.heap l1 l2).objs.size))) { s with heap:=zH5 k1 k2 s.heap l1 l2 }):=
 .of_wp fun prog w A R s h=>by
  obtain ⟨hp,g,d,tk,os⟩:=s
  obtain ⟨hl1,hl2,h⟩:=h
  have hsub:=sub_zip
  have d1:mL k1 (Shared.heap ⟨hp,g,d,tk,os⟩) l1 xs:=hl1
  have d2:mL k2 (Shared.heap ⟨hp.push { cls:=.type (itN k1),data:=.fields #[.ref l1,.int 0 0] },g,d,tk,os⟩) l2 ys:=hl2.go fun o e=>Heap.get?_push_of_some _ e
  wp_walk using sM d1,sM d2
  exact ⟨_,rfl,h⟩
section
variable {prog:Program} {w:World} {A:Around} {E:Value->Shared->Prop} {s:Shared}
theorem zDD {k1 k2:Bool} {l1 l2:Addr} {xs ys:Array Value} {Q:Value->Shared->Prop} (d1:mL k1 s.heap l1 xs) (d2:mL k2 s.heap l2 ys)
  (h:∀ h2,qD .none k1 k2 l1 l2 s.heap.objs.size 0 0 h2->(∀ c o,s.heap.get? c=some o->h2.get? c=some o)->Q (.ref (s.heap.objs.size+4)) { s with heap:=h2 }):wpAny (model prog w) A (call (.type "zip") [.ref l1,.ref l2]) Q E s:=by
 refine callType_new F.called_zip (by decide) (F.typeCall_zip_2 _ _) (F.newCall_zip_2 _ _) (fun obj=>F.args_object_init_3 obj _ _) F.entry_zip_new (zDA k1 k2 l1 l2 xs ys) ⟨d1,d2,?_⟩
 have up:∀ {h:Heap} {a:Addr} {o ob:Obj},h.get? a=some o->(h.push ob).get? a=some o:=fun e=>Heap.get?_push_of_some _ e
 have m1:(s.heap.push (zO k1 l1)).objs.size=s.heap.objs.size+1:=Heap.size_push ..
 have m2:(zH2 k1 k2 s.heap l1 l2).objs.size=s.heap.objs.size+2:=(Heap.size_push ..).trans (congrArg (·+1) m1)
 have m3:(zH3 k1 k2 s.heap l1 l2).objs.size=s.heap.objs.size+3:=(Heap.size_push ..).trans (congrArg (·+1) m2)
 have m4:(zH4 k1 k2 s.heap l1 l2).objs.size=s.heap.objs.size+4:=(Heap.size_push ..).trans (congrArg (·+1) m3)
 have r0:(zH5 k1 k2 s.heap l1 l2).get? s.heap.objs.size=some (zO k1 l1):=up (up (up (up (Heap.get?_push_size _ rfl))))
 have r1:(zH5 k1 k2 s.heap l1 l2).get? (s.heap.push (zO k1 l1)).objs.size=some (zO k2 l2):=up (up (up (Heap.get?_push_size _ rfl)))
 have r2:(zH5 k1 k2 s.heap l1 l2).get? (zH2 k1 k2 s.heap l1 l2).objs.size=some _:=up (up (Heap.get?_push_size _ rfl))
 have r3:(zH5 k1 k2 s.heap l1 l2).get? (zH3 k1 k2 s.heap l1 l2).objs.size=some _:=up (Heap.get?_push_size _ rfl)
 have r4:(zH5 k1 k2 s.heap l1 l2).get? (zH4 k1 k2 s.heap l1 l2).objs.size=some _:=Heap.get?_push_size _ rfl
 rw [m1] at r1
 rw [m1,m2] at r2
 rw [m3] at r3
 rw [m2,m3,m4] at r4
 show _/\_
 rw [m4]
 exact ⟨⟨_,r4,rfl⟩,h _ ⟨r4,r2,⟨_,_,r3⟩,.mk r0 rfl rfl,.mk r1 rfl rfl⟩ fun c o x=>up (up (up (up (up x))))⟩
end
end L3
namespace L3
open PySem PySem.Spec PyProof.Rows L2
section
variable {X:Cx} {pins:List (Addr×Obj)} {σ:St} {H:Hp} {s:Shared} {h':Heap} {fp:List Addr}
theorem zAM {t':Nat} {p:Addr} {xs:List V} {us:List Value} (I:Inv X pins σ H s) (hf:∀ b∈fp,vX X pins H b) (k:∀ b o,b∉fp->s.heap.get? b=some o->h'.get? b=some o)
  (hp:s.heap.objs.size<=p) (ht:IsTup h' p us.toArray) (hv:dM xs us) (hz:xs.length<=sizeLine):Inv X pins σ (upd H p (.tup xs)) { s with heap:=h',toks:=t' }:=by
 have hn:H p=none:=I.hok.fresh hp
 have nf:∀ b u,H b=some u->b∉fp:=fun b u e z=>by rw [(hf b z).1] at e;cases e
 have np:∀ b u,H b=some u->upd H p (.tup xs) b=some u:=fun b u e=>by rw [aG (aZ e hn)];exact e
 refine I.step (g':=s.gens) (d':=s.drawn) (ch:=fp) (fun b hb=>⟨(hf b hb).2.2.2.1,(hf b hb).2.1,(hf b hb).2.2.2.2.1,(hf b hb).2.2.2.2.2⟩) (fun b o _ _ hc e _=>k b o hc e) (fun b o _ _ hc e _=>⟨o.slots,k b o hc e⟩) (fun b o _ e n=>?_)
  (fun b o hc e=>⟨o,k b o hc e⟩) (fun b xs e=>np _ _ e) (fun b o u e=>np _ _ e) (fun b ps e=>⟨#[],by rw [np _ _ e];simp⟩) (fun m hm=>?_) (fun b u e=>?_) I.bare
 ·rw [aG (Nat.ne_of_lt (Nat.lt_of_lt_of_le (Heap.lt_size e) hp))];exact n
 ·obtain ⟨o,es,ep,ho,r⟩:=hm
  exact ⟨o,es,ep,k _ o (fun z=>(hf _ z).2.1 rfl) ho,r⟩
 ·by_cases hb:b=p
  ·subst hb
   rw [aE] at e;cases e
   exact ⟨hz,us,hv,ht⟩
  ·rw [aG hb] at e
   refine (I.hok b u e).stay (fun c v hc q=>k c v ?_ q) (fun _ q=>np _ _ q) fun _ _ q=>np _ _ q
   rcases hc with z | z
   ·rw [z];exact nf b u e
   ·exact nf c _ z
theorem zAD {t':Nat} (I:Inv X pins σ H s) (hf:∀ b∈fp,vX X pins H b) (k:∀ b o,b∉fp->s.heap.get? b=some o->h'.get? b=some o):Inv X pins σ H { s with heap:=h',toks:=t' }:=by
 have nf:∀ b u,H b=some u->b∉fp:=fun b u e z=>by rw [(hf b z).1] at e;cases e
 refine I.step (g':=s.gens) (d':=s.drawn) (ch:=fp) (fun b hb=>⟨(hf b hb).2.2.2.1,(hf b hb).2.1,(hf b hb).2.2.2.2.1,(hf b hb).2.2.2.2.2⟩) (fun b o _ _ hc e _=>k b o hc e) (fun b o _ _ hc e _=>⟨o.slots,k b o hc e⟩) (fun b o _ e n=>n)
  (fun b o hc e=>⟨o,k b o hc e⟩) (fun b xs e=>e) (fun b o u e=>e) (fun b ps e=>⟨#[],by rw [e];simp⟩) (fun m hm=>?_) (fun b u e=>?_) I.bare
 ·obtain ⟨o,es,ep,ho,r⟩:=hm
  exact ⟨o,es,ep,k _ o (fun z=>(hf _ z).2.1 rfl) ho,r⟩
 ·refine (I.hok b u e).stay (fun c v hc q=>k c v ?_ q) (fun _ q=>q) fun _ _ q=>q
  rcases hc with z | z
  ·rw [z];exact nf b u e
  ·exact nf c _ z
end
def SqK (k:Bool) (K:PySem.W.Frag) (H:Hp) (a:Addr) (xs:List V):Prop:=if k then SqL K H a xs else SqT K H a xs
theorem kK {k:Bool} {K:PySem.W.Frag} {H H':Hp} (e:Same H H') {a:Addr} {xs:List V} (h:SqK k K H a xs):SqK k K H' a xs:=by
 cases k
 ·exact bO e h
 ·exact bU e h
section
variable {X:Cx} {pins:List (Addr×Obj)} {σ:St} {H:Hp} {s:Shared} {k:Bool} {a:Addr} {xs ys:List V}
theorem sqI (I:Inv X pins σ H s) (h:SqK k X.K H a xs):∃ its:List Value,dM xs its/\mL k s.heap a its.toArray/\xs.length<=sizeLine:=by
 cases k
 ·obtain ⟨its,rv,p,hz⟩:=I.tuple h
  exact ⟨its,rv,p,hz⟩
 ·obtain ⟨its,rv,p,hz⟩:=I.list h
  exact ⟨its,rv,p.isList,hz⟩
theorem wG (I:Inv X pins σ H s) (h:SqK k X.K H a xs) (h':SqK k X.K H a ys):xs=ys:=by
 cases k
 ·exact I.tuple_inj h h'
 ·exact I.list_inj h h'
theorem mL.lt {h:Heap} {l:Addr} {xs:Array Value} (x:mL k h l xs):l < h.objs.size:=by
 cases k<;>(obtain ⟨o,e,_⟩:=x;exact Heap.lt_size e)
end
def Itz (K:PySem.W.Frag) (k1 k2:Bool) (a1 a2:Addr):It:=
  ⟨fun i H=>∃ xs ys x y,SqK k1 K H a1 xs/\SqK k2 K H a2 ys/\xs[i]?=some x/\ys[i]?=some y,
   fun i H v H'=>∃ p x y,v=.ref p/\H p=none/\H'=upd H p (.tup [x,y])/\(∀ xs,SqK k1 K H a1 xs->xs[i]?=some x)/\∀ ys,SqK k2 K H a2 ys->ys[i]?=some y,
   fun i H=>∃ xs ys,SqK k1 K H a1 xs/\SqK k2 K H a2 ys/\(xs.length<=i∨ys.length<=i)⟩
def zLN (k1 k2:Bool) (a1 a2 n:Addr) (i:Nat) (h:Heap):Prop:=qD .none k1 k2 a1 a2 n i i h
theorem jU {h:Heap} {b:Addr} {o:Obj} {d:Data} (e:h.get? b=some o) (hd:o.data=d) (nd:∀ v,d≠.cell v):∃ o,h.get? b=some o/\∀ v,o.data≠.cell v:=⟨o,e,fun v z=>nd v (hd.symm.trans z)⟩
theorem zDG {P:Program} {w:World} {K:PySem.W.Frag} {elts:List Expr} {x1:Nat} {tp:Pos} (k1 k2:Bool) (a1 a2 n:Addr) (l1:a1 < n) (l2:a2 < n):
  Turn P w K (.Tuple elts x1 tp) (Itz K k1 k2 a1 a2) [n+4,n+2,n+3,n,n+1] (n+4) (zLN k1 k2 a1 a2 n) where
 mem:=by simp
 obj:=fun i h st b hb=>by
  obtain ⟨t1,t2,⟨a,b',t3⟩,t4,t5⟩:=st
  obtain ⟨o4,e4,_,d4⟩:=t4.get
  obtain ⟨o5,e5,_,d5⟩:=t5.get
  simp only [List.mem_cons,List.not_mem_nil,or_false] at hb
  rcases hb with rfl | rfl | rfl | rfl | rfl
  ·exact jU t1 rfl fun v z=>by cases z
  ·exact jU t2 rfl fun v z=>by cases z
  ·exact jU t3 rfl fun v z=>by cases z
  ·exact jU e4 d4 fun v z=>by cases z
  ·exact jU e5 d5 fun v z=>by cases z
 keep:=fun i h h' st k=>by
  obtain ⟨t1,t2,⟨a,b',t3⟩,t4,t5⟩:=st
  exact ⟨k _ (by simp) _ t1,k _ (by simp) _ t2,⟨a,b',k _ (by simp) _ t3⟩,t4.go fun o e=>k _ (by simp) o e,t5.go fun o e=>k _ (by simp) o e⟩
 item:=by
  intro X hP hw hK hc i pins s σ H E I hf st hg
  subst hP hw hK
  obtain ⟨xs,ys,x,y,q1,q2,hx,hy⟩:=hg
  obtain ⟨us,r1,s1,z1⟩:=sqI I q1
  obtain ⟨ws,r2,s2,z2⟩:=sqI I q2
  obtain ⟨u,hu,ru⟩:=r1.get hx
  obtain ⟨v,hv,rv⟩:=r2.get hy
  have hu':us.toArray[i]?=some u:=by simpa using hu
  have hv':ws.toArray[i]?=some v:=by simpa using hv
  have st':=st
  obtain ⟨t1,t2,⟨a,b,t3⟩,t4,t5⟩:=st
  refine zLd (I.ok.hd hc) l1 l2 st' s1 s2 (fun x' y' f1 f2 h' g' p' kz=>?_) (fun q=>?_)
  rotate_left
  ·rw [hu',hv'] at q;rcases q with q | q<;>cases q
  rw [hu'] at f1;cases f1
  rw [hv'] at f2;cases f2
  refine ⟨_,rfl,wpAny_letOwnedTupleGo_zip (s:={ s with heap:=h' }) g'.1 fun h'' c1 c2=>?_⟩
  have zl:s.heap.objs.size≠n+4:=Nat.ne_of_gt (Heap.lt_size t1)
  have np:H s.heap.objs.size=none:=I.hok.fresh (Nat.le_refl _)
  have I1:Inv X pins σ (upd H s.heap.objs.size (.tup [x,y])) { s with heap:=h'',toks:=s.toks }:=zAM (us:=[u,v]) I hf (fun b o hb e=>by
    simp only [List.mem_cons,List.not_mem_nil,or_false,not_or] at hb
    exact c2.extBut b o hb.1 (kz b o hb.1 hb.2.2.1 hb.2.2.2.1 hb.2.2.2.2 e)) (Nat.le_refl _) ⟨_,c2.extBut _ _ zl p',rfl,_,rfl⟩ (.cons ru (.cons rv .nil)) (show 2<=sizeLine by decide)
  refine ⟨.ref s.heap.objs.size,_,I1,rfl,⟨_,x,y,rfl,np,rfl,fun zs hz=>by rw [wG I hz q1];exact hx,fun zs hz=>by rw [wG I hz q2];exact hy⟩,g'.fld c1 c2.extBut,fun b hb=>?_⟩
  ·obtain ⟨o,e,_⟩:∃ o,s.heap.get? b=some o/\True:=by
    obtain ⟨o4,e4,_⟩:=t4.get
    obtain ⟨o5,e5,_⟩:=t5.get
    simp only [List.mem_cons,List.not_mem_nil,or_false] at hb
    rcases hb with rfl | rfl | rfl | rfl | rfl
    ·exact ⟨_,t1,trivial⟩
    ·exact ⟨_,t2,trivial⟩
    ·exact ⟨_,t3,trivial⟩
    ·exact ⟨_,e4,trivial⟩
    ·exact ⟨_,e5,trivial⟩
   rw [aG (Nat.ne_of_lt (Heap.lt_size e))]
   exact (hf b hb).1
 done:=by
  intro X hP hw hK hc i pins s σ H E I hf st hg
  subst hP hw hK
  obtain ⟨xs,ys,q1,q2,hl⟩:=hg
  obtain ⟨us,r1,s1,z1⟩:=sqI I q1
  obtain ⟨ws,r2,s2,z2⟩:=sqI I q2
  have st':=st
  obtain ⟨t1,t2,⟨a,b,t3⟩,t4,t5⟩:=st
  have e1:=r1.length
  have e2:=r2.length
  refine zLd (I.ok.hd hc) l1 l2 st' s1 s2 (fun x y f1 f2=>?_) fun _ h' b7=>⟨rfl,zAD (t':=s.toks) I hf fun b o hb e=>?_⟩
  ·have m1:=(Array.getElem?_eq_some_iff.mp f1).1
   have m2:=(Array.getElem?_eq_some_iff.mp f2).1
   rw [List.size_toArray] at m1 m2
   omega
  ·simp only [List.mem_cons,List.not_mem_nil,or_false,not_or] at hb
   exact b7 b o hb.1 hb.2.2.1 hb.2.2.2.1 hb.2.2.2.2 e
 self:=fun _ _ _ _ _ st h=>wpAny_pyIter_zip st.1 h
abbrev eO (n:Addr):Obj:={ cls:=.type "enumerate", data:=.fields #[.none,.bool false,.ref n,rawInt 0,.none,.none] }
theorem zCZ (k:Bool) (l:Addr) (xs:Array Value):Meets (Builtin.«enumerate.__new__» ⟨[.type "enumerate", .ref l],[]⟩) (fun _ R s=>mL k s.heap l xs/\
  R (.ok (.ret (.ref (s.heap.push (zO k l)).objs.size))) { s with heap:=(s.heap.push (zO k l)).push (eO s.heap.objs.size) }):=
 .of_wp fun prog w A R s h=>by
  cases s with | mk hp g d tk os=>
  have d1:mL k (Shared.heap ⟨hp,g,d,tk,os⟩) l xs:=h.1
  have fin:=h.2
  have hsub:=sub_enumerate
  obtain ⟨ob,ho⟩:∃ ob,hp.get? l=some ob:=by cases k<;>(obtain ⟨o,e,_⟩:=d1;exact ⟨o,e⟩)
  clear h
  wp_walk using AutoSeq1.wpAny_loadPart' ho
  refine wpAny_stack_any fun st=>wpAny_pure ?_
  split
  ·rename_i c _ _ _ _ _
   cases (c==Value.type "enumerate")<;>(wp_walk using AutoSeq1.wpAny_loadPart' ho,sM d1;exact ⟨_,rfl,fin⟩)
  ·wp_walk using AutoSeq1.wpAny_loadPart' ho,sM d1
   exact ⟨_,rfl,fin⟩
theorem zBY {prog:Program} {w:World} {A:Around} {E:Value->Shared->Prop} {s:Shared} {k:Bool} {l:Addr} {xs:Array Value} {Q:Value->Shared->Prop} (sq:mL k s.heap l xs)
  (h:∀ h2,IsEnum h2 (s.heap.objs.size+1) s.heap.objs.size 0 .none->qI k h2 s.heap.objs.size l 0->(∀ c o,s.heap.get? c=some o->h2.get? c=some o)->Q (.ref (s.heap.objs.size+1)) { s with heap:=h2 }):
  wpAny (model prog w) A (call (.type "enumerate") [.ref l]) Q E s:=by
 refine callType_new F.called_enumerate (by decide) (F.typeCall_enumerate_1 _) (F.newCall_enumerate_1 _) (fun obj=>F.args_object_init_2 obj _) F.entry_enumerate_new (zCZ k l xs) ⟨sq,?_⟩
 have m1:(s.heap.push (zO k l)).objs.size=s.heap.objs.size+1:=Heap.size_push ..
 have r0:((s.heap.push (zO k l)).push (eO s.heap.objs.size)).get? s.heap.objs.size=some (zO k l):=Heap.get?_push_of_some _ (Heap.get?_push_size _ rfl)
 have r1:((s.heap.push (zO k l)).push (eO s.heap.objs.size)).get? (s.heap.push (zO k l)).objs.size=some (eO s.heap.objs.size):=Heap.get?_push_size _ rfl
 show _/\_
 rw [m1] at r1 ⊢
 exact ⟨⟨_,r1,rfl⟩,h _ r1 (.mk r0 rfl rfl) fun c o x=>Heap.get?_push_of_some _ (Heap.get?_push_of_some _ x)⟩
def Ite (K:PySem.W.Frag) (k:Bool) (a:Addr):It:=
  ⟨fun i H=>∃ xs x,SqK k K H a xs/\xs[i]?=some x,
   fun i H v H'=>∃ p x,v=.ref p/\H p=none/\H'=upd H p (.tup [.int i,x])/\∀ xs,SqK k K H a xs->xs[i]?=some x,
   fun i H=>∃ xs,SqK k K H a xs/\xs.length<=i⟩
def EnS (k:Bool) (a n:Addr) (i:Nat) (h:Heap):Prop:=(∃ old,IsEnum h (n+1) n i old)/\qI k h n a i
theorem zCh {P:Program} {w:World} {K:PySem.W.Frag} {elts:List Expr} {x1:Nat} {tp:Pos} (k:Bool) (a n:Addr) (l1:a < n):
  Turn P w K (.Tuple elts x1 tp) (Ite K k a) [n+1,n] (n+1) (EnS k a n) where
 mem:=by simp
 obj:=fun i h st b hb=>by
  obtain ⟨⟨old,t1⟩,t2⟩:=st
  obtain ⟨o4,e4,_,d4⟩:=t2.get
  simp only [List.mem_cons,List.not_mem_nil,or_false] at hb
  rcases hb with rfl | rfl
  ·exact jU t1 rfl fun v z=>by cases z
  ·exact jU e4 d4 fun v z=>by cases z
 keep:=fun i h h' st k=>by
  obtain ⟨⟨old,t1⟩,t2⟩:=st
  exact ⟨⟨old,k _ (by simp) _ t1⟩,t2.go fun o e=>k _ (by simp) o e⟩
 item:=by
  intro X hP hw hK hc i pins s σ H E I hf st hg
  subst hP hw hK
  obtain ⟨xs,x,q1,hx⟩:=hg
  obtain ⟨us,r1,s1,z1⟩:=sqI I q1
  obtain ⟨u,hu,ru⟩:=r1.get hx
  obtain ⟨⟨old,t1⟩,t2⟩:=st
  have hi:i < us.toArray.size:=by simpa using (List.getElem?_eq_some_iff.mp hu).1
  have en:n+1∉[n,a]:=fun z=>by
   rcases List.mem_cons.mp z with z | z
   ·exact Nat.succ_ne_self n z
   ·exact Nat.ne_of_gt (Nat.lt_succ_of_lt l1) (List.mem_singleton.mp z)
  have D:=zIZ (prog:=X.prog) (w:=X.w) (A:=X.A.in1) (k:=k) (I.ok.hd hc) n a (Nat.ne_of_lt l1) us.toArray
  refine wpAny_pyNext_enum_itemD D t1 ⟨t2,s1⟩ hi (Nat.succ_ne_self n) en fun v h' tk b0 b1 b2 b3 _ b7=>⟨_,rfl,wpAny_letOwnedTupleGo_enum (s:={ s with heap:=h',toks:=tk+1 }) b1 fun h'' c1 c2=>?_⟩
  have hv:v=u:=by
   have:us.toArray[i]?=some u:=by simpa using hu
   rw [this] at b0;cases b0;rfl
  subst hv
  have zl:s.heap.objs.size≠n+1:=Nat.ne_of_gt (Heap.lt_size t1)
  have np:H s.heap.objs.size=none:=I.hok.fresh (Nat.le_refl _)
  have I1:Inv X pins σ (upd H s.heap.objs.size (.tup [.int i,x])) { s with heap:=h'',toks:=tk+1 }:=zAM (us:=[.int i tk,v]) I hf (fun b o hb e=>by
    simp only [List.mem_cons,List.not_mem_nil,or_false,not_or] at hb
    exact c2.extBut b o hb.1 (b7 b o hb.1 hb.2 e)) (Nat.le_refl _) ⟨_,c2.extBut _ _ zl b3,rfl,_,rfl⟩ (.cons ⟨_,rfl⟩ (.cons ru .nil)) (show 2<=sizeLine by decide)
  refine ⟨.ref s.heap.objs.size,_,I1,rfl,⟨_,x,rfl,np,rfl,fun zs hz=>by rw [wG I hz q1];exact hx⟩,⟨⟨v,by simpa using c1⟩,b2.1.go fun o e=>c2.extBut _ o (Nat.ne_of_lt (Nat.lt_succ_self n)) e⟩,fun b hb=>?_⟩
  obtain ⟨o,e,_⟩:∃ o,s.heap.get? b=some o/\True:=by
   obtain ⟨o4,e4,_⟩:=t2.get
   simp only [List.mem_cons,List.not_mem_nil,or_false] at hb
   rcases hb with rfl | rfl
   ·exact ⟨_,t1,trivial⟩
   ·exact ⟨_,e4,trivial⟩
  rw [aG (Nat.ne_of_lt (Heap.lt_size e))]
  exact (hf b hb).1
 done:=by
  intro X hP hw hK hc i pins s σ H E I hf st hg
  subst hP hw hK
  obtain ⟨xs,q1,hl⟩:=hg
  obtain ⟨us,r1,s1,z1⟩:=sqI I q1
  obtain ⟨⟨old,t1⟩,t2⟩:=st
  have e1:=r1.length
  have hT:s.TypeIs (.ref (n+1)) "enumerate" := ⟨_,t1,rfl⟩
  unfold pyNext
  refine wpAny_bind (wpAny_attempt (wpAny_callSpecial?_slot (name:=Str.ofString "__next__") hT F.slot_enumerate_next (wpAny_call_entry F.slot_enumerate_next hT F.entry_enumerate_next ?_ (F.args_enumerate_next_1 _))))
  show wpAny _ _ (field (.ref (n+1)) 2 >>= _) _ _ _
  refine wpAny_bind (wpAny_field t1 rfl (x:=.ref n) rfl ?_)
  refine wpAny_bind (xV (I.ok.hd hc) t2 s1 (by simp;omega) fun h' x he' hx'=>?_)
  obtain ⟨o,ho,hc⟩:=hx'
  refine wpAny_bind (wpAny_isInstance (T := "StopIteration") (b:=true) ⟨o,ho,hc⟩ isSubtype_stop ?_)
  refine wpAny_pure ⟨rfl,zAD (t':=s.toks) I hf fun b o hb e=>?_⟩
  simp only [List.mem_cons,List.not_mem_nil,or_false,not_or] at hb
  exact he' b o hb.2 e
 self:=fun _ _ _ _ _ st h=>wpAny_pyIter_enum st.1.choose_spec h
section
unseal PEd PEf PTd PWd PAd PSd bX POd PGd dH PId PSx eY PTs PCd PCf
variable {X:Cx} {G:Gx} {fs:Fv} {f:Ev}
def iZp (K:PySem.W.Frag) (ta:TA):TI:=fun σ H R=>ta σ H fun vs H1=>∃ k1 k2 a1 a2 xs ys,vs=[.ref a1,.ref a2]/\SqK k1 K H1 a1 xs/\SqK k2 K H1 a2 ys/\R (Itz K k1 k2 a1 a2) H1
theorem zIL {a b:Expr} {ta:TA} {p pos:Pos} {elts:List Expr} {x1:Nat} {tp:Pos} (hg:Gl X "zip") (hm:X.mg "zip" = none) (ha:PA X [a,b] ta)
  (hs:starEach [a,b] X.env=[(false,eval a X.env),(false,eval b X.env)]:=by rfl) (hs2:starEach [b] X.env=[(false,eval b X.env)]:=by rfl):PI X (.Tuple elts x1 tp) (.Call (.Name "zip" p) [a,b] [] pos) (iZp X.K ta):=by
 intro pins s σ H R I h
 refine Call_ (oV I hg hm boot_zip (PyProof.Rows.callWith_type1 (thn (ha pos pins s σ H _ I h) fun us s1 ⟨vs,H1,I1,r1,q1⟩=>?_) (by rw [hs,hs2]) (by rw [hs2];rfl)))
 obtain ⟨k1,k2,a1,a2,xs,ys,rfl,h1,h2,q⟩:=q1
 cases r1 with
 | cons r rr=>
  cases rr with
  | cons r' rr=>
   cases rr
   cases r
   cases r'
   obtain ⟨us,rv,p1,z1⟩:=sqI I1 h1
   obtain ⟨ws,rw_,p2,z2⟩:=sqI I1 h2
   refine zDD p1 p2 fun h' b1 b6=>wpAny_pyIter_zip (s:={ s1 with heap:=h' }) b1.1 ?_
   refine ⟨s1.heap.objs.size+4,_,_,_,H1,rfl,I1.kept (t':=s1.toks) b6,zDG k1 k2 a1 a2 s1.heap.objs.size p1.lt p2.lt,b1,fun b hb=>?_,q⟩
   have hb':s1.heap.objs.size<=b:=by
    simp only [List.mem_cons,List.not_mem_nil,or_false] at hb
    rcases hb with rfl | rfl | rfl | rfl | rfl<;>omega
   exact I1.fpOk hb' (I1.hok.fresh hb')
theorem uP:∀ (xs ys:List D) (i:Nat) (d:D),(jM xs ys)[i]?=some d->∃ a b,xs[i]?=some a/\ys[i]?=some b/\d=.tup [a,b]
 | a::r,b::q,0,d,h=>by cases h;exact ⟨a,b,rfl,rfl,rfl⟩
 | a::r,b::q,i+1,d,h=>uP r q i d h
 | [],_,i,d,h=>by cases i<;>cases h
 | a::r,[],i,d,h=>by cases i<;>cases h
theorem vG:∀ (xs ys:List D),(jM xs ys).length=min xs.length ys.length
 | a::r,b::q=>by
  have:=vG r q
  simp only [jM,List.length_cons,this]
  omega
 | [],_=>by simp [jM]
 | a::r,[]=>by simp [jM]
theorem zCl {K:PySem.W.Frag} {Hi:Hp} {k1 k2:Bool} {a1 a2:Addr} {xs ys:List V} {ds es:List D} (h1:SqK k1 K Hi a1 xs) (h2:IsDs K Hi xs ds) (h3:SqK k2 K Hi a2 ys) (h4:IsDs K Hi ys es):
  Gives K Hi (Itz K k1 k2 a1 a2) (jM ds es):=fun Hi1 H1 s1 s2 i=>by
 have g1:=kK (s1.trans s2) h1
 have g3:=kK (s1.trans s2) h3
 refine ⟨fun hl=>⟨xs,ys,g1,g3,?_⟩,fun d hd=>?_⟩
 ·rw [vG] at hl
  have e1:=h2.length
  have e2:=h4.length
  omega
 ·obtain ⟨a,b,ha,hb,rfl⟩:=uP ds es i d hd
  obtain ⟨v,hv,rv⟩:=h2.at ha
  obtain ⟨w,hw,rw_⟩:=h4.at hb
  refine ⟨⟨xs,ys,v,w,g1,g3,hv,hw⟩,fun x H2 y=>?_⟩
  obtain ⟨p,x',y',rfl,hp,rfl,y1,y2⟩:=y
  have e1:=y1 xs g1
  have e2:=y2 ys g3
  rw [hv] at e1;cases e1
  rw [hw] at e2;cases e2
  have hi:=s2.none hp
  have sm:=aS hi (.tup [v,w])
  exact ⟨upd Hi1 p (.tup [v,w]),Ext.new s2 hp,.tup (.inl (.inl aE)) (.cons ((rv.mono s1).mono sm) (.cons ((rw_.mono s1).mono sm) .nil))⟩
theorem zLc {K:PySem.W.Frag} {H:Hp} {v:V} {d:D} {ds:List D} (h:IsD K H v d) (e:zDP d=some ds):∃ k a xs,v=.ref a/\SqK k K H a xs/\IsDs K H xs ds:=by
 cases d with
 | lst es=>cases e;obtain ⟨a,xs,rfl,h1,h2⟩:=h.lstI;exact ⟨true,a,xs,rfl,h1,h2⟩
 | tup es=>cases e;obtain ⟨a,xs,rfl,h1,h2⟩:=h.tupI;exact ⟨false,a,xs,rfl,h1,h2⟩
 | _=>cases e
theorem zHI {a b:Expr} {p pos:Pos} {elts:List Expr} {x1:Nat} {tp:Pos} (hg:Gl X "zip") (hm:X.mg "zip" = none) (ha:PAd X G [a,b] fs)
  (hs:starEach [a,b] X.env=[(false,eval a X.env),(false,eval b X.env)]:=by rfl) (hs2:starEach [b] X.env=[(false,eval b X.env)]:=by rfl):
  PId X G (.Tuple elts x1 tp) (.Call (.Name "zip" p) [a,b] [] pos) (zJo fs):=PI.wk (zIL hg hm ha hs hs2) fun σ H Q q=>by
 obtain ⟨ρ,Hi,R,ou⟩:=q
 refine zEs R ou fun vs ds Hi1 H1 e1 R1 r1 o1=>?_
 split at o1
 ·rename_i x y
  obtain ⟨v,w,rfl,h,h'⟩:=r1.two
  split at o1
  ·rename_i ds es q1 q2
   obtain ⟨k1,a1,xs,rfl,g1,g2⟩:=zLc h q1
   obtain ⟨k2,a2,ys,rfl,g3,g4⟩:=zLc h' q2
   exact ⟨k1,k2,a1,a2,xs,ys,rfl,kK R1.s g1,kK R1.s g3,o1.here R1.s _ (zCl g1 g2 g3 g4)⟩
  ·exact o1.elim
 ·exact o1.elim
def iEn (K:PySem.W.Frag) (ta:TA):TI:=fun σ H R=>ta σ H fun vs H1=>∃ k a xs,vs=[.ref a]/\SqK k K H1 a xs/\R (Ite K k a) H1
theorem zGx {a:Expr} {ta:TA} {p pos:Pos} {elts:List Expr} {x1:Nat} {tp:Pos} (hg:Gl X "enumerate") (hm:X.mg "enumerate" = none) (ha:PA X [a] ta) (hs:starEach [a] X.env=[(false,eval a X.env)]:=by rfl):
  PI X (.Tuple elts x1 tp) (.Call (.Name "enumerate" p) [a] [] pos) (iEn X.K ta):=by
 intro pins s σ H R I h
 refine Call_ (oV I hg hm boot_enumerate (PyProof.Rows.callWith_type1 (thn (ha pos pins s σ H _ I h) fun us s1 ⟨vs,H1,I1,r1,q1⟩=>?_) hs rfl))
 obtain ⟨k,t,xs,rfl,hq,q⟩:=q1
 cases r1 with
 | cons r rr=>
  cases rr
  cases r
  obtain ⟨its,rv,pt,hz⟩:=sqI I1 hq
  refine zBY pt fun h' b1 b2 b6=>wpAny_pyIter_enum (s:={ s1 with heap:=h' }) b1 ?_
  refine ⟨s1.heap.objs.size+1,_,_,_,H1,rfl,I1.kept (t':=s1.toks) b6,zCh k t s1.heap.objs.size pt.lt,⟨⟨_,b1⟩,b2⟩,fun b hb=>?_,q⟩
  have hb':s1.heap.objs.size<=b:=by
   simp only [List.mem_cons,List.not_mem_nil,or_false] at hb
   rcases hb with rfl | rfl<;>omega
  exact I1.fpOk hb' (I1.hok.fresh hb')
theorem uI:∀ (xs:List D) (n i:Nat) (d:D),(iB n xs)[i]?=some d->∃ a,xs[i]?=some a/\d=.tup [.int ((n+i:Nat):Int),a]
 | a::r,n,0,d,h=>by cases h;exact ⟨a,rfl,rfl⟩
 | a::r,n,i+1,d,h=>by
  obtain ⟨b,h1,h2⟩:=uI r (n+1) i d h
  exact ⟨b,h1,by rw [h2];congr 4;omega⟩
 | [],n,i,d,h=>by cases i<;>cases h
theorem tG:∀ (xs:List D) (n:Nat),(iB n xs).length=xs.length
 | a::r,n=>by simp only [iB,List.length_cons,tG r (n+1)]
 | [],n=>rfl
theorem pP {K:PySem.W.Frag} {Hi:Hp} {k:Bool} {a:Addr} {xs:List V} {ds:List D} (h1:SqK k K Hi a xs) (h2:IsDs K Hi xs ds):Gives K Hi (Ite K k a) (iB 0 ds):=fun Hi1 H1 s1 s2 i=>by
 have g1:=kK (s1.trans s2) h1
 refine ⟨fun hl=>⟨xs,g1,?_⟩,fun d hd=>?_⟩
 ·rw [tG] at hl
  rw [h2.length];exact hl
 ·obtain ⟨a,ha,rfl⟩:=uI ds 0 i d hd
  obtain ⟨v,hv,rv⟩:=h2.at ha
  refine ⟨⟨xs,v,g1,hv⟩,fun x H2 y=>?_⟩
  obtain ⟨p,x',rfl,hp,rfl,y1⟩:=y
  have e1:=y1 xs g1
  rw [hv] at e1;cases e1
  have hi:=s2.none hp
  rw [Nat.zero_add]
  exact ⟨upd Hi1 p (.tup [.int i,v]),Ext.new s2 hp,.tup (.inl (.inl aE)) (.cons (.int _) (.cons ((rv.mono s1).mono (aS hi _)) .nil))⟩
theorem zIK {a:Expr} {p pos:Pos} {elts:List Expr} {x1:Nat} {tp:Pos} (hg:Gl X "enumerate") (hm:X.mg "enumerate" = none) (ha:PEd X G a f) (hst:starEach [a] X.env=[(false,eval a X.env)]:=by rfl):
  PId X G (.Tuple elts x1 tp) (.Call (.Name "enumerate" p) [a] [] pos) (zDB f):=PI.wk (zGx hg hm (cT ha gK (by rw [hst];rfl)) hst) fun σ H Q q=>by
 obtain ⟨ρ,Hi,R,ou⟩:=q
 refine lZ R ou fun v d Hi1 H1 e1 R1 r1 o1=>?_
 cases d with
 | lst ds=>
  obtain ⟨a,xs,rfl,h1,h2⟩:=r1.lstI
  exact ⟨true,a,xs,rfl,bU R1.s h1,o1.here R1.s _ (pP (k:=true) h1 h2)⟩
 | tup ds=>
  obtain ⟨a,xs,rfl,h1,h2⟩:=r1.tupI
  exact ⟨false,a,xs,rfl,bO R1.s h1,o1.here R1.s _ (pP (k:=false) h1 h2)⟩
 | _=>exact o1.elim
end
end L3
namespace L3
open PySem PySem.Spec PyProof.Rows L2
unseal PEd PEf PTd PWd PAd PSd bX POd PGd dH PId PSx eY PTs PCd PCf
structure BlkOk2 (X:Cx) (xs:List Str) (scope:Scope):Prop where
 kind:scope.kind=.function
 cell:∀ y∈scope.names,y.2≠.cell
 loc:∀ x∈xs,scope.names.lookup x=some .local
 names:∀ y∈scope.names,y.2=.local->scope.names.lookup y.1=some .local
 fre:∀ p∈scope.names,p.2=.free->X.env.kindOf p.1=some .cell∨X.env.kindOf p.1=some .free
 oth:∀ y∈X.N,scope.names.lookup y≠some .local
def vN (X:Cx) (xs:List Str) (scope:Scope) (C:Addr) (s₂:Shared) (H₂:Hp) (fp:List Addr):Cx:=
  { prog:=X.prog,w:=X.w,K:=X.K,mg:=X.mg,base:=X.base,A:=X.A,N:=X.N++xs,s₀:=s₂,H₀:=H₂,env:=compEnvC scope (wA X.env scope.names []) C X.env,outer:=X.stack,stack:=X.stack,
    ex:=fp,fn:=fun _=>false,calm:=X.calm,pn:=X.pn,xe:=fun _ _=>False }
section
variable {X:Cx} {pins:List (Addr×Obj)} {σ:St} {H:Hp} {s₂:Shared} {xs:List Str} {scope:Scope} {fp:List Addr} {D C:Addr} {h₁:Heap}
theorem BlkOk2.cl (B:BlkOk2 X xs scope) (I:Inv X pins σ H s₂):∀ p∈scope.names,p.2=.free->∃ c,X.env.cells.lookup p.1=some c:=fun p hp e=>I.ok.has p.1 (B.fre p hp e)
theorem zJn (I:Inv X pins σ H s₂) (B:BlkOk2 X xs scope) (hfp:∀ b∈fp,vX X pins H b) (hfl:∀ b∈fp,b < s₂.heap.objs.size) (hD:s₂.heap.objs.size<=D) (hC:s₂.heap.objs.size<=C) (hDC:D≠C)
  (old:∀ b o,s₂.heap.get? b=some o->h₁.get? b=some o) {n:Nat} (hacc:h₁.get? D=some { cls:=.type "list", data:=.seq ([]:List Value).toArray n }) {m:Str->Option Value} (hns:h₁.Ns C m) (t:Nat):
  Inv (vN X xs scope C s₂ H fp) pins (σ++xs.map fun _=>none) (upd H D (.lst [])) { s₂ with heap:=h₁,toks:=t }:=by
 have sub:=oI scope.names [] (B.cl I) (fun y c e=>nomatch e)
 have old_lt:∀ {b:Addr} {o:Obj},s₂.heap.get? b=some o->b≠D/\b≠C:=fun e=>⟨Nat.ne_of_lt (Nat.lt_of_lt_of_le (Heap.lt_size e) hD),Nat.ne_of_lt (Nat.lt_of_lt_of_le (Heap.lt_size e) hC)⟩
 have free:∀ {b:Addr},b≠D->H b=none->upd H D (.lst []) b=none:=fun n e=>by rw [aG n];exact e
 refine ⟨⟨I.ok.mod,B.kind,I.ok.glob,I.ok.blt,hC,fun y z c e1 e2=>I.ok.inj y z c (sub y c e1) (sub z c e2),fun y hy=>?_,fun y c e=>(nomatch e),I.ok.hd,I.ok.frames,.inl rfl,fun b hb=>⟨Nat.ne_of_lt (Nat.lt_of_lt_of_le (hfl b hb) hC),fun y c e=>(hfp b hb).2.2.2.2.1 y c (sub y c e)⟩,
  I.bs,Nat.le_trans I.ok.bsz I.sz,fun b o e hb=>?_,fun b hb z=>?_,I.stack,I.stkFree⟩,rfl,I.bare,Un.laid old hD (I.hok.fresh hD),⟨m,hns,fun i y v e1 e2 e3=>?_⟩,fun y c e=>?_,free (Ne.symm hDC) (I.hok.fresh hC),fun y c e=>?_,fun p hp=>?_,I.hok.laid old hD ⟨Nat.zero_le _,[],n,.nil,hacc⟩,?_⟩
 ·have:∃ k,(k=NameKind.cell∨k=NameKind.free)/\((relabel scope X.env).names).lookup y=some k:=hy.elim (fun h=>⟨_,.inl rfl,h⟩) fun h=>⟨_,.inr rfl,h⟩
  obtain ⟨k,hk,e⟩:=this
  have e':(y,NameKind.free)∈scope.names:=by
   rcases bQ e with z | ⟨_,z⟩
   ·rcases hk with rfl | rfl
    ·exact absurd rfl (B.cell _ (bE z))
    ·exact bE z
   ·exact bE z
  exact nJ scope.names [] y e'
 ·rcases (hfp b hb).2.2.2.1 with z | z
  ·exact I.ok.noex b o e z
  ·exact absurd (Nat.lt_of_lt_of_le (Heap.lt_size e) (Nat.le_trans I.ok.bsz z)) (Nat.lt_irrefl _)
 ·rcases List.mem_cons.mp (I.stkSub b z) with w | w
  ·exact (hfp b hb).2.1 w
  ·exact (hfp b hb).2.2.1 w
 ·
  have hi:i < σ.length:=by
   by_cases hi:i < σ.length
   ·exact hi
   ·exfalso
    rw [List.getElem?_append_right (by omega),List.getElem?_map] at e2
    cases q:xs[i - σ.length]? with
    | none=>rw [q] at e2;cases e2
    | some z=>rw [q] at e2;cases e2
  rw [List.getElem?_append_left hi] at e2
  have e1':(X.N++xs)[i]?=some y:=e1
  rw [List.getElem?_append_left (by rw [<-I.len];exact hi)] at e1'
  cases q:X.N[i]? with
  | none=>rw [q] at e1';cases e1'
  | some z=>
   rw [q] at e1'
   have hy:z=y:=Option.some.inj e1'
   have hz:z∈X.N:=List.mem_of_getElem? q
   subst hy
   have fr:(z,NameKind.free)∈scope.names:=by
    rcases e3 with h | h | h
    ·rcases bQ h with h | ⟨h,_⟩
     ·exact absurd h (B.oth z hz)
     ·cases h
    ·rcases bQ h with h | ⟨_,h⟩
     ·exact absurd rfl (B.cell _ (bE h))
     ·exact bE h
    ·rcases bQ h with h | ⟨h,_⟩
     ·exact bE h
     ·cases h
   have kd:=B.fre _ fr rfl
   obtain ⟨m0,hn0,hl⟩:=I.loc
   obtain ⟨u,ru,lk⟩:=hl i z v q e2 (kd.elim (fun h=>.inr (.inl h)) fun h=>.inr (.inr h))
   refine ⟨u,ru,.inr ⟨?_,?_⟩⟩
   ·rcases e3 with h | h | h
    ·rcases bQ h with h | ⟨h,_⟩
     ·exact absurd h (B.oth z hz)
     ·cases h
    ·exact .inl h
    ·exact .inr h
   ·rcases lk with ⟨k1,_⟩ | ⟨_,c,hc,hcell⟩
    ·rcases kd with kd | kd<;>(rw [kd] at k1;cases k1)
    ·obtain ⟨c',hc'⟩:=nJ (env:=X.env) scope.names [] z fr
     have:=sub z c' hc'
     rw [hc] at this
     cases this
     obtain ⟨o,ho,hd⟩:=hcell
     exact ⟨c,hc',o,old _ _ ho,hd⟩
 ·obtain ⟨v,o,ho,hd⟩:=I.cell y c (sub y c e)
  exact ⟨v,o,old _ _ ho,hd⟩
 ·obtain ⟨v,o,ho,hd⟩:=I.cell y c (sub y c e)
  exact free (old_lt ho).1 (I.freeC y c (sub y c e))
 ·obtain ⟨e,n,ne,nf,d⟩:=I.pin p hp
  refine ⟨old _ _ e,free (old_lt e).1 n,(old_lt e).2,fun z=>?_,d⟩
  rcases List.mem_cons.mp (I.stkSub _ z) with w | w
  ·exact ne w
  ·exact nf w
 ·show (σ++xs.map fun _=>none).length=(X.N++xs).length
  rw [List.length_append,List.length_append,List.length_map,I.len]
end
theorem wJ {f:Ev} {ρ:Rho} {d:D} {ds es:List D} (h:dU f ρ (d::ds)=.ok es):
  ∃ a b e es',d=.tup [a,b]/\f (ρ++[.val a,.val b])=.ok e/\dU f ρ ds=.ok es'/\es=e::es':=by
 unfold dU at h
 split at h
 ·cases ‹_=[]›
 ·rename_i a b ds' q
  cases q
  cases hf:noErr (f (ρ++[.val a,.val b])) with
  | no=>rw [hf] at h;cases h
  | err c=>rw [hf] at h;cases h
  | ok e=>
   rw [hf] at h
   cases hr:dU f ρ ds with
   | no=>simp only [Res.bind,hr] at h;cases h
   | err c=>simp only [Res.bind,hr] at h;cases h
   | ok es'=>
    simp only [Res.bind,hr] at h
    cases h
    exact ⟨a,b,e,es',rfl,rL hf,rfl,rfl⟩
 ·cases h
theorem vA {f:Ev} {ρ:Rho} {c:Str}:∀ {ds:List D},dU f ρ ds≠.err c
 | []=>fun h=>by cases h
 | d::ds=>fun h=>by
  unfold dU at h
  split at h
  ·cases ‹_=[]›
  ·rename_i a b ds' q
   cases q
   cases hf:noErr (f (ρ++[.val a,.val b])) with
   | no=>rw [hf] at h;cases h
   | err c=>cases q:f (ρ++[.val a,.val b])<;>(rw [q] at hf;cases hf)
   | ok e=>
    rw [hf] at h
    cases hr:dU f ρ ds with
    | no=>simp only [Res.bind,hr] at h;cases h
    | err c'=>exact vA hr
    | ok es'=>simp only [Res.bind,hr] at h;cases h
  ·cases h
section
variable {X:Cx} {G:Gx} {elt iter:Expr} {xa xb:Str} {pa pb tp pos:Pos} {x1:Nat} {scope:Scope} {it:Fv} {f:Ev} {k:Nat}
theorem zAl (hc:X.calm=true/\TB X.K X.mg G.Bi G.B) (hr:Room k X.A) (Bk:BlkOk2 X [xa,xb] scope) (hN:(X.N++[xa,xb]).Nodup) (hi:PId X G (.Tuple [.Name xa pa,.Name xb pb] x1 tp) iter it)
  (hb:∀ (C:Addr) (s₂:Shared) (H₂:Hp) (fp:List Addr) (G':Gx),Good (vN X [xa,xb] scope C s₂ H₂ fp) G' k->PEd (vN X [xa,xb] scope C s₂ H₂ fp) G' elt f)
  (hs:∀ x,foldedSetIterable iter X.env x=pure x:=by intro _;rfl)
  {pins:List (Addr×Obj)} {s:Shared} {σ:St} {H Hi:Hp} {ρ:Rho} {use:Option (Value->Sem Unit)} {Q':Value->Shared->Prop} {Qa:Addr->Hp->Prop} {cpos:Pos} (I:Inv X pins σ H s) (R:dS X G Hi H σ ρ)
  (ou:Out G Hi H ((qH it f) ρ) fun ds Hi' H'=>∀ a,zGV X.K H Hi' H' a ds->Qa a H') (hend:zLn X pins σ use Q' Qa):
  wpAny (model X.prog X.w) X.A (comprehension (.ListComp elt [⟨.Tuple [.Name xa pa,.Name xb pb] x1 tp,iter,[],0⟩] scope pos) scope X.env cpos (newList []) false (eval iter X.env) use) Q' X.xe s:=by
 refine wpAny_comprehension_free (use:=use) rfl hs (zEw (Bk.cl I)) Bk.kind Bk.names ?_
 refine thn (hi pins s σ H (fun J H2=>∃ ds Hi2,Ext Hi H Hi2 H2/\Gives X.K Hi2 J ds/\Out G Hi2 H2 (if ds.length<=16777215 then dU f ρ ds else .no) fun ds Hi' H'=>∀ a,zGV X.K H Hi' H' a ds->Qa a H') I
  ⟨ρ,Hi,R,(Out.bind ou).imp fun ds Hi2 H2 e2 o2 J gv=>⟨ds,Hi2,e2,gv,o2⟩⟩) fun v s1 h1=>thn h1 fun itv s2 h2=>?_
 obtain ⟨itA,fp,tn,J,H2,rfl,I2,T,st2,f2,ds,Hi2,e2,gv,ou2⟩:=h2
 have hlen:ds.length<=16777215:=by
  by_cases hlen:ds.length<=16777215
  ·exact hlen
  ·rw [if_neg hlen] at ou2;exact ou2.elim
 rw [if_pos hlen] at ou2
 cases hes:dU f ρ ds with
 | no=>rw [hes] at ou2;exact ou2.elim
 | err c=>exact absurd hes vA
 | ok es=>
  rw [hes] at ou2
  have R2:dS X G Hi2 H2 σ ρ:=R.grow e2
  refine wpAny_newObj_type (wpAny_newFunctionEnv Bk.cell (by intro y hy;simp at hy) (fun h₁ hns₁ hsb₁=>?_) Bk.kind)
  dsimp only at hns₁ hsb₁ ⊢
  generalize hH2:s2.heap.push { cls:=.type "list", dict:=none,data:=.seq ([]:List Value).toArray }=HP at hns₁ hsb₁ ⊢
  have hC:HP.objs.size=s2.heap.objs.size+1:=by rw [<-hH2,Heap.size_push]
  have hDC:s2.heap.objs.size≠HP.objs.size:=by rw [hC];omega
  have ltC:∀ {b:Addr} {o:Obj},s2.heap.get? b=some o->b≠HP.objs.size:=fun e=>by rw [hC];exact Nat.ne_of_lt (Nat.lt_succ_of_lt (Heap.lt_size e))
  have old:∀ b o,s2.heap.get? b=some o->h₁.get? b=some o:=fun b o e=>hsb₁.extBut b o (ltC e) (Heap.get?_push_of_some _ (hH2 ▸ Heap.get?_push_of_some _ e))
  have hacc:h₁.get? s2.heap.objs.size=some { cls:=.type "list", data:=.seq ([]:List Value).toArray 0 }:=hsb₁.extBut _ _ hDC (Heap.get?_push_of_some _ (hH2 ▸ Heap.get?_push_size _ rfl))
  have hfl:∀ b∈fp,b < s2.heap.objs.size:=fun b hb=>by obtain ⟨o,e,_⟩:=T.obj _ _ st2 b hb;exact Heap.lt_size e
  have IE:=zJn (t:=s2.toks+([]:List (Str×Value)).length) I2 Bk f2 hfl (Nat.le_refl _) (by rw [hC];omega) hDC old hacc hns₁
  have sub:=oI scope.names [] (Bk.cl I2) (fun y c e=>nomatch e)
  have H2D:H2 s2.heap.objs.size=none:=I2.hok.fresh (Nat.le_refl _)
  have HD:H s2.heap.objs.size=none:=e2.h.none H2D
  have Hi2D:Hi2 s2.heap.objs.size=none:=e2.s.none H2D
  generalize hX:vN X [xa,xb] scope HP.objs.size s2 H2 fp=Y at IE
  have GY:Good Y ⟨G.B,G.Bi,fun _ _=>False⟩ k:=by
   subst hX
   exact ⟨hc.1,hr,fun pins σ H s e s' _ h=>by obtain ⟨_,_,_,_,_,c,_,z⟩:=h;exact z.elim,PassesOwn.never,hc.2⟩
  have hel:=(hX ▸ hb HP.objs.size s2 H2 fp ⟨G.B,G.Bi,fun _ _=>False⟩ (hX.symm ▸ GY):PEd Y ⟨G.B,G.Bi,fun _ _=>False⟩ elt f)
  have stat:∀ {H':Hp},(∀ b∈fp,H' b=none)->∀ b∈fp,vX Y pins H' b:=fun hn b hb=>by
   subst hX
   refine ⟨hn b hb,?_,fun z=>?_,.inl hb,fun y c e=>(f2 b hb).2.2.2.2.1 y c (sub y c e),(f2 b hb).2.2.2.2.2⟩
   ·show b≠HP.objs.size
    rw [hC];exact Nat.ne_of_lt (Nat.lt_succ_of_lt (hfl b hb))
   ·rcases List.mem_cons.mp (I2.stkSub b z) with w | w
    ·exact (f2 b hb).2.1 w
    ·exact (f2 b hb).2.2.1 w
  have YN:Y.N.Nodup:=by subst hX;exact hN
  have Ya:Y.N[σ.length]?=some xa:=by
   subst hX
   show (X.N++[xa,xb])[σ.length]?=some xa
   rw [List.getElem?_append_right (by rw [I2.len];omega),I2.len,Nat.sub_self]
   rfl
  have Yb:Y.N[σ.length+1]?=some xb:=by
   subst hX
   show (X.N++[xa,xb])[σ.length+1]?=some xb
   rw [List.getElem?_append_right (by rw [I2.len];omega),I2.len,Nat.add_sub_cancel_left]
   rfl
  have Yla:Y.env.scope.names.lookup xa=some .local:=by subst hX;exact lookup_relabel_local (Bk.loc xa (by simp))
  have Ylb:Y.env.scope.names.lookup xb=some .local:=by subst hX;exact lookup_relabel_local (Bk.loc xb (by simp))
  have asg:PG Y (.Tuple [.Name xa pa,.Name xb pb] x1 tp) (L2.zDf Y.K 2 (L2.kG (L2.gName σ.length) (L2.kG (L2.gName (σ.length+1)) L2.zDc))):=
   zFb (by subst hX;exact hc.1) (rE (vS YN Ya (.inl Yla) (.inr Yla)) (rE (vS YN Yb (.inl Ylb) (.inr Ylb)) zCE))
  have Ye:Y.env=compEnvC scope (wA X.env scope.names []) HP.objs.size X.env:=by subst hX;rfl
  have Yxe:∀ e s,¬ Y.xe e s:=by subst hX;exact fun _ _ h=>h
  have tn1:tn 0 h₁:=T.keep _ _ _ st2 fun b _ o e=>old b o e
  have loop:∀ s3:Shared,s3={ s2 with heap:=h₁,toks:=s2.toks+([]:List (Str×Value)).length }->
    codeAny (model X.prog X.w) X.A (.compLoop (.ListComp elt [⟨.Tuple [.Name xa pa,.Name xb pb] x1 tp,iter,[],0⟩] scope pos) 0 (.ref itA) (.ref s2.heap.objs.size) Y.env) (compPost (model X.prog X.w) X.A X.xe use Q' (.ref s2.heap.objs.size) HP.objs.size) s3:=by
   rintro s3 rfl
   subst hX
   have fr0:∀ b∈fp,upd H2 s2.heap.objs.size (.lst []) b=none:=fun b hb=>by
    rw [aG (Nat.ne_of_lt (hfl b hb))]
    exact (f2 b hb).1
   refine PyProof.Rows.LCp.codeAny_compLoop_pair (fun n s'=>∃ c:CW,n=ds.length - c.i/\CS (vN X [xa,xb] scope HP.objs.size s2 H2 fp) pins σ tn fp Hi2 H2 s2.heap.objs.size 2 (fun i=>dU f ρ (ds.drop i)) es c s') ?_ ds.length
    ⟨⟨0,[none,none],_,Hi2,[],[],es⟩,rfl,⟨IE,rfl,tn1,fr0,(Ext.refl e2.s).trans (Ext.newF e2.s H2D),aE,Hi2D,.nil,Nat.le_refl _,hes,rfl⟩⟩
   ·rintro n s3 ⟨⟨i,vv,H3,Hi3,ys,done,rest⟩,rfl,I3,wd3,st3,fr3,e3,hD3,hiD3,rd3,hl3,hr3,hes3⟩
    dsimp only at I3 wd3 st3 fr3 e3 hD3 hiD3 rd3 hl3 hr3 hes3 ⊢
    obtain ⟨v,v',rfl⟩:∃ v v',vv=[v,v']:=by
     match vv,wd3 with
     | [v,v'],_=>exact ⟨v,v',rfl⟩
    obtain ⟨w1,w2⟩:=gv Hi3 H3 e3.i e3.s i
    have lift:∀ {α:Type} {m:Sem α} {Q':α->Shared->Prop} {E:Value->Shared->Prop} {s':Shared},wpAny (model X.prog X.w) X.A m Q' (vN X [xa,xb] scope HP.objs.size s2 H2 fp).xe s'->wpAny (model X.prog X.w) X.A m Q' E s':=fun h=>wpAny_mono h (fun _ _ z=>z) fun e s z=>(Yxe e s z).elim
    by_cases hlt:i < ds.length
    ·obtain ⟨d,hd⟩:∃ d,ds[i]?=some d:=⟨_,List.getElem?_eq_getElem hlt⟩
     obtain ⟨go,yl⟩:=w2 d hd
     have e4:ds.drop i=d::ds.drop (i+1):=by
      rw [List.getElem?_eq_getElem hlt] at hd
      cases hd
      exact List.drop_eq_getElem_cons hlt
     rw [e4] at hr3
     refine thn (T.item (vN X [xa,xb] scope HP.objs.size s2 H2 fp) rfl rfl rfl hc.1 i pins s3 _ H3 _ I3 (stat fr3) st3 go) fun r s4 ⟨u,hru,h4⟩=>?_
     subst hru
     refine thn h4 fun _ s5 h5=>?_
     obtain ⟨xv,H5,I5,r5,y5,st5,fr5⟩:=h5
     obtain ⟨Hi5,e5,rd5⟩:=yl xv H5 y5
     have I5':=I5.pinned (stat fr5) (T.obj _ _ st5)
     obtain ⟨a,b,e,es',rfl,hf,hr4,hee⟩:=wJ hr3
     obtain ⟨pa',ps,rfl,hq,hps⟩:=rd5.tupI
     obtain ⟨va,vb,rfl,ra,rb⟩:=hps.two
     refine lift (thn (asg _ s5 _ H5 _ u (fun σ' H'=>σ'=σ++[some va,some vb]/\H'=H5) I5' r5 ⟨pa',_,rfl,bO (e3.trans e5).s hq,rfl,va,_,rfl,vb,_,rfl,rfl,?_,rfl⟩) fun _ s6 h6=>?_)
     ·rw [List.set_append_right _ _ (Nat.le_refl _),Nat.sub_self,List.set_append_right _ _ (Nat.le_succ _),Nat.succ_sub (Nat.le_refl _),Nat.sub_self];rfl
     obtain ⟨σ6,H6,I6,rfl,rfl⟩:=h6
     have E5:Ext Hi2 H2 Hi5 H6:=e3.trans e5
     have R5:dS (vN X [xa,xb] scope HP.objs.size s2 H2 fp) ⟨G.B,G.Bi,fun _ _=>False⟩ Hi5 H6 (σ++[some va,some vb]) (ρ++[.val a,.val b]):=by
      have:=Rel.snoc (Rel.snoc (R2.grow E5) ra) rb
      rw [List.append_assoc,List.append_assoc] at this
      exact this
     obtain ⟨hD5,hiD5⟩:=e5.out hD3 hiD3
     have rd5':=rd3.mono e5.i
     have again:∀ {H8 Hi8:Hp} {ys':List V} {done' rest':List D} {s8:Shared},Inv (vN X [xa,xb] scope HP.objs.size s2 H2 fp) (pins++pM fp s5.heap) (σ++[some va,some vb]) H8 s8->Ext Hi2 H2 Hi8 H8->H8 s2.heap.objs.size=some (.lst ys')->Hi8 s2.heap.objs.size=none->IsDs X.K Hi8 ys' done'->done'.length<=i+1->
       dU f ρ (ds.drop (i+1))=.ok rest'->es=done'++rest'->∃ m,m < ds.length - i/\∃ c:CW,m=ds.length - c.i/\CS (vN X [xa,xb] scope HP.objs.size s2 H2 fp) pins σ tn fp Hi2 H2 s2.heap.objs.size 2 (fun i=>dU f ρ (ds.drop i)) es c s8:=fun {H8 Hi8 ys' done' rest' s8} I8 E8 a1 a2 a3 a4 a5 a6=>by
      refine ⟨ds.length - (i+1),by omega,⟨i+1,[some va,some vb],H8,Hi8,ys',done',rest'⟩,rfl,⟨I8.unpinned,rfl,T.keep _ _ _ st5 fun b hb o e=>(I8.pin (b,o) (List.mem_append_right _ (List.mem_append_right _ (fF hb e)))).1,fun b hb=>?_,E8,a1,a2,a3,a4,a5,a6⟩⟩
      obtain ⟨o,e,_⟩:=T.obj _ _ st5 b hb
      exact (I8.pin (b,o) (List.mem_append_right _ (List.mem_append_right _ (fF hb e)))).2.1
     refine lift (thn (hel _ s6 _ H6 (fun w H'=>∃ Hi',Ext Hi5 H6 Hi' H'/\IsD X.K Hi' w e) I6 ⟨_,Hi5,R5,by rw [hf];exact fun Hi' H' ee w hw=>⟨Hi',ee,hw⟩⟩) fun u8 s8 h8=>?_)
     obtain ⟨w8,H8,I8,r8,Hi8,e8,rw8⟩:=h8
     obtain ⟨hD8,hiD8⟩:=e8.out hD5 hiD5
     have rdy:IsDs X.K Hi8 ys done:=rd5'.mono e8.i
     refine lift (thn (gJ (X:=(vN X [xa,xb] scope HP.objs.size s2 H2 fp)) _ s8 _ H8 (.ref s2.heap.objs.size) [w8] (.ref s2.heap.objs.size) [u8] (fun _ H'=>H'=upd H8 s2.heap.objs.size (.lst (ys++[w8]))) I8 rfl (.cons r8 .nil) ⟨_,ys,w8,rfl,rfl,hD8,?_,rfl⟩) fun _ s9 h9=>?_)
     ·rw [rdy.length]
      exact Nat.lt_of_le_of_lt hl3 (Nat.lt_of_lt_of_le hlt (Nat.le_trans hlen (by decide)))
     ·obtain ⟨_,H9,I9,_,rfl⟩:=h9
      refine again I9 (Ext.rewrite (E5.trans e8) H2D hiD8 ⟨_,hD8⟩) aE hiD8 (rdy.snoc rw8) (by rw [List.length_append];exact Nat.succ_le_succ hl3) hr4 ?_
      rw [hes3,hee,List.append_assoc];rfl
    ·rw [List.drop_eq_nil_of_le (by omega),dU] at hr3
     cases hr3
     refine thn (T.done (vN X [xa,xb] scope HP.objs.size s2 H2 fp) rfl rfl rfl hc.1 i pins s3 _ H3 _ I3 (stat fr3) st3 (w1 (by omega))) fun r s4 ⟨hrn,I4⟩=>?_
     subst hrn
     obtain ⟨m4,hn4,_⟩:=I4.loc
     have fC:H3 HP.objs.size=none:=I4.free
     have nC:∀ b u,H3 b=some u->b≠HP.objs.size:=fun b u e z=>by rw [z,fC] at e;cases e
     have U4:=I4.base
     refine hend HP.objs.size s2.heap.objs.size m4 s4 H3 hn4 (fun h' hs'=>?_) (I2.fpOk (by rw [hC];omega) fC) ?_
     ·have kp:∀ b o,b≠HP.objs.size->s4.heap.get? b=some o->h'.get? b=some o:=fun b o hb e=>hs'.extBut b o hb e
      refine Inv.call' I2 (ch:=fp) I4.os ⟨fun b o e n hb hx=>kp b o (ltC e) (U4.keep b o e n hb hx),fun b o e n hb hx=>?_,U4.free,fun b o e hx=>?_,U4.tups,U4.frzs,U4.tbls⟩ (fun b u e=>?_) I4.bare (fun b hb=>⟨(f2 b hb).2.2.2.1,(f2 b hb).2.1,(f2 b hb).2.2.2.2.1,(f2 b hb).2.2.2.2.2⟩)
      ·obtain ⟨sl,q⟩:=U4.slot b o e n hb hx
       exact ⟨sl,kp b _ (ltC e) q⟩
      ·obtain ⟨o',q⟩:=U4.there b o e hx
       exact ⟨o',kp b _ (ltC e) q⟩
      ·refine (I4.hok b u e).stay (fun c v hc q=>kp c v ?_ q) (fun _ q=>q) fun _ _ q=>q
       rcases hc with z | z
       ·rw [z];exact nC b u e
       ·exact nC c _ z
     ·refine ou2 Hi3 H3 e3 _ ⟨HD,hiD3,ys,hD3,?_⟩
      rw [hes3,List.append_nil]
      exact rd3
  rw [Ye] at loop
  exact codeAny_compStart_list (loop _ rfl) (T.self _ 0 _ _ _ tn1 (loop _ rfl))
theorem zEq (hc:X.calm=true/\TB X.K X.mg G.Bi G.B) (hr:Room k X.A) (Bk:BlkOk2 X [xa,xb] scope) (hN:(X.N++[xa,xb]).Nodup) (hi:PId X G (.Tuple [.Name xa pa,.Name xb pb] x1 tp) iter it)
  (hb:∀ (C:Addr) (s₂:Shared) (H₂:Hp) (fp:List Addr) (G':Gx),Good (vN X [xa,xb] scope C s₂ H₂ fp) G' k->PEd (vN X [xa,xb] scope C s₂ H₂ fp) G' elt f)
  (hs:∀ x,foldedSetIterable iter X.env x=pure x:=by intro _;rfl):PCf X G (.ListComp elt [⟨.Tuple [.Name xa pa,.Name xb pb] x1 tp,iter,[],0⟩] scope pos) (qH it f):=by
 intro pins s σ H Q I w u Q' hend
 obtain ⟨ρ,Hi,R,ou⟩:=w
 rw [arm_evalThenUse_ListComp]
 refine wpAny_bind (zAl hc hr Bk hN hi hb hs (use:=some u) (Q':=fun _ s=>wpAny (model X.prog X.w) X.A (pure ()) Q' X.xe s) (Qa:=fun a H'=>Q (.ref a) H') I R ou fun C A m s4 H3 hn hI fo q=>?_)
 refine thn (hend C m s4 (.ref A) (.ref A) H3 hn hI fo rfl q) fun _ s5 h5=>?_
 obtain ⟨m5,hn5,h5⟩:=h5
 exact ⟨m5,hn5,fun h' hs'=>wpAny_pure (h5 h' hs')⟩
def zFS (sc:Scope) (N:List Str) (xs:List Str) (scope:Scope):Bool:=
 scope.names.all (fun y=>y.2 != .cell) && xs.all (fun x=>scope.names.lookup x==some .local) && scope.names.all (fun y=>y.2 != .local || scope.names.lookup y.1==some .local)
  && scope.names.all (fun p=>p.2 != .free || (sc.names.lookup p.1==some .cell || sc.names.lookup p.1==some .free)) && N.all (fun y=>scope.names.lookup y != some .local)
theorem zGj {sc:Scope} {N xs:List Str} (hk:scope.kind=.function) (hsc:X.env.scope=sc) (hN:X.N=N) (h:zFS sc N xs scope=true):BlkOk2 X xs scope:=by
 unfold zFS at h
 simp only [Bool.and_eq_true] at h
 obtain ⟨⟨⟨⟨h1,h2⟩,h3⟩,h4⟩,h5⟩:=h
 subst hN hsc
 refine ⟨hk,fun y hy e=>?_,fun x hx=>?_,fun y hy e=>?_,fun p hp e=>?_,fun y hy e=>?_⟩
 ·have:=List.all_eq_true.mp h1 y hy
  rw [e] at this;cases this
 ·exact beq_iff_eq.mp (List.all_eq_true.mp h2 x hx)
 ·have:=List.all_eq_true.mp h3 y hy
  rw [e] at this
  simpa using this
 ·have:=List.all_eq_true.mp h4 p hp
  rw [e] at this
  have q:X.env.scope.names.lookup p.1=some .cell∨X.env.scope.names.lookup p.1=some .free:=by simpa using this
  exact q
 ·have:=List.all_eq_true.mp h5 y hy
  rw [e] at this
  cases this
theorem tI {sc:Scope} {N:List Str} (W:Good X G k) (hnd:(N++[xa,xb]).Nodup) (hk:scope.kind=.function) (hsc:X.env.scope=sc) (hN:X.N=N) (h:zFS sc N [xa,xb] scope=true) (hi:PId X G (.Tuple [.Name xa pa,.Name xb pb] x1 tp) iter it)
  (hb:∀ (C:Addr) (s₂:Shared) (H₂:Hp) (fp:List Addr) (G':Gx),Good (vN X [xa,xb] scope C s₂ H₂ fp) G' k->PEd (vN X [xa,xb] scope C s₂ H₂ fp) G' elt f)
  (hs:∀ x,foldedSetIterable iter X.env x=pure x:=by intro _;rfl):PCf X G (.ListComp elt [⟨.Tuple [.Name xa pa,.Name xb pb] x1 tp,iter,[],0⟩] scope pos) (qH it f):=
 zEq ⟨W.calm,W.tb⟩ W.room (zGj hk hsc hN h) (hN ▸ hnd) hi hb hs
end
end L3
namespace L3
open PySem PySem.Spec PyProof.Rows L2
section
variable {prog:Program} {w:World} {A:Around} {E:Value->Shared->Prop} {s:Shared}
theorem zCv {t sl:Addr} {its:Array Value} {vl vu:Value} {lo hi:Option Int} {Q:Value->Shared->Prop} (a:IsTup s.heap t its) (b:s.heap.IsSliceOf sl vl vu .none) (pl:IsPart vl lo) (pu:IsPart vu hi)
  (c:HT.sIx its.size 0 lo=0/\HT.sIx its.size its.size hi=its.size) (q:Q (.ref t) s):wpAny (model prog w) A (getItem (.ref t) (.ref sl)) Q E s:=by
 obtain ⟨os,e1,e2,_⟩:=id b
 have ty:s.TypeIs (.ref sl) "slice" := ⟨os,e1,e2⟩
 unfold getItem
 try with_reducible refine wpAny_holding ?_
 first | refine wpAny_bind (wpAny_pure ?_) | skip
 refine wpAny_bind (wpAny_sequenceKey a.typeIs (by decide) (wpAny_bind (wpAny_callSpecial?_slot (name:=Str.ofString "__getitem__") a.typeIs PyProof.Rows.slot_tuple_getitem (wpAny_call_entry PyProof.Rows.slot_tuple_getitem a.typeIs entry_tuple_getitem ?_ (args_tuple_getitem _ _)))))
 refine show wpAny _ _ (Builtin.Tuple.tupleItemsOf (.ref t) >>= _) _ _ s from wpAny_bind (tupleItemsOf_ a (wpAny_bind (wpAny_typeOf ty ?_)))
 rw [if_pos (by decide)]
 refine wpAny_bind (HT.sliceApplied_gen b pl pu ?_)
 show wpAny _ _ (if (((HT.sIx its.size 0 lo:Nat):Int)==0 && (1:Int)==1 && (HT.sIx its.size its.size hi - HT.sIx its.size 0 lo)==its.size)=true then _ else _) _ _ s
 rw [c.1,c.2,if_pos (by simp)]
 refine wpAny_bind ?_
 unfold Builtin.Tuple.tupleIsExact
 first
  | refine wpAny_bind (wpAny_typeOf a.typeIs (wpAny_pure ?_))
  | refine wpAny_bind (wpAny_load a.choose_spec.1 (wpAny_pure ?_))
 rw [if_pos (by first | decide | rfl)]
 exact wpAny_bind (wpAny_rule (wpAny_pure ⟨_,rfl,wpAny_pure q⟩))
end
section
variable {X:Cx} {G:Gx} {fs:Fv} {f:Ev}
def zLJ (K:PySem.W.Frag):V->Option Int->Option Int->Hp->VK->Prop:=fun x lo hi H Q=>∃ a xs,x=.ref a/\SqT K H a xs/\(HT.sIx xs.length 0 lo=0/\HT.sIx xs.length xs.length hi=xs.length)/\Q (.ref a) H
theorem zDh:SlR X (zLJ X.K):=by
 intro pins s σ H x v vl vu lo hi sl Q I rx hs pl pu h
 obtain ⟨a,xs,rfl,hx,hw,q⟩:=h
 cases rx
 obtain ⟨its,r,ht,hz⟩:=I.tuple hx
 have hlen:its.toArray.size=xs.length:=by rw [List.size_toArray];exact r.length.symm
 exact ⟨"tuple", _,PyProof.Rows.slot_tuple_getitem.lookup,ht.typeIs,zCv ht hs pl pu (by rw [hlen];exact hw) ⟨.ref a,H,I,rfl,q⟩⟩
unseal PEd PEf PTd PWd PAd PSd bX POd PGd dH PId PSx eY PTs PCd PCf
theorem tO {e:Expr} {pos:Pos} {lo hi:Option Expr} {l h:Ov} {p2:Pos} (he:PEd X G e f) (hl:POd X G lo l) (hu:POd X G hi h):PEd X G (.Subscript e (.Slice lo hi none p2) pos) (zJu f l h):=
 PE.wk (sN (SlR.or zBs (SlR.or zIc zDh)) he hl hu) fun σ H Q q=>by
 obtain ⟨ρ,Hi,R,ou⟩:=q
 refine lZ R ou fun v d Hi1 H1 e1 R1 r1 o1=>?_
 refine zHd R1 o1 fun i Hi2 H2 e2 R2 o2=>?_
 refine zHd R2 o2 fun j Hi3 H3 e3 R3 o3=>?_
 have eh:=e1.h.trans (e2.h.trans e3.h)
 have ei:=e2.i.trans e3.i
 cases d with
 | lst ds=>
  obtain ⟨a,xs,rfl,h1,h2⟩:=r1.lstI
  refine .inl ⟨a,xs,rfl,bU (ei.trans R3.s) h1,fun p hp=>?_⟩
  exact o3 _ _ (Ext.new R3.s hp) (.ref p) (.lst (SqL.of aE) (((h2.cut i j).mono ei).mono (aS (R3.s.none hp) _)))
 | tup ds=>
  obtain ⟨a,xs,rfl,h1,h2⟩:=r1.tupI
  by_cases z:HT.sIx xs.length 0 i=0/\HT.sIx xs.length xs.length j=xs.length
  ·refine .inr (.inr ⟨a,xs,rfl,bO (ei.trans R3.s) h1,z,?_⟩)
   have hc:=h2.cut i j
   have ew:zDe xs i j=xs:=by
    unfold zDe
    rw [z.1,z.2,List.drop_zero,Nat.sub_zero,List.take_length]
   rw [ew] at hc
   exact o3.here R3.s (.ref a) (.tup (bO ei h1) (hc.mono ei))
  ·refine .inr (.inl ⟨a,xs,rfl,bO (ei.trans R3.s) h1,z,fun p hp=>?_⟩)
   exact o3 _ _ (Ext.new R3.s hp) (.ref p) (.tup (SqT.of aE) (((h2.cut i j).mono ei).mono (aS (R3.s.none hp) _)))
 | _=>exact o3.elim
def PJd (X:Cx) (G:Gx) (es:List Expr) (fs:Fv):Prop:=∀ (out:Str) (pins:List (Addr×Obj)) (s:Shared) (σ:St) (H Hi:Hp) (ρ:Rho) (Q:VK),out.length<=sizeLine->Inv X pins σ H s->dS X G Hi H σ ρ->
 Out G Hi H (fs ρ) (fun ds Hi' H'=>∃ x,sQ out ds=some x/\Q (.str x) H')->wpAny (model X.prog X.w) X.A (joinParts out (evalEach es X.env)) (EP X pins σ Q) X.xe s
theorem zBC:PJd X G [] aNil:=fun out pins s σ H Hi ρ Q ho I R ou=>by
 obtain ⟨x,e,q⟩:=ou.here R.s
 cases e
 exact joinParts_nil ⟨.str out,H,I.tok _,⟨_,rfl⟩,q⟩ ho
theorem zDV {a x:Str} {d:D} {ds:List D} (h:sQ a (d::ds)=some x):∃ y,zFk d=some y/\y.length<=sizeLine/\(a++y).length<=sizeLine/\sQ (a++y) ds=some x:=by
 unfold sQ at h
 cases q:zFk d with
 | none=>rw [q] at h;cases h
 | some y=>
  rw [q] at h
  by_cases c:y.length<=sizeLine/\(a++y).length<=sizeLine
  ·simp only [c,and_self,if_true] at h
   exact ⟨y,rfl,c.1,c.2,h⟩
  ·simp only [c,if_false] at h
   cases h
theorem xP {r:Fv} {Hi H:Hp} {out:Str} {ρ:Rho} {Q:VK} {d:D} (ne:∀ ρ c,r ρ≠.err c) (s:Same Hi H) (o:Out G Hi H ((r ρ).bind fun ds=>.ok (d::ds)) (fun ds Hi' H'=>∃ x,sQ out ds=some x/\Q (.str x) H')):
  ∃ y,zFk d=some y/\y.length<=sizeLine/\(out++y).length<=sizeLine/\Out G Hi H (r ρ) (fun ds Hi' H'=>∃ x,sQ (out++y) ds=some x/\Q (.str x) H'):=by
 cases z:r ρ with
 | no=>rw [z] at o;exact o.elim
 | err c=>exact absurd z (ne ρ c)
 | ok ds=>
  rw [z] at o
  have o':∀ Hi' H',Ext Hi H Hi' H'->∃ x,sQ out (d::ds)=some x/\Q (.str x) H':=o
  obtain ⟨x,e,_⟩:=o' Hi H (Ext.refl s)
  obtain ⟨y,y1,y2,y3,y4⟩:=zDV e
  refine ⟨y,y1,y2,y3,fun Hi' H' ee=>?_⟩
  obtain ⟨x',e',q'⟩:=o' Hi' H' ee
  rw [e] at e'
  cases e'
  exact ⟨x,y4,q'⟩
theorem qM {e:Expr} {es:List Expr} {pos:Pos} {r:Fv} (he:PEd X G e f) (hr:PJd X G es r) (ne:∀ ρ c,r ρ≠.err c) (hs:evalEach (.FormattedValue e (-1) none pos::es) X.env=eval (.FormattedValue e (-1) none pos) X.env::evalEach es X.env:=by rfl):
  PJd X G (.FormattedValue e (-1) none pos::es) (aA f r):=fun out pins s σ H Hi ρ Q ho I R ou=>by
 rw [hs]
 refine joinParts_cons (FormattedValue_plain (thn (he pins s σ H (fun v H1=>∃ d Hi1 y,dS X G Hi1 H1 σ ρ/\IsD X.K Hi1 v d/\zFk d=some y/\y.length<=sizeLine/\(out++y).length<=sizeLine/\Out G Hi1 H1 (r ρ) (fun ds Hi' H'=>∃ x,sQ (out++y) ds=some x/\Q (.str x) H')) I
  (lZ R ou fun v d Hi1 H1 e1 R1 r1 o1=>?_)) fun u s1 ⟨v,H1,I1,rv,d,Hi1,y,R1,r1,y1,y2,y3,o1⟩=>?_))
 ·obtain ⟨y,y1,y2,y3,y4⟩:=xP ne R1.s o1
  exact ⟨d,Hi1,y,R1,r1,y1,y2,y3,y4⟩
 ·cases d with
  | str z=>
   cases y1
   cases r1.strI
   obtain ⟨t,rfl⟩:=rv
   exact formatField_str (fun t' tk=>⟨y3,hr (out++y) pins { s1 with toks:=tk } σ H1 Hi1 ρ Q y3 (I1.tok tk) R1 o1⟩) y2
  | int i=>
   unfold zFk at y1
   by_cases hd:i.natAbs.log2 < 1920
   ·simp only [hd,if_true] at y1
    cases y1
    cases r1.intI
    obtain ⟨t,rfl⟩:=rv
    exact formatField_int_small hd ⟨y3,hr (out++toString i) pins { s1 with toks:=s1.toks+1+1 } σ H1 Hi1 ρ Q y3 (I1.tok _) R1 o1⟩
   ·simp only [hd,if_false] at y1
    cases y1
  | _=>cases y1
theorem xT {z:Str} {k:Nat} {es:List Expr} {pos:Pos} {r:Fv} (hr:PJd X G es r) (ne:∀ ρ c,r ρ≠.err c) (hs:evalEach (.Constant (.str z) k pos::es) X.env=eval (.Constant (.str z) k pos) X.env::evalEach es X.env:=by rfl):
  PJd X G (.Constant (.str z) k pos::es) (aA (eC (.str z)) r):=fun out pins s σ H Hi ρ Q ho I R ou=>by
 rw [hs]
 obtain ⟨y,y1,y2,y3,o1⟩:=xP ne R.s (show Out G Hi H ((r ρ).bind fun ds=>.ok (.str z::ds)) _ from ou)
 cases y1
 exact joinParts_cons (Calls.Constant_str ⟨y3,hr (out++z) pins _ σ H Hi ρ Q y3 (I.tok _) R o1⟩)
theorem zCn {v1 v2:Expr} {rest:List Expr} {pos:Pos} (h:PJd X G (v1::v2::rest) fs) (hs:evalEach (v1::v2::rest) X.env=eval v1 X.env::eval v2 X.env::evalEach rest X.env:=by rfl):PEd X G (.JoinedStr (v1::v2::rest) pos) (zHa fs):=by
 intro pins s σ H Q I q
 obtain ⟨ρ,Hi,R,ou⟩:=q
 refine JoinedStr_many ?_
 rw [<-hs]
 refine h Str.empty pins s σ H Hi ρ Q (by decide) I R ((Out.bind ou).imp fun ds Hi' H' e o=>?_)
 unfold zIz at o
 cases z:sQ Str.empty ds with
 | none=>rw [z] at o;exact o.elim
 | some x=>rw [z] at o;exact ⟨x,rfl,o.here e.s _ (.str x)⟩
theorem jB:∀ (ρ:Rho) (c:Str),aNil ρ≠.err c:=fun ρ c z=>by cases z
theorem pW {i:Nat} {r:Fv} (h:∀ ρ c,r ρ≠.err c):∀ (ρ:Rho) (c:Str),aA (aH i) r ρ≠.err c:=fun ρ c z=>by
 have z':(aH i ρ).bind (fun d=>(r ρ).bind fun ds=>.ok (d::ds))=.err c:=z
 cases q:aH i ρ with
 | no=>rw [q] at z';cases z'
 | err c'=>
  unfold aH at q
  split at q<;>cases q
 | ok d=>
  rw [q] at z'
  cases q2:r ρ with
  | no=>simp only [Res.bind,q2] at z';cases z'
  | err c'=>exact h ρ c' q2
  | ok ds=>simp only [Res.bind,q2] at z';cases z'
theorem qL {d:D} {r:Fv} (h:∀ ρ c,r ρ≠.err c):∀ (ρ:Rho) (c:Str),aA (eC d) r ρ≠.err c:=fun ρ c z=>by
 cases q2:r ρ with
 | no=>simp only [aA,eC,Res.bind,q2] at z;cases z
 | err c'=>exact h ρ c' q2
 | ok ds=>simp only [aA,eC,Res.bind,q2] at z;cases z
def zKs (K:PySem.W.Frag):V->List V->Hp->VK->Prop:=fun x vs H Q=>∃ sep a l,x=.str sep/\vs=[.ref a]/\SqL K H a (l.map V.str)/\l.foldl (fun n z=>n+z.length+sep.length) 0<=sizeLine/\Q (.str (Builtin.Str.glued sep l)) H
theorem zDn (sep:Str):∀ l:List Str,(Builtin.Str.glued sep l).length<=l.foldl (fun n z=>n+z.length+sep.length) 0:=by
 have len:∀ (a b:Str),(⟨a.cps++b.cps⟩:Str).length=a.length+b.length:=fun a b=>Array.size_append ..
 have go:∀ (l:List Str) (a:Array Nat) (n:Nat),a.size+sep.length<=n->(l.foldl (fun acc p=>acc++sep.cps++p.cps) a).size+sep.length<=l.foldl (fun n z=>n+z.length+sep.length) n:=by
  intro l
  induction l with
  | nil=>intro a n h;exact h
  | cons z l ih=>
   intro a n h
   refine ih _ _ ?_
   rw [Array.size_append,Array.size_append]
   show a.size+sep.length+z.length+sep.length<=n+z.length+sep.length
   omega
 intro l
 cases l with
 | nil=>exact Nat.zero_le _
 | cons z l=>
  have:=go l z.cps (0+z.length+sep.length) (by show z.length+_<=_;omega)
  show (l.foldl (fun acc p=>acc++sep.cps++p.cps) z.cps).size<=_
  exact Nat.le_trans (Nat.le_add_right ..) this
theorem zAU:∀ {l:List Str} {its:List Value},dM (l.map V.str) its->∃ ps:List (Str×Tok),strValues ps=its/\ps.map (·.1)=l
 | [],_,h=>by cases h;exact ⟨[],rfl,rfl⟩
 | x::l,_,h=>by
  rw [List.map_cons] at h
  cases h with
  | cons r t=>
   obtain ⟨u,rfl⟩:=r
   obtain ⟨ps,e1,e2⟩:=zAU t
   exact ⟨(x,u)::ps,by rw [<-e1];rfl,by rw [List.map_cons,e2]⟩
theorem uE {K:PySem.W.Frag} {H:Hp}:∀ {xs:List V} {ds:List D} {l:List Str},IsDs K H xs ds->mM ds=some l->xs=l.map V.str
 | _,[],_,h,e=>by cases h;cases e;rfl
 | _,.str x::r,l,h,e=>by
  cases h with
  | cons h t=>
   cases q:mM r with
   | none=>simp only [mM,q] at e;cases e
   | some m=>
    simp only [mM,q] at e
    cases e
    rw [h.strI,uE t q]
    rfl
 | _,.int _::r,_,_,e=>by cases e
 | _,.bl _::r,_,_,e=>by cases e
 | _,.non::r,_,_,e=>by cases e
 | _,.tup _::r,_,_,e=>by cases e
 | _,.lst _::r,_,_,e=>by cases e
theorem zGI:MtR X "str.join" (zKs X.K):=by
 intro pins s σ H x vs v us Q I rx rv h
 obtain ⟨sep,a,l,rfl,rfl,hq,hz,q⟩:=h
 obtain ⟨t,rfl⟩:=rx
 obtain ⟨u,rfl,ru⟩:=rv.one
 cases ru
 obtain ⟨its,r,pl,_⟩:=I.list hq
 obtain ⟨ps,e1,e2⟩:=zAU r
 obtain ⟨o,n,eo,co,_,dat⟩:=id pl
 have hlen:=zDn sep l
 have tl:Builtin.Str.tooLong ((ps.map (·.1)).toArray.foldl (·+·.length+sep.length) 0)=false:=by
  rw [e2]
  unfold Builtin.Str.tooLong
  refine decide_eq_false ?_
  have:l.toArray.foldl (fun (n:Nat) (z:Str)=>n+z.length+sep.length) 0=l.foldl (fun n z=>n+z.length+sep.length) 0:=by simp
  rw [this];omega
 have g:PySem.Gives (joinTail sep (strValues ps)) (match ps with | [p]=>Made.val (.str p.1 p.2) | _=>Made.str (Builtin.Str.glued sep (ps.map fun p:Str×Tok=>p.1))):=by
  match ps,tl with
  | [],h=>exact gives_joinTail sep [] h
  | [p],h=>exact gives_joinTail sep [p] h
  | p::p'::r,h=>exact gives_joinTail sep (p::p'::r) h
 have md:∀ ps:List (Str×Tok),(∀ tk t',(EP X pins σ Q) (.str (Builtin.Str.glued sep (ps.map fun p:Str×Tok=>p.1)) t') { s with toks:=tk })->(Builtin.Str.glued sep (ps.map fun p:Str×Tok=>p.1)).length<=sizeLine->
   (match ps with | [p]=>Made.val (.str p.1 p.2) | _=>Made.str (Builtin.Str.glued sep (ps.map fun p:Str×Tok=>p.1))).post (EP X pins σ Q) s:=by
  intro ps h1 h2
  match ps with
  | []=>exact ⟨h2,h1 _ _⟩
  | [p]=>exact h1 s.toks p.2
  | p::p'::r=>exact ⟨h2,h1 _ _⟩
 have mj:Meets (Builtin.«str.join» ⟨[.str sep t,.ref a],[]⟩) (fun _ R s'=>s'=s/\(match ps with | [p]=>Made.val (.str p.1 p.2) | _=>Made.str (Builtin.Str.glued sep (ps.map fun p:Str×Tok=>p.1))).post (fun v s'=>R (.ok (.ret v)) s') s'):=fun prog w A R s' h=>by
  obtain ⟨rfl,h⟩:=h
  rw [join_tree_other]
  refine wpAny_bind (wpAny_typeOf pl.isList.typeIs ?_)
  rw [if_pos (by decide)]
  refine wpAny_bind (wpAny_seqItems eo dat ?_)
  show wpAny _ _ (joinTail sep its.toArray.toList) _ _ _
  rw [show its.toArray.toList=its from rfl,<-e1]
  exact g prog w A R s' h
 refine call_meets F.slot_str_join (typeIs_str _ _ _) F.entry_str_join (F.args_str_join_2 _ _) mj ⟨rfl,md ps (fun tk t'=>⟨.str _,H,I.tok tk,⟨_,rfl⟩,?_⟩) ?_⟩
 ·rw [e2];exact q
 ·rw [e2];omega
theorem zGm {sep:Str} {k:Nat} {e:Expr} {p1 p2 p3:Pos} (he:PEd X G e f)
  (hbase:attributeBase (.Constant (.str sep) k p1) "join" X.env (eval (.Constant (.str sep) k p1) X.env)=eval (.Constant (.str sep) k p1) X.env:=by rfl)
  (hfew:((backTo p3 (starEach [e] X.env)).all (fun x=>!x.1) && (backToKw p3 (keywordEach [] X.env)).all (fun x=>x.1.isSome)
   && decide ([e].length+([]:List Keyword).length+(if ([]:List Keyword).isEmpty then 0 else 1) < 30))=true:=by rfl)
  (hline:(p2.endLine==p3.line)=true:=by rfl) (hs:starEach [e] X.env=(false,eval e X.env)::starEach [] X.env:=by rfl):
  PEd X G (.Call (.Attribute (.Constant (.str sep) k p1) "join" p2) [e] [] p3) (zGT sep f):=
 PE.wk (wB F.plainAttrs_str F.slot_str_join F.type_str_join zGI cK (cT he gK hs) hbase hfew hline hs rfl) fun σ H Q q=>by
  obtain ⟨ρ,Hi,R,ou⟩:=q
  refine ⟨rfl,lZ R ou fun v d Hi1 H1 e1 R1 r1 o1=>?_⟩
  cases d with
  | lst ds=>
   obtain ⟨a,xs,rfl,h1,h2⟩:=r1.lstI
   have o2:Out G Hi1 H1 (uO sep (.lst ds)) _:=o1
   cases z:mM ds with
   | none=>rw [show uO sep (.lst ds)=.no by show (match mM ds with | some l=>_ | none=>Res.no)=_;rw [z]] at o2;exact o2.elim
   | some l=>
    rw [show uO sep (.lst ds)=if l.foldl (fun n x=>n+x.length+sep.length) 0<=sizeLine then .ok (.str (Builtin.Str.glued sep l)) else .no by show (match mM ds with | some l=>_ | none=>Res.no)=_;rw [z]] at o2
    by_cases hz:l.foldl (fun n x=>n+x.length+sep.length) 0<=sizeLine
    ·rw [if_pos hz] at o2
     have ex:=uE h2 z
     subst ex
     exact ⟨sep,a,l,rfl,rfl,bU R1.s h1,hz,o2.here R1.s _ (.str _)⟩
    ·rw [if_neg hz] at o2
     exact o2.elim
  | _=>exact o1.elim
end
end L3
namespace L3
open PySem PySem.Spec PyProof.Rows L2
unseal PEd PEf PTd PWd PAd PSd bX POd PGd dH PId PSx eY PTs PCd PCf
section
variable {X:Cx} {G:Gx} {f:Ev} {pos:Pos}
section
variable {o:Expr} {k:Nat} {b:Bool} {p1 p2 p3:Pos}
end
section
variable {i fo:Nat} {x y:Str} {ea eb ec ct o0 o1:Expr} {body rest:List Stmt} {a b:Fv} {cmp:Tv} {sr:Sv} {p1 p2 p3 p4 p5 p6 p7 p8 p9 p10 p11 p12 p13 p14 p15 p16:Pos} {k5 k0 k1:Nat}
end
section
variable {i j1 j2 j3:Nat} {x:Str} {tg ec c1 c2 c3 esl ev o:Expr} {b2 b3:List Stmt} {t1 t2 t3:Tv} {sl:Fv} {g:Ev} {p1 p2 p3 p4 p5 p6 p7 p8 p9:Pos}
end
end
end L3
namespace L3
open PySem PySem.Spec PyProof.Rows L2
section
variable {prog:Program} {w:World} {A:Around} {E:Value->Shared->Prop} {s:Shared} {a₀:Array Keyed}
end
end L3
namespace L3
open PySem PySem.Spec PyProof.Rows L2
unseal PEd PEf PTd PWd PAd PSd bX POd PGd dH PId PSx eY PTs PCd PCf
section
variable {prog:Program} {w:World} {A:Around} {E:Value->Shared->Prop} {s:Shared}
end
section
variable {X:Cx} {pins:List (Addr×Obj)} {σ:St} {H:Hp} {s:Shared} {A:Around} {E:Value->Shared->Prop} {a kS:Addr} {vs:List Value} {kz:List Int} {keys:Array Value} {e e1:Nat} {P:PySem.Fin->Shared->Prop}
end
end L3
namespace L3
open PySem PySem.Spec PyProof.Rows L2 PySem.W
unseal PEd PEf PTd PWd PAd PSd bX POd PGd dH PId PSx eY PTs PCd PCf
section
variable {X:Cx} {pins:List (Addr×Obj)} {σ:St} {H:Hp} {s:Shared} {P c c':Addr}
end
end L3
namespace L3
open PySem PySem.Spec PyProof.Rows L2 PySem.W
unseal PEd PEf PTd PWd PAd PSd bX POd PGd dH PId PSx eY PTs PCd PCf
section
variable {X:Cx} {p1 p2 p3 p4 p5 p6 p7 p8 p9 pa pb pc pd pe pf pg ph pi pj:Pos}
end
end L3
namespace L3
open PySem PySem.Spec PyProof.Rows L2 PySem.W
unseal PEd PEf PTd PWd PAd PSd bX POd PGd dH PId PSx eY PTs PCd PCf
section
variable {P:Program} {w:World} {K:PySem.W.Frag} {mg:Str->Option Value} {base:Heap} {st s1 s2:Stmt} {f:Addr} {fd:FuncData} {k:Nat} {sa sb:Sv} {p1 p2 p3 p4 p5 p6 p7 p8 p9 pa pb pc pd pe pf pg ph pi pj pk pl pm pn po:Pos}
end
section
variable {X:Cx} {G:Gx} {e:Expr} {es:List Expr} {pos p:Pos} {fs:Fv} {k:Nat} {kf:List D->Res (List Int)} {tg:Expr} {body rest:List Stmt} {g:Gv} {sa sb:Sv}
end
end L3
namespace L3
open PySem PySem.Spec PyProof.Rows L2 PySem.W
unseal PEd PEf PTd PWd PAd PSd bX POd PGd dH PId PSx eY PTs PCd PCf
end L3
namespace L3
open PySem PySem.Spec PyProof.Rows L2 PySem.W
unseal PEd PEf PTd PWd PAd PSd bX POd PGd dH PId PSx eY PTs PCd PCf
section
variable {X:Cx} {G:Gx} {pins:List (Addr×Obj)} {σ:St} {H Hi:Hp} {s:Shared} {ρ:Rho} {i k:Nat} {st:Stmt} {sa:Sv}
end
end L3
namespace L3
open PySem PySem.Spec PyProof.Rows L2 PySem.W
unseal PEd PEf PTd PWd PAd PSd bX POd PGd dH PId PSx eY PTs PCd PCf
section
variable {X:Cx} {G:Gx} {e a:Expr} {f g:Ev} {pos:Pos}
end
end L3
namespace L3
open PySem PySem.Spec PyProof.Rows L2 PySem.W
unseal PEd PEf PTd PWd PAd PSd bX POd PGd dH PId PSx eY PTs PCd PCf
section
variable {X:Cx} {G:Gx} {st:Stmt} {rest:List Stmt} {sa sb:Sv} {u:TS}
def tSU (X:Cx) (G:Gx) (sv:Sv) (u:TS):TS:=fun E σ H=>tS X G sv { E with nx:=u E } σ H
theorem zGH (h:PS X st u):PSs X [st] (tSU X G sNext u):=PSs.wk (vZ h) fun E σ H q=>by
 obtain ⟨ρ,Hi,R,h⟩:=q
 exact h σ Hi H (Same.refl _) R
theorem rR (h1:PSd X G st sa) (h2:PSs X rest (tSU X G sb u)):PSs X (st::rest) (tSU X G (bI sa sb) u):=PSs.wk (iR h1 h2) fun E σ H q=>zET (E:={ E with nx:=u E }) q
end
section
variable {P:Program} {w:World} {K:PySem.W.Frag} {mg:Str->Option Value} {base:Heap} {N ps:List Str} {x:Str} {st:Stmt} {f:Addr} {fd:FuncData} {k i0 i1 i2:Nat} {sv:Sv}
end
section
variable {X:Cx} {G:Gx} {e:Expr} {es:List Expr} {pos p:Pos} {fs:Fv} {k j0 j1 j2:Nat} {kf:List D->Res Tri} {x:Str} {ps:List Str} {tg:Expr}
end
end L3
namespace L3
open PySem PySem.Spec PyProof.Rows L2
unseal PEd PEf PTd PWd PAd PSd bX POd PGd dH PId PSx eY PTs PCd PCf
section
variable {X:Cx} {G:Gx} {fs:Fv} {f:Ev}
end
end L3
namespace L3
open PySem PySem.Spec PyProof.Rows L2
unseal PEd PEf PTd PWd PAd PSd bX POd PGd dH PId PSx eY PTs PCd PCf
section
variable {prog:Program} {w:World} {A:Around} {E:Value->Shared->Prop} {s:Shared}
end
section
variable {X:Cx} {G:Gx} {f:Ev}
end
section
variable {X:Cx} {G:Gx} {it:Fv} {t:Tv}
end
end L3
namespace L3
open PySem PySem.Spec PyProof.Rows L2
unseal PEd PEf PTd PWd PAd PSd bX POd PGd dH PId PSx eY PTs PCd PCf
section
variable {X:Cx} {G:Gx}
theorem bW {i:Int} {j pos}:PEd X G (.Constant (.int i) j pos) (eC (.int i)):=jF zEG fun _=>.int _
theorem aV (i:Nat) {x:Str} {pos:Pos} (hN:X.N[i]?=some x:=by rfl) (hv:Vis X.env.scope x:=by first | exact Or.inl rfl | exact Or.inr (Or.inl rfl) | exact Or.inr (Or.inr rfl)) (hd:(x==("__debug__" : Str))=false:=by decide)
  (hcd:(x==("__classdict__" : Str))=false:=by decide):PEd X G (.Name x pos) (aH i):=zHQ i (pv i hN hv hd hcd)
theorem zAw (n:Nat) {x:Str} {pos p2:Pos} {i:Int} {j p1} (hN:X.N[n]?=some x:=by rfl) (hv:Vis X.env.scope x:=by first | exact Or.inl rfl | exact Or.inr (Or.inl rfl) | exact Or.inr (Or.inr rfl)) (hd:(x==("__debug__" : Str))=false:=by decide)
  (hcd:(x==("__classdict__" : Str))=false:=by decide):PEd X G (.Subscript (.Name x pos) (.Constant (.int i) j p1) p2) (eOp oIx (aH n) (eC (.int i))):=zAm lD zHh (aV n hN hv hd hcd) bW (fun _ _=>rfl)
end
end L3
namespace L3
open PySem PySem.Spec PyProof.Rows L2
unseal PEd PEf PTd PWd PAd PSd bX POd PGd dH PId PSx eY PTs PCd PCf
section
variable {X:Cx} {G:Gx} {it:Fv} {t:Tv}
end
end L3
namespace L3
open PySem PySem.Spec PyProof.Rows L2
unseal PEd PEf PTd PWd PAd PSd bX POd PGd dH PId PSx eY PTs PCd PCf
section
variable {X:Cx} {G:Gx} {a:Expr} {f:Ev}
theorem zJM (h:PEd X G a f) (n:Nat) {x:Str} {pos p2:Pos} (hN:X.N[n]?=some x:=by rfl) (hv:Vis X.env.scope x:=by first | exact Or.inl rfl | exact Or.inr (Or.inl rfl) | exact Or.inr (Or.inr rfl)) (hd:(x==("__debug__" : Str))=false:=by decide)
  (hcd:(x==("__classdict__" : Str))=false:=by decide):PEd X G (.Subscript a (.Name x pos) p2) (eOp oIx f (aH n)):=zAm lD zHh h (aV n hN hv hd hcd) (fun _ _=>rfl)
theorem cX (n:Nat) {x:Str} {pos:Pos} (hN:X.N[n]?=some x:=by rfl) (hv:Vis X.env.scope x:=by first | exact Or.inl rfl | exact Or.inr (Or.inl rfl) | exact Or.inr (Or.inr rfl)) (hd:(x==("__debug__" : Str))=false:=by decide)
  (hcd:(x==("__classdict__" : Str))=false:=by decide):PAd X G [.Name x pos] (aA (aH n) aNil):=aB (aV n hN hv hd hcd) aT bA
theorem s_z (i:Nat) {x:Str} {pos pos':Pos} (hN:X.N.Nodup) (he:PEd X G a f) (hi:X.N[i]?=some x:=by rfl) (hx:Loc X.env.scope x:=by first | exact Or.inl rfl | exact Or.inr rfl) (hs:swapsWith a (some (.Name x pos')) pos.line X.env=pure false:=by rfl)
  (hf:X.fn x=true∨X.env.scope.names.lookup x=some .local:=by first | exact .inl rfl | exact .inr rfl | assumption):PSd X G (.Assign [.Name x pos'] a pos) (fV i f):=zKI hN hi hx he hs hf
theorem g_z (i:Nat) {x:Str} {pos:Pos} (hN:X.N.Nodup) (hi:X.N[i]?=some x:=by rfl) (hx:Loc X.env.scope x:=by first | exact Or.inl rfl | exact Or.inr rfl) (hf:X.fn x=true∨X.env.scope.names.lookup x=some .local:=by first | exact .inl rfl | exact .inr rfl | assumption):PGd X G (.Name x pos) (gName i):=zJc hN hi hx hf
theorem vJ {s j p}:PAd X G [.Constant (.str s) j p] (aA (eC (.str s)) aNil):=aB (jF cK fun _=>.str _) aT cG
end
section
variable {P:Program} {w:World} {K:PySem.W.Frag} {mg:Str->Option Value} {base:Heap} {k:Nat} {x:Str} {st:Stmt} {ps N:List Str} {f:Addr} {fd:FuncData} {b:Sv}
theorem mJ (F:Fn K mg x st ps f fd) (S:FnScope N ps (aF st))
  (h:∀ {cdv:Value} {A:Around} {outer:List Env} {s:Shared} {H:Hp} {E:XK} {G:Gx},Good (BX P w K mg base N x st f cdv A outer s H E) G k->rW (BX P w K mg base N x st f cdv A outer s H E) G->bX (BX P w K mg base N x st f cdv A outer s H E) G (cD st) b):
  CanM P w K mg base (k+1) x ps (fn ps.length N.length b):=lQ F S fun _ _ _ _ _ _ _ W R=>h W R
end
end L3
namespace L3
open PySem PySem.Spec PyProof.Rows L2
unseal PEd PEf PTd PWd PAd PSd bX POd PGd dH PId PSx eY PTs PCd PCf
section
variable {X:Cx} {G:Gx} {e:Expr} {es:List Expr} {pos p:Pos} {fs:Fv} {k:Nat} {x:Str} {ps:List Str} {m:Mir}
end
section
variable {X:Cx} {G:Gx} {a c:Expr} {f:Ev} {pos:Pos}
end
end L3
namespace L3
open PySem PySem.Spec PyProof.Rows L2 PySem.W
unseal PEd PEf PTd PWd PAd PSd bX POd PGd dH PId PSx eY PTs PCd PCf
section
variable {X:Cx} {G:Gx} {e:Expr} {pos p:Pos} {fs:Fv} {k:Nat} {kf:List D->Res (List Int)}
end
section
variable {X:Cx} {G:Gx} {e o k:Expr} {f fk:Ev} {pos tpos:Pos}
end
section
variable {X:Cx} {G:Gx} {e:Expr} {fs:Fv}
end
section
variable {X:Cx}
end
end L3
namespace L3
open PySem PySem.Spec PyProof.Rows L2
abbrev zCL (h:Heap) (T:Addr) (a b c:Value):Prop:=h.get? T=some { cls:=.type "tuple", data:=.seq #[a,b,c] }
def zKb (f0:Value) (k1 k2 k3:Bool) (l1 l2 l3 n:Addr) (j1 j2 j3:Nat) (h:Heap):Prop:=
 IsZip h (n+5) (n+3) (n+4) f0/\zCL h (n+3) (.ref n) (.ref (n+1)) (.ref (n+2))/\(∃ a b c,zCL h (n+4) a b c)/\qI k1 h n l1 j1/\qI k2 h (n+1) l2 j2/\qI k3 h (n+2) l3 j3
theorem nzA {a b:Nat} (n:Addr) (h:a≠b):n+a≠n+b:=fun z=>h (by have z':(_:Nat)=_:=z;omega)
theorem nzZ {b:Nat} (n:Addr) (h:0≠b):n≠n+b:=fun z=>h (by have z':(_:Nat)=_:=z;omega)
theorem zKb.out {f0 a b c:Value} {k1 k2 k3:Bool} {l1 l2 l3 n:Addr} {j1 j2 j3:Nat} {h h2:Heap} (g:zKb f0 k1 k2 k3 l1 l2 l3 n j1 j2 j3 h) (z:zCL h2 (n+4) a b c) (s:Heap.ExtBut (n+4) h h2):zKb f0 k1 k2 k3 l1 l2 l3 n j1 j2 j3 h2:=by
 obtain ⟨g1,g2,_,g4,g5,g6⟩:=g
 exact ⟨s _ _ (nzA n (by decide)) g1,s _ _ (nzA n (by decide)) g2,⟨a,b,c,z⟩,g4.go fun o e=>s _ o (nzZ n (by decide)) e,g5.go fun o e=>s _ o (nzA n (by decide)) e,g6.go fun o e=>s _ o (nzA n (by decide)) e⟩
section
variable {prog:Program} {w:World} {A:Around} {E:Value->Shared->Prop} {s:Shared}
end
section
variable {prog:Program} {w:World} {A:Around} {E:Value->Shared->Prop} {s:Shared}
end
section
unseal PEd PEf PTd PWd PAd PSd bX POd PGd dH PId PSx eY PTs PCd PCf
variable {X:Cx} {G:Gx} {fs:Fv} {f:Ev}
end
end L3
namespace L3
open PySem PySem.Spec PyProof.Rows L2 PySem.W
unseal PEd PEf PTd PWd PAd PSd bX POd PGd dH PId PSx eY
section
variable {X:Cx} {G:Gx} {k:Nat} {fb fh:Sv} {body suite:List Stmt} {b₀:Stmt} {ce:Str} {np hpos pos:Pos}
theorem Good.nox (W:Good X G k):Good X.nox (G0 G) k:=⟨W.calm,W.room,fun _ _ _ _ _ _ _ h=>by
 obtain ⟨_,_,_,_,_,_,_,h⟩:=h
 exact h.elim,PassesOwn.never,W.tb⟩
end
end L3
namespace L3
open PySem PySem.Spec PyProof.Rows L2 PySem.W
unseal PEd PEf PTd PWd PAd PSd bX POd PGd dH PId PSx eY PTs PCd PCf
section
variable {X:Cx} {G:Gx} {fa fb fm:Ev} {pos:Pos}
end
end L3
namespace L3
open PySem PySem.Spec PyProof.Rows L2
unseal PEd PEf PTd PWd PAd PSd bX POd PGd dH PId PSx eY PTs PCd PCf
section
variable {X:Cx} {G:Gx} {a b c d:Expr} {f g h q:Ev} {pos:Pos}
end
end L3
namespace L3
open PySem PySem.Spec PyProof.Rows L2 PySem.W
unseal PEd PEf PTd PWd PAd PSd bX POd PGd dH PId PSx eY PTs PCd PCf
open Classical in
def iZ (H:Hp) (a:Addr):Hp:=fun b=>if b=a then none else H b
theorem hZ {H:Hp} {a:Addr}:iZ H a a=none:=if_pos rfl
theorem fQ {H:Hp} {a b:Addr} (h:b≠a):iZ H a b=H b:=if_neg h
theorem iL {H:Hp} {a b:Addr} {o:HO} (h:iZ H a b=some o):b≠a/\H b=some o:=by
 by_cases e:b=a
 ·subst e;rw [hZ] at h;cases h
 ·rw [fQ e] at h;exact ⟨e,h⟩
theorem zCu {P a:Addr} {H:Hp} (h:pL P (iZ H a)):pL P H:=by
 obtain ⟨ps,e,t,k⟩:=h
 refine ⟨ps,(iL e).2,t,fun pos cv q=>?_⟩
 obtain ⟨c,oc,vs,tk,u,r1,r2,r3⟩:=k pos cv q
 exact ⟨c,oc,vs,tk,u,r1,(iL r2).2,r3⟩
theorem pX (H:Hp) (a:Addr):Keep (iZ H a) H:=⟨fun b o e=>.inl (iL e).2,fun P h=>zCu h⟩
section
variable {X:Cx} {G:Gx} {st:Stmt} {rest:List Stmt} {sa sb:Sv} {u:TS} {k:Nat} {f:Ev}
end
section
variable {K:PySem.W.Frag} {mg:Str->Option Value} {B Bi Hi H:Hp} {σ:St} {ρ:Rho}
theorem rD (n:Nat) (ds:List D):(L3.start n ds).all zIi=true:=by
 unfold L3.start
 rw [List.all_append,Bool.and_eq_true]
 refine ⟨?_,?_⟩
 ·rw [List.all_map,List.all_eq_true];exact fun _ _=>rfl
 ·rw [List.all_eq_true];intro x hx;rw [(List.mem_replicate.mp hx).2];rfl
end
section
variable {P:Program} {w:World} {K:PySem.W.Frag} {mg:Str->Option Value} {base:Heap} {N ps:List Str} {x:Str} {st:Stmt} {f:Addr} {fd:FuncData} {k np i1 i2:Nat} {f1 f2 f3 f4:Ev} {sS:Sv}
end
section
variable {X:Cx} {G:Gx} {e1 e2 e3 e4:Expr} {pos p p2 p3:Pos} {k i j l y:Nat} {kf:List D->List D->Res (Bool×List D)} {x:Str} {ps:List Str} {body:List Stmt}
end
end L3
namespace L3
open PySem PySem.Spec PyProof.Rows L2 PySem.W
unseal PEd PEf PTd PWd PAd PSd bX POd PGd dH PId PSx eY PTs PCd PCf
theorem Flds.look {K:PySem.W.Frag} {Hi:Hp} {f:Str} {d:D}:∀ {hs:List (Str×V)} {fs:List (Str×D)},Flds K Hi hs fs->fs.lookup f=some d->∃ v,hs.lookup f=some v/\IsD K Hi v d
 | _,_,.nil,e=>by cases e
 | _,_,.cons (f:=g) (v:=v) h r,e=>by
  rw [List.lookup_cons] at e
  by_cases z:f==g
  ·rw [z] at e
   cases e
   exact ⟨v,by rw [List.lookup_cons,z],h⟩
  ·rw [Bool.eq_false_iff.mpr z] at e
   obtain ⟨u,h1,h2⟩:=Flds.look r e
   exact ⟨u,by rw [List.lookup_cons,Bool.eq_false_iff.mpr z];exact h1,h2⟩
theorem Flds.out {K:PySem.W.Frag} {Hi:Hp} {f:Str}:∀ {hs:List (Str×V)} {fs:List (Str×D)},Flds K Hi hs fs->fs.lookup f=none->hs.lookup f=none
 | _,_,.nil,_=>rfl
 | _,_,.cons (f:=g) h r,e=>by
  rw [List.lookup_cons] at e ⊢
  by_cases z:f==g
  ·rw [z] at e;cases e
  ·rw [Bool.eq_false_iff.mpr z] at e ⊢
   exact Flds.out r e
theorem Flds.snoc {K:PySem.W.Frag} {Hi:Hp} {f:Str} {v:V} {d:D} (hd:IsD K Hi v d):∀ {hs:List (Str×V)} {fs:List (Str×D)},Flds K Hi hs fs->fs.lookup f=none->Flds K Hi (mR f v hs) (fs++[(f,d)])
 | _,_,.nil,_=>.cons hd .nil
 | _,_,.cons (f:=g) h r,e=>by
  rw [List.lookup_cons] at e
  by_cases z:f==g
  ·rw [z] at e;cases e
  ·rw [Bool.eq_false_iff.mpr z] at e
   have n:¬ g=f:=fun w=>z (by rw [w];exact beq_self_eq_true f)
   show Flds K Hi (if g=f then _ else _) _
   rw [if_neg n]
   exact .cons h (Flds.snoc hd r e)
theorem Flds.len {K:PySem.W.Frag} {Hi:Hp}:∀ {hs:List (Str×V)} {fs:List (Str×D)},Flds K Hi hs fs->hs.length=fs.length
 | _,_,.nil=>rfl
 | _,_,.cons _ r=>by rw [List.length_cons,List.length_cons,Flds.len r]
section
variable {X:Cx} {G:Gx} {e:Expr} {es:List Expr} {pos p apos:Pos} {i k:Nat} {c f m x:Str} {fs:Fv}
theorem zJk (hv:PE X e (qJ i)) (cf:∀ C,X.mg c=some (.ref C)->Cls X.K C/\dW X.K C f) (hb:attributeBase e f X.env (eval e X.env)=eval e X.env:=by rfl):PEd X G (.Attribute e f pos) (zGZ i c f):=PE.wk (xO hv hb) fun σ H Q q=>by
 obtain ⟨ρ,Hi,R,ou⟩:=q
 unfold zGZ at ou
 cases z:ρ[i]? with
 | none=>rw [z] at ou;exact ou.elim
 | some s=>
  rw [z] at ou
  cases s with
  | ins c' fs=>
   have ou:Out G Hi H (if c'=c then zJP (fs.lookup f) else .no) _:=ou
   by_cases w:c'=c
   ·subst w
    rw [if_pos rfl] at ou
    obtain ⟨a,C,dx,hs,o1,h1,h2,h3⟩:=R.slot i _ z
    cases l:fs.lookup f with
    | none=>rw [l] at ou;exact ou.elim
    | some d=>
     rw [l] at ou
     obtain ⟨v,hl,hd⟩:=h3.look l
     exact ⟨.ref a,o1,a,C,dx,hs,v,rfl,R.s _ _ h1,(cf C h2).1,(cf C h2).2,hl,Out.here ou R.s _ hd⟩
   ·rw [if_neg w] at ou;exact ou.elim
  | _=>exact ou.elim
structure FnM (K:PySem.W.Frag) (x q:Str) (st:Stmt) (ps:List Str) (f:Addr) (fd:FuncData):Prop where
 fn:Fun K x q st f fd
 bd:lV K fd ps []
end
section
variable {P:Program} {w:World} {K:PySem.W.Frag} {mg:Str->Option Value} {base:Heap} {N ps:List Str} {x q c:Str} {st:Stmt} {f C:Addr} {fd:FuncData} {k:Nat} {b sv:Sv}
end
section
variable {K:PySem.W.Frag} {mg:Str->Option Value} {B Bi Hi H:Hp} {σ:St} {ρ:Rho}
end
section
variable {X:Cx} {G:Gx} {e:Expr} {es:List Expr} {pos p:Pos} {fs:Fv} {k j:Nat} {kf:List D->Res Vo} {x y:Str} {ps:List Str}
end
theorem xB {Hi H Hi' H':Hp} {a:Addr} {o:HO} (e:Ext Hi H Hi' H') (hn:H a=none) (h1:∀ ps,H' a≠some (.tbl ps)) (h2:∀ o u,H' a≠some (.frz o u)) (hi:Hi' a=none):Ext Hi H Hi' (upd H' a o) where
 i:=e.i
 h:=⟨fun b o q=>by
   have n:b≠a:=fun z=>by rw [z,hn] at q;cases q
   rw [aG n]
   exact e.h.k b o q,fun P t=>(e.h.t P t).put h1 h2⟩
 s:=fun b o q=>by
  have n:b≠a:=fun z=>by rw [z,hi] at q;cases q
  rw [aG n]
  exact e.s b o q
 n:=e.n
theorem Rel.putI {K:PySem.W.Frag} {mg:Str->Option Value} {B Bi Hi H:Hp} {σ:St} {ρ:Rho} {a C dx:Addr} {hs:List (Str×V)} {o:HO} (R:Rel K mg B Bi Hi H σ ρ) (pl:ρ.all zIi=true) (hn:B a=none) (h:H a=some (.ins C dx hs)) (hi:Hi a=none):Rel K mg B Bi Hi (upd H a o) σ ρ where
 len:=R.len
 ext:=xB R.ext hn (fun ps z=>by rw [h] at z;cases z) (fun o u z=>by rw [h] at z;cases z) hi
 slot:=fun i s e=>by
  have z:=R.slot i s e
  have v:=List.all_eq_true.mp pl s (List.mem_of_getElem? e)
  cases s with
  | un=>trivial
  | val d=>exact z
  | _=>cases v
 dist:=R.dist
section
variable {X:Cx} {G:Gx} {rest:List Stmt} {u:TS} {f:Ev}
def tLD (X:Cx) (G:Gx) (f:Ev) (u:TS):TS:=fun E σ H=>tD X G f σ H fun _ H'=>u E σ H'
def tLF (X:Cx) (G:Gx) (g:Str) (f:Ev) (u:TS):TS:=fun E σ H=>tD X G f σ H fun y H1=>∃ a C dx fs,σ[0]?=some (some (.ref a))/\H1 a=some (.ins C dx fs)/\Cls X.K C/\dW X.K C g/\fs.length < 1000/\u E σ (upd H1 a (.ins C dx (mR g y fs)))
theorem zIT {o value:Expr} {g:Str} {pos pos':Pos} (ho:PE X o (qJ 0)) (hv:PEd X G value f) (hr:PSs X rest u) (hs:swapsWith value (some (.Attribute o g pos')) pos.line X.env=pure false:=by rfl):PSs X (.Assign [.Attribute o g pos'] value pos::rest) (tLF X G g f u):=PSs.wk (iR (zEU ho hv hs) hr) fun E σ H q=>by
 obtain ⟨ρ,Hi,R,ou⟩:=q
 refine ⟨ρ,Hi,R,ou.imp fun d Hi' H' e h v r=>?_⟩
 obtain ⟨a,C,dx,fs,h1,h2,h3,h4,h5,h6⟩:=h v r
 exact ⟨.ref a,h1,a,C,dx,fs,rfl,h2,h3,h4,h5,h6⟩
end
theorem zDR {H:Hp} {a:Addr} {o:HO} (h:H a=none):iZ (upd H a o) a=H:=by
 funext b
 by_cases z:b=a
 ·rw [z,hZ,h]
 ·rw [fQ z,aG z]
theorem zV {K:PySem.W.Frag} {mg:Str->Option Value} {Bi H:Hp} {N:List Str} {us:List V} {ds:List D} {a:Addr} (s:Same Bi H) (h:IsDs K Bi us ds) (hN:ds.length < N.length):Rel K mg (iZ H a) Bi Bi H (L2.start N (.ref a::us)) (.un::L3.start (N.length - 1) ds) where
 len:=by
  unfold L2.start L3.start
  simp only [List.length_append,List.length_map,List.length_replicate,List.length_cons,h.length]
  omega
 ext:=⟨Same.refl _,pX H a,s,fun b e q=>absurd e q⟩
 slot:=fun i sl e=>by
  cases i with
  | zero=>cases e;trivial
  | succ i=>
   rw [List.getElem?_cons_succ] at e
   unfold L3.start at e
   have hl:=h.length
   by_cases hi':i < ds.length
   ·rw [List.getElem?_append_left (by rw [List.length_map];exact hi'),List.getElem?_map] at e
    obtain ⟨d,hd⟩:∃ d,ds[i]?=some d:=⟨_,List.getElem?_eq_getElem hi'⟩
    rw [hd] at e;cases e
    obtain ⟨v,hv,r⟩:=h.at hd
    refine ⟨v,?_,r⟩
    unfold L2.start
    rw [List.getElem?_append_left (by rw [List.length_map,List.length_cons];omega),List.getElem?_map,List.getElem?_cons_succ,hv]
    rfl
   ·rw [List.getElem?_append_right (by rw [List.length_map];omega),List.getElem?_replicate] at e
    split at e
    ·cases e;trivial
    ·cases e
 dist:=fun i j b fs gs e1 e2 _ _=>by
  have v:=List.all_eq_true.mp (show (Sl.un::L3.start (N.length - 1) ds).all zIi=true by rw [List.all_cons,rD];rfl) _ (List.mem_of_getElem? e1)
  cases v
section
variable {P:Program} {w:World} {K:PySem.W.Frag} {mg:Str->Option Value} {base:Heap} {N ps:List Str} {x q c:Str} {st:Stmt} {f C:Addr} {fd:FuncData} {k np:Nat} {e0:Ev} {fs:List (Str×Ev)}
end
end L3
namespace L3
open PySem PySem.Spec PyProof.Rows L2 PySem.W
unseal PEd PEf PTd PWd PAd PSd bX POd PGd dH PId PSx eY PTs PCd PCf
def iJ:Stmt->List Stmt
 | .ClassDef _ _ _ b _ _ _ _ _ _ _=>b
 | _=>[]
section
variable {X:Cx} {G:Gx} {e:Expr} {es:List Expr} {pos p:Pos} {fs:Fv} {k i np:Nat} {x:Str} {kI:List D->Res (List (Str×D))}
end
end L3
namespace L2
open PySem PySem.Spec PyProof.Rows
section
variable {prog:Program} {w:World} {A:Around} {s:Shared} {E:Value->Shared->Prop}
end
end L2
namespace L3
open PySem PySem.Spec PyProof.Rows L2 PySem.W
unseal PEd PEf PTd PWd PAd PSd bX POd PGd dH PId PSx eY PTs PCd PCf
section
variable {K:PySem.W.Frag} {mg:Str->Option Value} {B Bi Hi H:Hp} {σ:St} {ρ:Rho} {a C:Addr}
end
section
variable {X:Cx} {G:Gx} {k:Nat} {fb fh:Sv} {body suite:List Stmt} {b₀:Stmt} {ce n:Str} {np hpos pos:Pos} {i:Nat} {tb:List Str}
end
section
variable {X:Cx} {G:Gx} {elt iter:Expr} {x:Str} {px pos:Pos} {ifs:List Expr} {scope:Scope} {ev:Ev} {t:Tv} {f:Ev} {k:Nat}
end
section
variable {X:Cx} {G:Gx} {e:Expr} {p pos:Pos} {fv:Fv}
end
end L3
namespace L3
open PySem PySem.Spec PyProof.Rows L2 PySem.W
unseal PEd PEf PTd PWd PAd PSd bX POd PGd dH PId PSx eY PTs PCd PCf
theorem zCd {l C:Addr} {us:List Value} (h:pH l us=zDy l C):False:=by
 let o:Obj:={ cls:=.ref C,data:=.fields #[.none,.none,.none] }
 have y:zDy l C { objs:=Array.replicate (l+1) o }:=⟨o,_,by simp [Heap.get?,o,Obj.isFreed],rfl,rfl,rfl⟩
 have y2:pH l us { objs:=Array.replicate (l+1) o }:=by rw [h];exact y
 obtain ⟨o1,vs,y1,y3,_⟩:=y
 obtain ⟨o2,w1,w2,_⟩:=Heap.PlainList.isList y2
 rw [y1] at w1;cases w1
 rw [y3] at w2;cases w2
theorem FldsX.look {K:PySem.W.Frag} {Hi:Hp} {lf f:Str} {d:D} (n:f≠lf):∀ {hs:List (Str×V)} {fs:List (Str×D)},FldsX K Hi lf hs fs->fs.lookup f=some d->∃ v,hs.lookup f=some v/\IsD K Hi v d
 | _,_,.nil,e=>by cases e
 | _,_,.own (hs:=hs) _ r,e=>by
  rw [List.lookup_cons,beq_false_of_ne n] at e
  obtain ⟨v,e1,e2⟩:=FldsX.look n r e
  exact ⟨v,by rw [List.lookup_cons,beq_false_of_ne n];exact e1,e2⟩
 | _,_,.cons (f:=g) (v:=v) m h r,e=>by
  rw [List.lookup_cons] at e ⊢
  cases z:(f==g) with
  | true=>rw [z] at e;cases e;exact ⟨v,rfl,h⟩
  | false=>rw [z] at e;exact FldsX.look n r e
theorem FldsX.put {K:PySem.W.Frag} {Hi:Hp} {lf f:Str} {v:V} {d:D} (n:f≠lf) (h:IsD K Hi v d):∀ {hs:List (Str×V)} {fs:List (Str×D)},FldsX K Hi lf hs fs->FldsX K Hi lf (mR f v hs) (zHj f d fs)
 | _,_,.nil=>.cons n h .nil
 | _,_,.own (v:=x) m r=>by
  show FldsX K Hi lf (if lf=f then _ else _) (if lf=f then _ else _)
  rw [if_neg (Ne.symm n),if_neg (Ne.symm n)]
  exact .own (by rw [fO,if_neg (Ne.symm n)];exact m) (FldsX.put n h r)
 | _,_,.cons (f:=g) m h' r=>by
  show FldsX K Hi lf (if g=f then _ else _) (if g=f then _ else _)
  by_cases z:g=f
  ·rw [if_pos z,if_pos z,z]
   exact .cons n h r
  ·rw [if_neg z,if_neg z]
   exact .cons m h' (FldsX.put n h r)
theorem FldsX.len {K:PySem.W.Frag} {Hi:Hp} {lf:Str}:∀ {hs:List (Str×V)} {fs:List (Str×D)},FldsX K Hi lf hs fs->hs.length=fs.length
 | _,_,.nil=>rfl
 | _,_,.own _ r=>by rw [List.length_cons,List.length_cons,FldsX.len r]
 | _,_,.cons _ _ r=>by rw [List.length_cons,List.length_cons,FldsX.len r]
theorem FldsX.flds {K:PySem.W.Frag} {Hi Hf:Hp} {lf:Str} {l:Addr} {ds:List D} (s:Same Hi Hf) (h:IsD K Hf (.ref l) (.lst ds)):∀ {hs:List (Str×V)} {fs:List (Str×D)},FldsX K Hi lf hs fs->(∀ v,(lf,v)∈hs->v=.ref l)->Flds K Hf hs (mrg lf ds fs)
 | _,_,.nil,_=>.nil
 | _,_,.own (v:=v) _ r,k=>by
  show Flds K Hf _ ((if lf=lf then _ else _)::_)
  rw [if_pos rfl,k v List.mem_cons_self]
  exact .cons h (FldsX.flds s h r fun v hv=>k v (List.mem_cons_of_mem _ hv))
 | _,_,.cons (f:=f) n hd r,k=>by
  show Flds K Hf _ ((if f=lf then _ else _)::_)
  rw [if_neg n]
  exact .cons (hd.mono s) (FldsX.flds s h r fun v hv=>k v (List.mem_cons_of_mem _ hv))
section
variable {K:PySem.W.Frag} {mg:Str->Option Value} {B Bi Hi H:Hp} {σ:St} {ρ:Rho} {i:Nat} {ao:Option Addr} {c lf:Str} {fs fs':List (Str×D)} {ds ds':List D} {a:Addr}
theorem Rel.objW (R:Rel K mg B Bi Hi H σ ρ) (e:ρ[i]?=some (.obj ao c lf fs ds)) (ea:σ[i]?=some (some (.ref a))) (hl:kW i ρ=true) {b:Addr} {o:HO} (hb:B b=none) (hib:Hi b=none) (hu:(∃ C dx hs,H b=some (.ins C dx hs))∨∃ us,H b=some (.ext (pH b us)))
  (new:ObjAt K mg B Hi (upd H b o) a c lf fs' ds'):Rel K mg B Bi Hi (upd H b o) σ (ρ.set i (.obj ao c lf fs' ds')):=by
 have nl:∀ xs,H b≠some (.lst xs):=fun xs z=>by
  rcases hu with ⟨_,_,_,q⟩ | ⟨_,q⟩<;>(rw [z] at q;cases q)
 have hlen:i < ρ.length:=by
  by_cases h:i < ρ.length
  ·exact h
  ·rw [List.getElem?_eq_none (by omega)] at e;cases e
 refine ⟨by rw [List.length_set];exact R.len,⟨R.ext.i,⟨fun b' o' z=>?_,fun P z=>(R.ext.h.t P z).put (fun ps y=>?_) (fun ob u y=>?_)⟩,fun b' o' z=>?_,R.ext.n⟩,fun j s z=>?_,fun j k b' fs1 gs q1 q2 q3 q4=>?_⟩
 ·rw [aG (aZ z hb)];exact R.ext.h.k _ _ z
 ·rcases hu with ⟨_,_,_,q⟩ | ⟨_,q⟩<;>(rw [y] at q;cases q)
 ·rcases hu with ⟨_,_,_,q⟩ | ⟨_,q⟩<;>(rw [y] at q;cases q)
 ·rw [aG (aZ z hib)];exact R.ext.s _ _ z
 ·by_cases w:i=j
  ·subst w
   rw [List.getElem?_set_self hlen] at z;cases z
   obtain ⟨a',p,g1,_⟩:=R.slot i _ e
   rw [ea] at p;cases p
   exact ⟨a,ea,g1,new⟩
  ·rw [List.getElem?_set_ne w] at z
   have S:=R.slot j s z
   have nj:=lP hl (Ne.symm w) z
   cases s with
   | un=>trivial
   | val d=>exact S
   | own ds1=>
    obtain ⟨b1,zs,p,g1,g2,g3,g4⟩:=S
    have hb1:b1≠b:=fun c=>nl zs (by rw [<-c];exact g1)
    exact ⟨b1,zs,p,by rw [aG hb1];exact g1,g2,g3,g4⟩
   | exc c1=>
    obtain ⟨b1,C,p,g1,g2,g3,g4⟩:=S
    have hb1:b1≠b:=fun c=>by
     rw [c] at g1
     rcases hu with ⟨_,_,_,q⟩ | ⟨us,q⟩
     ·rw [g1] at q;cases q
     ·rw [g1] at q;exact zCd (by injection (Option.some.inj q.symm))
    exact ⟨b1,C,p,by rw [aG hb1];exact g1,g2,g3,g4⟩
   | tab T=>exact S
   | ins c1 fs1=>exact S
   | obj _ _ _ _ _=>cases nj
 ·have own:∀ {j:Nat} {fs1:List D},(ρ.set i (.obj ao c lf fs' ds'))[j]?=some (.own fs1)->ρ[j]?=some (.own fs1):=fun {j fs1} p=>by
   by_cases w:i=j
   ·subst w;rw [List.getElem?_set_self hlen] at p;cases p
   ·rw [List.getElem?_set_ne w] at p;exact p
  exact R.dist j k b' fs1 gs (own q1) (own q2) q3 q4
end
section
variable {X:Cx} {G:Gx} {e o value:Expr} {es:List Expr} {pos p pos' apos:Pos} {i k:Nat} {c f m x:Str} {fv:Ev}
theorem gM (hv:PE X e (qJ i)) (cf:∀ C,X.mg c=some (.ref C)->Cls X.K C/\dW X.K C f) (hb:attributeBase e f X.env (eval e X.env)=eval e X.env:=by rfl):PEd X G (.Attribute e f pos) (cB i c f):=PE.wk (xO hv hb) fun σ H Q q=>by
 obtain ⟨ρ,Hi,R,ou⟩:=q
 unfold cB at ou
 cases z:ρ[i]? with
 | none=>rw [z] at ou;exact ou.elim
 | some s=>
  rw [z] at ou
  cases s with
  | obj ao c' lf fs ds=>
   have ou2:Out G Hi H (if c'=c/\f≠lf then zJP (fs.lookup f) else .no) fun d Hi' H'=>∀ v,IsD X.K Hi' v d->Q v H':=ou
   clear ou
   by_cases w:c'=c/\f≠lf
   ·rw [if_pos w] at ou2
    obtain ⟨w,n⟩:=w
    subst w
    obtain ⟨a,o1,_,l,C,dx,hs,xs,us,h1,h2,h3,h4,h5,h6,h7,h8,h9,h10,h11⟩:=R.slot i _ z
    cases l:fs.lookup f with
    | none=>rw [l] at ou2;exact ou2.elim
    | some d=>
     rw [l] at ou2
     obtain ⟨v,hl,hd⟩:=h11.look n l
     exact ⟨.ref a,o1,a,C,dx,hs,v,rfl,h1,(cf C h4).1,(cf C h4).2,hl,Out.here ou2 R.s _ hd⟩
   ·rw [if_neg w] at ou2;exact ou2.elim
  | _=>exact ou.elim
theorem tT (he:PEd X G e fv):PSd X G (.Return (some e) pos) (nD fv):=PS.wk (pN he) fun E σ H q=>by
 obtain ⟨ρ,Hi,R,h⟩:=q
 refine ⟨ρ,Hi,R,jR R h fun d Hi1 H1 _ e1 h1 v rv=>?_⟩
 have R1:=R.grow e1
 unfold zID zGP at h1
 cases z:ρ[0]? with
 | none=>rw [z] at h1;exact h1.elim
 | some s=>
  rw [z] at h1
  cases s with
  | obj ao c' lf fs ds=>
   cases ao with
   | none=>exact h1.elim
   | some a=>
    obtain ⟨a',o1,g1,g2⟩:=R1.slot 0 _ z
    have e:=g1 a rfl
    subst e
    exact h1 v Hi1 H1 R1.ext rv g2
  | _=>exact h1.elim
end
def spX (K:PySem.W.Frag) (mg:Str->Option Value) (c lf:Str) (np:Nat) (kX:gH):Sp:=fun vs H Q E=>vs.length=np+1/\∃ a us Bi B0 fs ds args,vs=.ref a::us/\TB K mg Bi B0/\Same Bi H/\Same B0 H/\IsDs K Bi us args/\ObjAt K mg B0 Bi H a c lf fs ds/\match kX a fs ds args with
 | .ok (d,fs',ds')=>∀ v Hi' H',Ext Bi B0 Hi' H'->IsD K Hi' v d->ObjAt K mg B0 Hi' H' a c lf fs' ds'->Q v H'
 | .err cc=>∀ Cc,mg cc=some Cc->∀ Hi' H',Ext Bi B0 Hi' H'->E Cc none H'
 | .no=>False
theorem zCN {B H:Hp} (h:Same B H):Keep B H:=⟨fun b o e=>.inl (h b o e),fun P z=>by
 obtain ⟨ps,e,t,k⟩:=z
 refine ⟨ps,h _ _ e,t,fun pos cv q=>?_⟩
 obtain ⟨c,oc,vs,tk,u,r1,r2,r3⟩:=k pos cv q
 exact ⟨c,oc,vs,tk,u,r1,h _ _ r2,r3⟩⟩
theorem zZ {K:PySem.W.Frag} {mg:Str->Option Value} {B0 Bi H:Hp} {N:List Str} {us:List V} {args:List D} {a:Addr} {c lf:Str} {fs:List (Str×D)} {ds:List D} (s:Same Bi H) (sb:Same B0 H) (h:IsDs K Bi us args) (hN:args.length < N.length) (ho:ObjAt K mg B0 Bi H a c lf fs ds):
  Rel K mg B0 Bi Bi H (L2.start N (.ref a::us)) (.obj (some a) c lf fs ds::L3.start (N.length - 1) args) where
 len:=by
  unfold L2.start L3.start
  simp only [List.length_append,List.length_map,List.length_replicate,List.length_cons,h.length]
  omega
 ext:=⟨Same.refl _,zCN sb,s,fun b e q=>absurd e q⟩
 slot:=fun i sl e=>by
  cases i with
  | zero=>cases e;exact ⟨a,rfl,fun b e=>by cases e;rfl,ho⟩
  | succ i=>
   rw [List.getElem?_cons_succ] at e
   unfold L3.start at e
   have hl:=h.length
   by_cases hi':i < args.length
   ·rw [List.getElem?_append_left (by rw [List.length_map];exact hi'),List.getElem?_map] at e
    obtain ⟨d,hd⟩:∃ d,args[i]?=some d:=⟨_,List.getElem?_eq_getElem hi'⟩
    rw [hd] at e;cases e
    obtain ⟨v,hv,r⟩:=h.at hd
    refine ⟨v,?_,r⟩
    unfold L2.start
    rw [List.getElem?_append_left (by rw [List.length_map,List.length_cons];omega),List.getElem?_map,List.getElem?_cons_succ,hv]
    rfl
   ·rw [List.getElem?_append_right (by rw [List.length_map];omega),List.getElem?_replicate] at e
    split at e
    ·cases e;trivial
    ·cases e
 dist:=fun i j b fs gs e1 e2 _ _=>by
  cases i with
  | zero=>cases e1
  | succ i=>
   rw [List.getElem?_cons_succ] at e1
   have v:=List.all_eq_true.mp (rD (n:=N.length - 1) (ds:=args)) _ (List.mem_of_getElem? e1)
   cases v
section
variable {P:Program} {w:World} {K:PySem.W.Frag} {mg:Str->Option Value} {base:Heap} {N ps:List Str} {x q c lf:Str} {st:Stmt} {f C:Addr} {fd:FuncData} {k np:Nat} {b:Sv}
theorem zCI {cdv:Value} {A:Around} {outer:List Env} {s:Shared} {H B Bi:Hp} {E:XK}:
  rW (BX P w K mg base N q st f cdv A outer s H E) ⟨B,Bi,fun c H'=>∀ C,mg c=some C->E C none H'⟩:=fun pins σ H1 s1 s' ea cls vs I hx hos hg q=>by
 obtain ⟨c',h1,h2⟩:=q
 exact nH I hx hos hg (h2 cls h1)
theorem zMa (F:FnM K x q st ps f fd) (S:FnScope N ps (aF st)) (hp:ps.length=np+1) (hN:np < N.length)
  (h:∀ (cdv:Value) (A:Around) (outer:List Env) (s:Shared) (H:Hp) (E:XK) (G:Gx),Good (BX P w K mg base N q st f cdv A outer s H E) G k->rW (BX P w K mg base N q st f cdv A outer s H E) G->bX (BX P w K mg base N q st f cdv A outer s H E) G (cD st) b):
  FnOk P w K mg base (CX1 P w) (k+1) f fd ps (spX K mg c lf np (fnX c lf np N.length b)):=by
 obtain ⟨oc,od,kV,doc,pm,an,cdv,ct,osl,rfl,lk,hcd⟩:=F.fn.ex
 refine zDu lk hcd S (fun vs H Q E h=>by rw [hp];exact h.1) fun A outer s H vs Q E hr hsp=>?_
 obtain ⟨hl,a,us,Bi,B0,fs,ds,args,rfl,tb,sm,sb,hd,ho,hq⟩:=hsp
 have hg:Good (BX P w K mg base N q st f cdv A outer s H E) ⟨B0,Bi,fun c H'=>∀ C,mg c=some C->E C none H'⟩ k:=⟨rfl,hr,zFJ fun c H' q=>by
  obtain ⟨c',h1,h2⟩:=q
  exact h2 c h1,PassesOwn.leaving,tb⟩
 have hlen:args.length=np:=by rw [<-hd.length];exact Nat.succ.inj hl
 refine ⟨_,h cdv A outer s H E _ hg zCI,.obj (some a) c lf fs ds::L3.start (N.length - 1) args,Bi,zZ sm sb hd (by omega) ho,?_⟩
 unfold fnX at hq
 rw [if_pos hlen] at hq
 cases z:b (.obj (some a) c lf fs ds::L3.start (N.length - 1) args) with
 | no=>rw [z] at hq;exact hq
 | err cc=>rw [z] at hq;exact fun Hi' H' e C hC=>hq C hC Hi' H' e
 | ok fl=>
  rw [z] at hq
  cases fl with
  | brk ρ'=>exact hq.elim
  | ctn ρ'=>exact hq.elim
  | nx ρ'=>
   intro σ' Hi' H' s' R
   have hq2:match zKp a c lf .non ρ'[0]? with
    | .ok (d,fs',ds')=>∀ v Hi' H',Ext Bi B0 Hi' H'->IsD K Hi' v d->ObjAt K mg B0 Hi' H' a c lf fs' ds'->Q v H'
    | .err cc=>∀ Cc,mg cc=some Cc->∀ Hi' H',Ext Bi B0 Hi' H'->E Cc none H'
    | .no=>False:=hq
   clear hq
   cases z0:ρ'[0]? with
   | none=>rw [z0] at hq2;exact hq2.elim
   | some sl=>
    rw [z0] at hq2
    cases sl with
    | obj ao c' lf' fs' ds'=>
     cases ao with
     | none=>exact hq2.elim
     | some a'=>
      unfold zKp at hq2
      dsimp only at hq2
      by_cases w:a'=a/\c'=c/\lf'=lf
      ·rw [if_pos w] at hq2
       obtain ⟨rfl,rfl,rfl⟩:=w
       obtain ⟨a2,o1,g1,g2⟩:=R.slot 0 _ z0
       have e:=g1 _ rfl
       subst e
       exact hq2 .non Hi' H' R.ext .non g2
      ·rw [if_neg w] at hq2;exact hq2.elim
    | _=>exact hq2.elim
  | ret r=>
   cases r with
   | v d=>exact hq.elim
   | f es=>exact hq.elim
   | w a' d c' lf' fs' ds'=>
    have hq2:match (if a'=a/\c'=c/\lf'=lf then Res.ok (d,fs',ds') else .no) with
    | .ok (d,fs',ds')=>∀ v Hi' H',Ext Bi B0 Hi' H'->IsD K Hi' v d->ObjAt K mg B0 Hi' H' a c lf fs' ds'->Q v H'
    | .err cc=>∀ Cc,mg cc=some Cc->∀ Hi' H',Ext Bi B0 Hi' H'->E Cc none H'
    | .no=>False:=hq
    clear hq
    by_cases w:a'=a/\c'=c/\lf'=lf
    ·rw [if_pos w] at hq2
     obtain ⟨rfl,rfl,rfl⟩:=w
     exact hq2
    ·rw [if_neg w] at hq2;exact hq2.elim
end
theorem FldsX.out {K:PySem.W.Frag} {Hi:Hp} {lf f:Str} (n:f≠lf):∀ {hs:List (Str×V)} {fs:List (Str×D)},FldsX K Hi lf hs fs->fs.lookup f=none->hs.lookup f=none
 | _,_,.nil,_=>rfl
 | _,_,.own _ r,e=>by rw [List.lookup_cons,beq_false_of_ne n] at e ⊢;exact FldsX.out n r e
 | _,_,.cons (f:=g) m h r,e=>by
  rw [List.lookup_cons] at e ⊢
  cases z:(f==g) with
  | true=>rw [z] at e;cases e
  | false=>rw [z] at e;exact FldsX.out n r e
theorem qX {P a:Addr} {H:Hp} {o:HO} (h:pL P H) (ha:H a=some o) (h1:∀ ps,o≠.tbl ps) (h2:∀ ob u,o≠.frz ob u):pL P (iZ H a):=by
 obtain ⟨ps,e,t,k⟩:=h
 have n:∀ {b o'},H b=some o'->o'≠o->b≠a:=fun {b o'} q z w=>by subst w;rw [ha] at q;cases q;exact z rfl
 refine ⟨ps,by rw [fQ (n e fun z=>h1 ps z.symm)];exact e,t,fun pos cv q=>?_⟩
 obtain ⟨c,oc,vs,tk,u,r1,r2,r3⟩:=k pos cv q
 exact ⟨c,oc,vs,tk,u,r1,by rw [fQ (n r2 fun z=>h2 oc u z.symm)];exact r2,r3⟩
theorem yP {Hi H Hi' H':Hp} {a:Addr} {o:HO} (e:Ext Hi H Hi' H') (hn:H a=none) (h:H' a=some o) (h1:∀ ps,o≠.tbl ps) (h2:∀ ob u,o≠.frz ob u) (hi:Hi' a=none):Ext Hi H Hi' (iZ H' a) where
 i:=e.i
 h:=⟨fun b o q=>by
   have n:b≠a:=fun z=>by rw [z,hn] at q;cases q
   rw [fQ n]
   exact e.h.k b o q,fun P t=>qX (e.h.t P t) h h1 h2⟩
 s:=fun b o q=>by
  have n:b≠a:=fun z=>by rw [z,hi] at q;cases q
  rw [fQ n]
  exact e.s b o q
 n:=e.n
section
variable {K:PySem.W.Frag} {mg:Str->Option Value} {B Bi Hi H Hi' H':Hp} {σ:St} {ρ:Rho} {i:Nat} {ao:Option Addr} {c lf:Str} {fs fs':List (Str×D)} {ds ds':List D} {a l:Addr}
theorem xM {C dx:Addr} {hs:List (Str×V)} {us:List Value} (e:Ext Bi B Hi H) (k1:H a=some (.ins C dx hs)) (k2:Hi a=none) (k3:B a=none) (k6:H l=some (.ext (pH l us))) (k7:Hi l=none) (k8:B l=none):Ext Bi B Hi (iZ (iZ H a) l):=by
 have nl:l≠a:=fun z=>by rw [z,k1] at k6;cases k6
 exact yP (yP e k3 k1 (fun _ z=>by cases z) (fun _ _ z=>by cases z) k2) k8 (by rw [fQ nl];exact k6) (fun _ z=>by cases z) (fun _ _ z=>by cases z) k7
theorem Rel.lentX {C dx:Addr} {hs:List (Str×V)} {us:List Value} (R:Rel K mg B Bi Hi H σ ρ) (q:ρ[i]?=some (.obj ao c lf fs ds)) (p:σ[i]?=some (some (.ref a))) (hao:∀ b,ao=some b->a=b) (hl:kW i ρ=true) (k1:H a=some (.ins C dx hs)) (k2:Hi a=none) (k3:B a=none) (k6:H l=some (.ext (pH l us))) (k7:Hi l=none) (k8:B l=none)
  (x:Ext Hi (iZ (iZ H a) l) Hi' H') (n:ObjAt K mg (iZ (iZ H a) l) Hi' H' a c lf fs' ds'):Rel K mg B Bi Hi' H' σ (ρ.set i (.obj ao c lf fs' ds')):=by
 have nla:l≠a:=fun z=>by rw [z,k1] at k6;cases k6
 have B0:∀ {b:Addr},b≠a->b≠l->iZ (iZ H a) l b=H b:=fun h1 h2=>by rw [fQ h2,fQ h1]
 have hlen:i < ρ.length:=(List.getElem?_eq_some_iff.mp q).1
 refine ⟨R.len.trans (List.length_set ..).symm,(xM R.ext k1 k2 k3 k6 k7 k8).trans x,fun j s e=>?_,fun i' j b fs1 gs e1 e2 e3 e4=>?_⟩
 ·by_cases z:i=j
  ·subst z
   rw [List.getElem?_set_self hlen] at e
   cases e
   obtain ⟨l',C',dx',hs',xs',us',m1,m2,m3,m4,m5,m6,m7,m8,m9⟩:=n
   refine ⟨a,p,hao,l',C',dx',hs',xs',us',m1,m2,k3,m4,m5,m6,m7,?_,m9⟩
   cases y:B l' with
   | none=>rfl
   | some o=>
    exfalso
    have na:l'≠a:=fun w=>by rw [w,k3] at y;cases y
    have nl':l'≠l:=fun w=>by rw [w,k8] at y;cases y
    rw [B0 na nl'] at m8
    have:=R.ext.h.none m8
    rw [this] at y;cases y
  ·rw [List.getElem?_set_ne z] at e
   have t:=R.slot j s e
   have nj:=lP hl (Ne.symm z) e
   cases s with
   | un=>trivial
   | val d=>obtain ⟨v,u,r⟩:=t;exact ⟨v,u,r.mono x.i⟩
   | own ds1=>
    obtain ⟨b,ys,u,g1,g2,g3,g4⟩:=t
    have n1:b≠a:=fun w=>by rw [w,k1] at g1;cases g1
    have n2:b≠l:=fun w=>by rw [w,k6] at g1;cases g1
    obtain ⟨m1,m2⟩:=x.out (a:=b) (by rw [B0 n1 n2];exact g1) g2
    exact ⟨b,ys,u,m1,m2,g3,g4.mono x.i⟩
   | exc c1=>
    obtain ⟨b,C1,u,g1,g2,g3,g4⟩:=t
    have n1:b≠a:=fun w=>by rw [w,k1] at g1;cases g1
    have n2:b≠l:=fun w=>by
     rw [w,k6] at g1
     exact zCd (by injection (Option.some.inj g1))
    obtain ⟨m1,m2⟩:=x.out (a:=b) (by rw [B0 n1 n2];exact g1) g2
    exact ⟨b,C1,u,m1,m2,g3,g4⟩
   | tab T=>obtain ⟨b,u,g1⟩:=t;exact ⟨b,u,x.i _ _ g1⟩
   | ins c1 fs1=>obtain ⟨b,C1,dx1,hs1,u,g1,g2,g3⟩:=t;exact ⟨b,C1,dx1,hs1,u,x.i _ _ g1,g2,g3.mono x.i⟩
   | obj _ _ _ _ _=>cases nj
 ·have own:∀ {j:Nat} {fs1:List D},(ρ.set i (.obj ao c lf fs' ds'))[j]?=some (.own fs1)->ρ[j]?=some (.own fs1):=fun {j fs1} p=>by
   by_cases w:i=j
   ·subst w;rw [List.getElem?_set_self hlen] at p;cases p
   ·rw [List.getElem?_set_ne w] at p;exact p
  exact R.dist i' j b fs1 gs (own e1) (own e2) e3 e4
end
structure CanX (P:Program) (w:World) (K:PySem.W.Frag) (mg:Str->Option Value) (base:Heap) (k:Nat) (c lf m:Str) (np:Nat) (kX:gH):Prop where
 ex:∃ f fd C ps,FnOk P w K mg base (CX1 P w) k f fd ps (spX K mg c lf np kX)/\lV K fd ps []/\mg c=some (.ref C)/\Cls K C/\Meth K C m f
 ln:∀ a fs ds args,kX a fs ds args≠.no->args.length=np
def tM (X:Cx) (G:Gx) (F:Mv):TE:=fun σ H Q=>∃ ρ Hi,dS X G Hi H σ ρ/\match F ρ with
 | .ok (d,ρ')=>∀ v Hi' H',Same Hi Hi'->dS X G Hi' H' σ ρ'->IsD X.K Hi' v d->Q v H'
 | .err c=>∀ Hi' H',Ext G.Bi G.B Hi' H'->G.E c H'
 | .no=>False
section
variable {X:Cx} {G:Gx} {e e1 o value:Expr} {es:List Expr} {pos p pos' apos:Pos} {i j k np:Nat} {c lf f m x y:Str} {fs:Fv} {F:Mv} {kX:gH}
theorem zEH (W:Good X G k) (ln:∀ a fs ds args,kX a fs ds args≠.no->args.length=np) {C:Addr} (hC:X.mg c=some (.ref C)):∀ σ H Q,tM X G (bD i c lf m kX fs) σ H Q->zFV C m (spX X.K X.mg c lf np kX) [] (XE X G) (qJ i) (tAs X G fs) σ H Q:=fun σ H Q q=>by
 obtain ⟨ρ,Hi,R,ou⟩:=q
 unfold bD at ou
 cases z:ρ[i]? with
 | none=>rw [z] at ou;exact ou.elim
 | some s=>
  rw [z] at ou
  cases s with
  | obj ao c' lf' fd ds=>
   unfold zJC at ou
   try dsimp only at ou
   by_cases w:c'=c/\lf'=lf/\kW i ρ=true/\(fd.lookup m).isNone=true/\m≠lf
   ·rw [if_pos w] at ou
    obtain ⟨rfl,rfl,hlo,hno,nm⟩:=w
    obtain ⟨a',o1,g0,l,C',dx,hs,xs,us,k1,k2,k3,k4,k5,k6,k7,k8,k9,k10,k11⟩:=R.slot i _ z
    have eC:C'=C:=by rw [hC] at k4;cases k4;rfl
    subst eC
    refine ⟨.ref a',o1,a',dx,hs,rfl,k1,k11.out nm (Option.isNone_iff_eq_none.mp hno),ρ,Hi,R,?_⟩
    cases zf:fs ρ with
    | no=>rw [zf] at ou;exact ou.elim
    | err cc=>rw [zf] at ou;exact fun Hi' H' e=>ou Hi' H' (R.ext.trans e)
    | ok args=>
     rw [zf] at ou
     have ou1:(match (atA (fun a=>kX a fd ds args) ao).bind fun r=>Res.ok (r.1,ρ.set i (.obj ao c' lf' r.2.1 r.2.2)) with
      | .ok (d,ρ')=>∀ v Hi' H',Same Hi Hi'->dS X G Hi' H' σ ρ'->IsD X.K Hi' v d->Q v H'
      | .err c=>∀ Hi' H',Ext G.Bi G.B Hi' H'->G.E c H'
      | .no=>False):=ou
     have ou':(match (kX a' fd ds args).bind fun r=>Res.ok (r.1,ρ.set i (.obj ao c' lf' r.2.1 r.2.2)) with
      | .ok (d,ρ')=>∀ v Hi' H',Same Hi Hi'->dS X G Hi' H' σ ρ'->IsD X.K Hi' v d->Q v H'
      | .err c=>∀ Hi' H',Ext G.Bi G.B Hi' H'->G.E c H'
      | .no=>False):=by
      rcases zJg (k:=fun a=>kX a fd ds args) g0 with zA | zA
      ·rw [zA] at ou1;exact ou1
      ·rw [zA] at ou1;exact ou1.elim
     clear ou ou1
     intro Hi1 H1 x1 vs r1
     have R1:=R.grow x1
     obtain ⟨a1,a2⟩:=x1.out k1 k2
     obtain ⟨b1,b2⟩:=x1.out k6 k7
     have nl:l≠a':=fun z=>by rw [z,k1] at k6;cases k6
     have hm:kX a' fd ds args≠.no:=fun z=>by rw [z] at ou';exact ou'
     have tb1:=W.tb.ext R1.ext
     refine ⟨by rw [List.append_nil,List.length_cons,r1.length,ln _ _ _ _ hm],a',vs,Hi1,iZ (iZ H1 a') l,fd,ds,args,by rw [List.append_nil],fun P q=>⟨qX (qX (tb1 P q).1 a1 (fun _ z=>by cases z) (fun _ _ z=>by cases z)) (by rw [fQ nl];exact b1) (fun _ z=>by cases z) (fun _ _ z=>by cases z),(tb1 P q).2⟩,R1.s,fun b o q=>(iL (iL q).2).2,r1,
      ⟨l,C',dx,hs,xs,us,a1,a2,by rw [fQ (Ne.symm nl)];exact hZ,hC,k5,b1,b2,hZ,k9,k10.mono x1.i,k11.mono x1.i⟩,?_⟩
     cases zk:kX a' fd ds args with
     | no=>exact absurd zk hm
     | err cc=>rw [zk] at ou';exact fun Cc hCc Hi2 H2 x2=>⟨cc,hCc,ou' Hi2 H2 ((xM R1.ext a1 a2 k3 b1 b2 k8).trans x2)⟩
     | ok r=>
      rw [zk] at ou'
      obtain ⟨d,fs2,ds2⟩:=r
      exact fun v Hi2 H2 x2 rv n=>ou' v Hi2 H2 (x1.i.trans x2.i) (Rel.lentX R1 z o1 g0 hlo a1 a2 k3 b1 b2 k8 x2 n) rv
   ·rw [if_neg w] at ou;exact ou.elim
  | _=>exact ou.elim
theorem fS (W:Good X G k) (h:CanX X.prog X.w X.K X.mg X.base k c lf m np kX) (hv:PE X o (qJ i)) (ha:PAd X G (e1::es) fs) {pl:Sem Bool}
  (hst:starEach (e1::es) X.env=(false,eval e1 X.env)::starEach es X.env:=by rfl) (hpl:(backTo pos (starEach es X.env)).any (·.1)=false:=by rfl)
  (ht:eval (.Call (.Attribute o m apos) (e1::es) [] pos) X.env=(do
   let ov <-eval o X.env
   standAt apos.atName
   let (f,first) <-holding [ov] (getMethod ov m pl)
   callWith pos f first (backTo pos (starEach (e1::es) X.env)) (backToKw pos (keywordEach [] X.env))):=by rfl):
  PE X (.Call (.Attribute o m apos) (e1::es) [] pos) (tM X G (bD i c lf m kX fs)):=by
 obtain ⟨f,fd,C,ps,Fn,b,hC,cl,hm⟩:=h.ex
 exact PE.wk (zGl (pl:=pl) hv cl hm Fn W.room b .nil W.pass ha hst hpl ht) (zEH W h.ln hC)
theorem qU (he:PE X e (tM X G F)) (hs:swapsWith e none pos.line X.env=pure false:=by rfl):PSd X G (.Expr e pos) (iE F):=PS.wk (jT he hs) fun E σ H q=>by
 obtain ⟨ρ,Hi,R,h⟩:=q
 unfold iE at h
 refine ⟨ρ,Hi,R,?_⟩
 cases z:F ρ with
 | no=>rw [z] at h;exact h
 | err c=>rw [z] at h;exact h
 | ok r=>rw [z] at h;exact fun v Hi' H' s R' _=>h σ Hi' H' s R'
theorem zBK (hN:X.N.Nodup) (hi:X.N[j]?=some y) (hx:Loc X.env.scope y) (he:PE X e (tM X G F)) (hs:swapsWith e (some (.Name y pos')) pos.line X.env=pure false:=by rfl)
  (hf:X.fn y=true∨X.env.scope.names.lookup y=some .local:=by first | exact .inl rfl | exact .inr rfl | assumption):PSd X G (.Assign [.Name y pos'] e pos) (pD j F):=PS.wk (xI hN hi hx he hs hf) fun E σ H q=>by
 obtain ⟨ρ,Hi,R,h⟩:=q
 unfold pD at h
 refine ⟨ρ,Hi,R,?_⟩
 cases z:F ρ with
 | no=>rw [z] at h;exact h
 | err c=>rw [z] at h;exact h
 | ok r=>rw [z] at h;exact fun v Hi' H' s R' rv=>h _ Hi' H' s (R'.set rv)
theorem wR (he:PE X e (tM X G F)):PSd X G (.Return (some e) pos) (mH F):=PS.wk (pN he) fun E σ H q=>by
 obtain ⟨ρ,Hi,R,h⟩:=q
 unfold mH at h
 refine ⟨ρ,Hi,R,?_⟩
 cases z:F ρ with
 | no=>rw [z] at h;exact h
 | err c=>rw [z] at h;exact h
 | ok r=>
  rw [z] at h
  obtain ⟨d,ρ'⟩:=r
  intro v Hi' H' s R' rv
  have h1:Fin X G Hi E (zID ρ' d):=h
  unfold zID zGP at h1
  cases z0:ρ'[0]? with
  | none=>rw [z0] at h1;exact h1.elim
  | some sl=>
   rw [z0] at h1
   cases sl with
   | obj ao c' lf fs ds=>
    cases ao with
    | none=>exact h1.elim
    | some a=>
     obtain ⟨a',o1,g1,g2⟩:=R'.slot 0 _ z0
     have e:=g1 a rfl
     subst e
     exact h1 v Hi' H' R'.ext rv g2
   | _=>exact h1.elim
end
theorem zFw {P:Program} {w:World} {H:Hp} {h:Heap} {l:Addr} {us:List Value} (n:Nat) (e:h.get? l=some { cls:=.type "list", data:=.seq us.toArray n }):hJ P w H h l (.ext (pH l us)):=
 ⟨⟨n,e⟩,⟨_,e⟩,fun h1 h2 ⟨n,y⟩ k=>⟨n,k _ y⟩⟩
theorem Rel.hideX {K:PySem.W.Frag} {mg:Str->Option Value} {B Bi Hi H:Hp} {σ:St} {ρ:Rho} {i:Nat} {l:Addr} {us:List Value} {xs:List V} (R:Rel K mg B Bi Hi H σ ρ) (hl:kW i ρ=true) (k6:H l=some (.ext (pH l us))) (k7:Hi l=none) (k8:B l=none):Rel K mg B Bi Hi (upd H l (.lst xs)) σ (ρ.set i .un):=by
 refine ⟨by rw [List.length_set];exact R.len,⟨R.ext.i,⟨fun b o z=>?_,fun P z=>(R.ext.h.t P z).put (fun ps y=>by rw [k6] at y;cases y) (fun ob u y=>by rw [k6] at y;cases y)⟩,fun b o z=>?_,R.ext.n⟩,fun j s z=>?_,fun j k b fs gs q1 q2 q3 q4=>?_⟩
 ·rw [aG (aZ z k8)];exact R.ext.h.k _ _ z
 ·rw [aG (aZ z k7)];exact R.ext.s _ _ z
 ·by_cases w:i=j
  ·subst w
   by_cases hlen:i < ρ.length
   ·rw [List.getElem?_set_self hlen] at z;cases z;trivial
   ·rw [List.getElem?_eq_none (by rw [List.length_set];omega)] at z;cases z
  ·rw [List.getElem?_set_ne w] at z
   have S:=R.slot j s z
   have nj:=lP hl (Ne.symm w) z
   cases s with
   | un=>trivial
   | val d=>exact S
   | own ds1=>
    obtain ⟨b1,zs,p,g1,g2,g3,g4⟩:=S
    have hb1:b1≠l:=fun c=>by rw [c,k6] at g1;cases g1
    exact ⟨b1,zs,p,by rw [aG hb1];exact g1,g2,g3,g4⟩
   | exc c1=>
    obtain ⟨b1,C,p,g1,g2,g3,g4⟩:=S
    have hb1:b1≠l:=fun c=>by
     rw [c,k6] at g1
     exact zCd (by injection (Option.some.inj g1))
    exact ⟨b1,C,p,by rw [aG hb1];exact g1,g2,g3,g4⟩
   | tab T=>exact S
   | ins c1 fs1=>exact S
   | obj _ _ _ _ _=>cases nj
 ·have own:∀ {j:Nat} {fs1:List D},(ρ.set i .un)[j]?=some (.own fs1)->ρ[j]?=some (.own fs1):=fun {j fs1} p=>by
   by_cases w:i=j
   ·subst w
    by_cases hlen:i < ρ.length
    ·rw [List.getElem?_set_self hlen] at p;cases p
    ·rw [List.getElem?_eq_none (by rw [List.length_set];omega)] at p;cases p
   ·rw [List.getElem?_set_ne w] at p;exact p
  exact R.dist j k b fs gs (own q1) (own q2) q3 q4
theorem Rel.showX {K:PySem.W.Frag} {mg:Str->Option Value} {B Bi Hi H:Hp} {σ:St} {ρ:Rho} {i:Nat} {ao:Option Addr} {c lf:Str} {fs:List (Str×D)} {ds:List D} {s0:Sl} {a l:Addr} {us:List Value} {xs:List V} (q0:ρ[i]?=some s0) (R:Rel K mg B Bi Hi H σ (ρ.set i .un)) (hl:kW i ρ=true) (p:σ[i]?=some (some (.ref a))) (hao:∀ b,ao=some b->a=b)
  (kl:H l=some (.lst xs)) (k7:Hi l=none) (k8:B l=none) (ndl:∀ (j:Nat) (es:List D),(ρ.set i Sl.un)[j]?=some (Sl.own es)->σ[j]?≠some (some (V.ref l))) (n:ObjAt K mg B Hi (upd H l (.ext (pH l us))) a c lf fs ds):Rel K mg B Bi Hi (upd H l (.ext (pH l us))) σ (ρ.set i (.obj ao c lf fs ds)):=by
 have hlen:i < ρ.length:=(List.getElem?_eq_some_iff.mp q0).1
 have len0:=R.len
 rw [List.length_set] at len0
 refine ⟨by rw [List.length_set];exact len0,⟨R.ext.i,⟨fun b o z=>?_,fun P z=>(R.ext.h.t P z).put (fun ps y=>by rw [kl] at y;cases y) (fun ob u y=>by rw [kl] at y;cases y)⟩,fun b o z=>?_,R.ext.n⟩,fun j s z=>?_,fun j k b fs1 gs q1 q2 q3 q4=>?_⟩
 ·rw [aG (aZ z k8)];exact R.ext.h.k _ _ z
 ·rw [aG (aZ z k7)];exact R.ext.s _ _ z
 ·by_cases w:i=j
  ·subst w
   rw [List.getElem?_set_self hlen] at z;cases z
   exact ⟨a,p,hao,n⟩
  ·rw [List.getElem?_set_ne w] at z
   have z':(ρ.set i .un)[j]?=some s:=by rw [List.getElem?_set_ne w];exact z
   have S:=R.slot j s z'
   have nj:=lP hl (Ne.symm w) z
   cases s with
   | un=>trivial
   | val d=>exact S
   | own ds1=>
    obtain ⟨b1,zs,p1,g1,g2,g3,g4⟩:=S
    have hb1:b1≠l:=fun c=>ndl j ds1 z' (by rw [p1,c])
    exact ⟨b1,zs,p1,by rw [aG hb1];exact g1,g2,g3,g4⟩
   | exc c1=>
    obtain ⟨b1,C,p1,g1,g2,g3,g4⟩:=S
    have hb1:b1≠l:=fun c=>by rw [c,kl] at g1;cases g1
    exact ⟨b1,C,p1,by rw [aG hb1];exact g1,g2,g3,g4⟩
   | tab T=>exact S
   | ins c1 fs1=>exact S
   | obj _ _ _ _ _=>cases nj
 ·have own:∀ {j:Nat} {fs1:List D},(ρ.set i (.obj ao c lf fs ds))[j]?=some (.own fs1)->(ρ.set i .un)[j]?=some (.own fs1):=fun {j fs1} p=>by
   by_cases w:i=j
   ·subst w;rw [List.getElem?_set_self hlen] at p;cases p
   ·rw [List.getElem?_set_ne w] at p ⊢;exact p
  exact R.dist j k b fs1 gs (own q1) (own q2) q3 q4
section
variable {X:Cx} {G:Gx} {e o:Expr} {pos p2 apos cpos:Pos} {i:Nat} {c lf:Str} {fv:Ev}
theorem zIB (ho:PE X o (qJ i)) (he:PEd X G e fv) (cf:∀ C,X.mg c=some (.ref C)->Cls X.K C/\dW X.K C lf)
  (hb1:attributeBase o lf X.env (eval o X.env)=eval o X.env:=by rfl)
  (hbase:attributeBase (.Attribute o lf p2) "append" X.env (eval (.Attribute o lf p2) X.env)=eval (.Attribute o lf p2) X.env:=by rfl)
  (hfew:((backTo cpos (starEach [e] X.env)).all (fun x=>!x.1) && (backToKw cpos (keywordEach [] X.env)).all (fun x=>x.1.isSome)
   && decide ([e].length+([]:List Keyword).length+(if ([]:List Keyword).isEmpty then 0 else 1) < 30))=true:=by rfl)
  (hline:(apos.endLine==cpos.line)=true:=by rfl) (hs:starEach [e] X.env=(false,eval e X.env)::starEach [] X.env:=by rfl)
  (hsw:swapsWith (.Call (.Attribute (.Attribute o lf p2) "append" apos) [e] [] cpos) none pos.line X.env=pure false:=by rfl):
  PSd X G (.Expr (.Call (.Attribute (.Attribute o lf p2) "append" apos) [e] [] cpos) pos) (zBu i c lf fv):=by
 intro pins s σ H E I q
 obtain ⟨ρ,Hi,R,h⟩:=q
 unfold zBu at h
 cases z:ρ[i]? with
 | none=>rw [z] at h;exact h.elim
 | some sl=>
  rw [z] at h
  cases sl with
  | obj ao c' lf' fs ds=>
   have h2:Fin X G Hi E (if c'=c/\lf=lf'/\ds.length < 100000/\kW i ρ=true then (fv (ρ.set i .un)).bind fun d=>.ok (.nx (ρ.set i (.obj ao c' lf' fs (ds++[d])))) else .no):=h
   clear h
   by_cases w:c'=c/\lf=lf'/\ds.length < 100000/\kW i ρ=true
   ·rw [if_pos w] at h2
    obtain ⟨rfl,rfl,hl,hlo⟩:=w
    obtain ⟨a,o1,g0,l,C,dx,hs',xs,us,k1,k2,k3,k4,k5,k6,k7,k8,k9,k10,k11⟩:=R.slot i _ z
    have nla:l≠a:=fun y=>by rw [y,k1] at k6;cases k6
    obtain ⟨⟨n0,e0⟩,_,_⟩:=I.hok l _ k6
    have I1:Inv X pins σ (upd H l (.lst xs)) s:=I.write (x:=l) (e:=l) (o:=.lst xs) (h':=s.heap) (t':=s.toks) (by rw [k6];trivial) (.inl rfl) (fun b u _ y=>y) ⟨_,e0⟩ ⟨by rw [k10.length];exact Nat.le_trans (Nat.le_of_lt hl) (by decide),us,n0,k9,e0⟩
    have R1:dS X G Hi (upd H l (.lst xs)) σ (ρ.set i .un):=R.hideX hlo k6 k7 k8
    have ndl:∀ (j:Nat) (es:List D),(ρ.set i Sl.un)[j]?=some (Sl.own es)->σ[j]?≠some (some (V.ref l)):=fun j es q y=>by
     by_cases w:i=j
     ·subst w
      rw [List.getElem?_set_self (List.getElem?_eq_some_iff.mp z).1] at q;cases q
     ·rw [List.getElem?_set_ne w] at q
      obtain ⟨b1,zs,p1,g1,_⟩:=R.slot j _ q
      rw [y] at p1;cases p1
      rw [k6] at g1;cases g1
    refine wpAny_mono (jT (wB PySem.F.plainAttrs_list PySem.F.slot_list_append PySem.F.type_list_append gJ (xO ho hb1) (cT he gK hs) hbase hfew hline hs) hsw pins s σ (upd H l (.lst xs)) { nx:=fun σ' H'=>σ'=σ/\∃ d v Hi2 H2,fv (ρ.set i .un)=.ok d/\Ext Hi (upd H l (.lst xs)) Hi2 H2/\IsD X.K Hi2 v d/\H'=upd H2 l (.lst (xs++[v])),rt:=fun _ _=>False } I1 ?_) (fun fl s1 q=>?_) fun _ _ z=>z
    ·refine ⟨.ref a,o1,a,C,dx,hs',.ref l,rfl,by rw [aG (Ne.symm nla)];exact k1,(cf C k4).1,(cf C k4).2,k5,.inl ⟨rfl,xs,SqL.of aE⟩,?_⟩
     refine ⟨ρ.set i .un,Hi,R1,jR R1 h2 fun d Hi2 H2 zd e2 h' v r=>?_⟩
     obtain ⟨g1,g2⟩:=e2.out aE k7
     exact ⟨l,xs,v,rfl,rfl,g1,by rw [k10.length];exact Nat.lt_trans hl (by decide),rfl,d,v,Hi2,H2,zd,e2,r,rfl⟩
    ·cases fl with
     | next=>
      obtain ⟨σ',H',I2,rfl,d,v,Hi2,H2,zd,e2,r,rfl⟩:=q
      obtain ⟨g1,g2⟩:=e2.out aE k7
      obtain ⟨a1,a2⟩:=e2.out (a:=a) (by rw [aG (Ne.symm nla)];exact k1) k2
      obtain ⟨zz,its,n1,rv,hlen,ee⟩:=I2.lstM aE
      have I3:Inv X pins σ' (upd (upd H2 l (.lst (xs++[v]))) l (.ext (pH l its))) s1:=I2.write (x:=l) (e:=l) (o:=.ext (pH l its)) (h':=s1.heap) (t':=s1.toks) (by rw [aE];trivial) (.inl rfl) (fun b u _ y=>y) ⟨_,ee⟩ (zFw n1 ee)
      have uu:upd (upd H2 l (.lst (xs++[v]))) l (.ext (pH l its))=upd H2 l (.ext (pH l its)):=by
       funext b
       by_cases y:b=l
       ·rw [y,aE,aE]
       ·rw [aG y,aG y,aG y]
      rw [uu] at I3
      refine ⟨σ',_,I3,?_⟩
      rw [zd] at h2
      refine h2 σ' Hi2 _ e2.i (Rel.showX (s0:=.obj ao c' lf fs ds) z (R1.grow e2) hlo o1 g0 g1 g2 k8 ndl ⟨l,C,dx,hs',xs++[v],its,by rw [aG (Ne.symm nla)];exact a1,a2,k3,k4,k5,aE,g2,k8,rv,(k10.mono e2.i).snoc r,k11.mono e2.i⟩)
     | ret u=>obtain ⟨_,_,_,_,_,q⟩:=q;exact q.elim
     | brk=>obtain ⟨_,_,_,q⟩:=q;exact q.elim
     | cont=>obtain ⟨_,_,_,q⟩:=q;exact q.elim
   ·rw [if_neg w] at h2;exact h2.elim
  | _=>exact h.elim
end
def tTM (X:Cx) (G:Gx) (T:TMv):TT:=fun σ H Q=>∃ ρ Hi,dS X G Hi H σ ρ/\match T ρ with
 | .ok (b,ρ')=>∀ Hi' H',Same Hi Hi'->dS X G Hi' H' σ ρ'->Q b H'
 | .err c=>∀ Hi' H',Ext G.Bi G.B Hi' H'->G.E c H'
 | .no=>False
section
variable {X:Cx} {G:Gx} {e a b:Expr} {es rest:List Expr} {pos:Pos} {F:Mv} {T U:TMv} {t:Tv} {sa sb:Sv} {as bs:List Stmt}
theorem zJR (he:PE X e (tM X G F)) (ht:∀ whole,isTrue e X.env whole=(do let v <-whole;standAt e.pos;holding [v] (truthy v)):=by intro _;rfl):PT X e (tTM X G (tmV F)):=PT.wk (zEX he ht) fun σ H Q q=>by
 obtain ⟨ρ,Hi,R,h⟩:=q
 unfold tmV at h
 refine ⟨ρ,Hi,R,?_⟩
 cases z:F ρ with
 | no=>rw [z] at h;exact h
 | err c=>rw [z] at h;exact h
 | ok r=>
  rw [z] at h
  obtain ⟨d,ρ'⟩:=r
  intro v Hi' H' s R' rv
  cases d with
  | bl bb=>rw [rv.blI];exact ⟨bb,rfl,h Hi' H' s R'⟩
  | _=>exact h.elim
theorem zLZ (he:PTd X G e t):PT X e (tTM X G (tmD t)):=PT.wk he fun σ H Q q=>by
 obtain ⟨ρ,Hi,R,h⟩:=q
 unfold tmD at h
 refine ⟨ρ,Hi,R,?_⟩
 cases z:t ρ with
 | no=>rw [z] at h;exact h
 | err c=>rw [z] at h;exact fun Hi' H' e=>h Hi' H' (R.ext.trans e)
 | ok c=>rw [z] at h;exact fun Hi' H' e=>h Hi' H' e.i (R.grow e)
theorem zBw (he:PT X e (tTM X G T)):PT X (.UnaryOp .Not e pos) (tTM X G (lK T)):=PT.wk (zFe he) fun σ H Q q=>by
 obtain ⟨ρ,Hi,R,h⟩:=q
 unfold lK at h
 refine ⟨ρ,Hi,R,?_⟩
 cases z:T ρ with
 | no=>rw [z] at h;exact h
 | err c=>rw [z] at h;exact h
 | ok r=>rw [z] at h;exact h
theorem zGX (he:PT X e (tTM X G T)):PW X (.BoolOp .And [e] pos) (tTM X G T):=zAR he
theorem zJf (ha:PT X a (tTM X G T)) (hb:PW X (.BoolOp .And (b::rest) pos) (tTM X G U)):PW X (.BoolOp .And (a::b::rest) pos) (tTM X G (qR T U)):=PW.wk (zFi ha hb) fun σ H Q q=>by
 obtain ⟨ρ,Hi,R,h⟩:=q
 unfold qR at h
 refine ⟨ρ,Hi,R,?_⟩
 cases z:T ρ with
 | no=>rw [z] at h;exact h
 | err c=>rw [z] at h;exact h
 | ok r=>
  rw [z] at h
  obtain ⟨c,ρ'⟩:=r
  intro Hi' H' s R'
  cases c with
  | true=>
   have h1:(match U ρ' with
    | .ok (b,ρ')=>∀ Hi' H',Same Hi Hi'->dS X G Hi' H' σ ρ'->Q b H'
    | .err c=>∀ Hi' H',Ext G.Bi G.B Hi' H'->G.E c H'
    | .no=>False):=h
   refine ⟨ρ',Hi',R',?_⟩
   cases zu:U ρ' with
   | no=>rw [zu] at h1;exact h1
   | err c=>rw [zu] at h1;exact h1
   | ok r2=>rw [zu] at h1;exact fun Hi2 H2 s2=>h1 Hi2 H2 (s.trans s2)
  | false=>exact h Hi' H' s R'
theorem zFG (he:PT X e (tTM X G T)) (ha:bX X G as sa) (hb:bX X G bs sb):PSd X G (.If e as bs pos) (zAL T sa sb):=PS.wk (zFT he ha hb) fun E σ H q=>by
 obtain ⟨ρ,Hi,R,h⟩:=q
 unfold zAL at h
 refine ⟨ρ,Hi,R,?_⟩
 cases z:T ρ with
 | no=>rw [z] at h;exact h
 | err c=>rw [z] at h;exact h
 | ok r=>
  rw [z] at h
  obtain ⟨c,ρ'⟩:=r
  intro Hi' H' s R'
  cases c with
  | true=>exact ⟨ρ',Hi',R',Fin.mono (show Fin X G Hi E (sa ρ') from h) s⟩
  | false=>exact ⟨ρ',Hi',R',Fin.mono (show Fin X G Hi E (sb ρ') from h) s⟩
theorem zDL (n:Nat) {body:List Stmt} (hp:PassesOwn (model X.prog X.w) X.A X.env X.xe) (hc:PT X e (tTM X G T)) (hb:bX X G body sa):PSd X G (.While e body [] pos) (whT T sa n):=PS.wk (yD hp hc hb) fun E σ H q=>by
 obtain ⟨ρ,Hi,R,h⟩:=q
 refine ⟨fun m σ' H'=>∃ ρ' Hi',Same Hi Hi'/\dS X G Hi' H' σ' ρ'/\Fin X G Hi' E (whT T sa m ρ'),⟨n,ρ,Hi,Same.refl _,R,h⟩,?_⟩
 rintro m σ' H' ⟨ρ',Hi',s',R',h'⟩
 cases m with
 | zero=>exact h'.elim
 | succ m=>
  rw [whT] at h'
  refine ⟨ρ',Hi',R',?_⟩
  cases z:T ρ' with
  | no=>rw [z] at h';exact h'
  | err c=>rw [z] at h';exact h'
  | ok r=>
   rw [z] at h'
   obtain ⟨c,ρ1⟩:=r
   intro Hi1 H1 s1 R1
   cases c with
   | false=>exact (show Fin X G Hi' E (.ok (.nx ρ1)) from h') σ' Hi1 H1 s1 R1
   | true=>
    have h1:Fin X G Hi' E (whB (whT T sa m) (sa ρ1)):=h'
    refine ⟨fun σ2 H2=>∃ ρ2 Hi2,Same Hi Hi2/\dS X G Hi2 H2 σ2 ρ2/\Fin X G Hi2 E (whT T sa m ρ2),fun σ2 H2 z=>⟨m,by omega,z⟩,ρ1,Hi1,R1,?_⟩
    have sm:Same Hi Hi1:=s'.trans s1
    have h2:=Fin.mono h1 s1
    cases zb:sa ρ1 with
    | no=>rw [zb] at h2;exact h2.elim
    | err c=>rw [zb] at h2;exact h2
    | ok fl=>
     rw [zb] at h2
     cases fl with
     | nx ρ2=>exact fun σ4 Hi4 H4 s4 R4=>⟨ρ2,Hi4,sm.trans s4,R4,Fin.mono (show Fin X G Hi1 E (whT T sa m ρ2) from h2) s4⟩
     | ctn ρ2=>exact fun σ4 Hi4 H4 s4 R4=>⟨ρ2,Hi4,sm.trans s4,R4,Fin.mono (show Fin X G Hi1 E (whT T sa m ρ2) from h2) s4⟩
     | brk ρ2=>exact h2
     | ret r=>cases r<;>exact h2
end
section
variable {X:Cx} {G:Gx} {e o:Expr} {es:List Expr} {pos p apos cpos:Pos} {i j k np:Nat} {c lf m x:Str} {F:Mv} {kX:gH} {ps:List Str} {mm:Mir}
theorem mZ (W:Good X G k) (h:CanX X.prog X.w X.K X.mg X.base k c lf m np kX) (hv:PE X o (qJ i)) {pl:Sem Bool}
  (ht:eval (.Call (.Attribute o m apos) [] [] pos) X.env=(do
   let ov <-eval o X.env
   standAt apos.atName
   let (f,first) <-holding [ov] (getMethod ov m pl)
   callWith pos f first (backTo pos (starEach [] X.env)) (backToKw pos (keywordEach [] X.env))):=by rfl):
  PE X (.Call (.Attribute o m apos) [] [] pos) (tM X G (bD i c lf m kX aNil)):=by
 obtain ⟨f,fd,C,ps,Fn,b,hC,cl,hm⟩:=h.ex
 refine PE.wk (zDC (pl:=pl) hv cl hm Fn W.room b .nil W.pass ht) fun σ H Q q=>?_
 obtain ⟨v,o1,a,dx,hs,e1,e2,e3,ρ,Hi,R,ou⟩:=zEH W h.ln hC σ H Q q
 exact ⟨v,o1,a,dx,hs,e1,e2,e3,Out.here ou R.s [] .nil⟩
theorem zHC (W:Good X G k) (c:CanM X.prog X.w X.K X.mg X.base k x ps mm) (hg:Gl X x) (he:PE X e (tM X G F))
  (hdb:(x==("__debug__" : Str))=false:=by decide) (hst:starEach [e] X.env=(false,eval e X.env)::starEach [] X.env:=by rfl) (hpl:(backTo pos (starEach [] X.env)).any (·.1)=false:=by rfl):
  PE X (.Call (.Name x p) [e] [] pos) (tM X G (fnM mm F)):=by
 obtain ⟨⟨f,fd,Fn,b,kp,hm⟩,ln⟩:=c
 refine PE.wk (qT Fn W.room hg hm kp b .nil W.pass (cT he gK hst) hdb hst hpl) fun σ H Q q=>?_
 obtain ⟨ρ,Hi,R,h⟩:=q
 unfold fnM at h
 refine ⟨ρ,Hi,R,?_⟩
 cases z:F ρ with
 | no=>rw [z] at h;exact h
 | err c=>rw [z] at h;exact h
 | ok r=>
  rw [z] at h
  obtain ⟨d,ρ'⟩:=r
  intro v Hi' H' s R' rv
  have h1:(match (mm [d]).bind fun x=>Res.ok (x.d,ρ') with
   | .ok (d,ρ')=>∀ v Hi' H',Same Hi Hi'->dS X G Hi' H' σ ρ'->IsD X.K Hi' v d->Q v H'
   | .err c=>∀ Hi' H',Ext G.Bi G.B Hi' H'->G.E c H'
   | .no=>False):=h
  have hn:mm [d]≠.no:=fun z=>by rw [z] at h1;exact h1
  refine ⟨(ln [d] hn:[d].length=ps.length),Hi',[d],W.tb.ext R'.ext,R'.s,.cons rv .nil,?_⟩
  cases zm:mm [d] with
  | no=>exact absurd zm hn
  | err cc=>rw [zm] at h1;exact fun C hC Hi2 H2 e2=>⟨cc,hC,h1 Hi2 H2 (R'.ext.trans e2)⟩
  | ok r=>
   rw [zm] at h1
   cases r with
   | v d2=>exact fun v Hi2 H2 e2 r2=>h1 v Hi2 H2 (s.trans e2.i) (R'.grow e2) r2
   | w a d2 c lf fs es=>exact fun v Hi2 H2 e2 r2=>h1 v Hi2 H2 (s.trans e2.i) (R'.grow e2) r2
   | f ds=>
    intro a Hi2 H2 e2 n
    obtain ⟨n1,n2,xs,n3,n4⟩:=n
    have e3:=e2.hold n1 n3 n2
    exact h1 (.ref a) _ _ (s.trans e3.i) (R'.grow e3) (.lst (SqL.of aE) (n4.mono (aS n2 _)))
theorem zCF (ho:PE X o (qJ j)) (he:PE X e (tM X G F))
  (hbase:attributeBase o "append" X.env (eval o X.env)=eval o X.env:=by rfl)
  (hfew:((backTo cpos (starEach [e] X.env)).all (fun x=>!x.1) && (backToKw cpos (keywordEach [] X.env)).all (fun x=>x.1.isSome)
   && decide ([e].length+([]:List Keyword).length+(if ([]:List Keyword).isEmpty then 0 else 1) < 30))=true:=by rfl)
  (hline:(apos.endLine==cpos.line)=true:=by rfl) (hs:starEach [e] X.env=(false,eval e X.env)::starEach [] X.env:=by rfl)
  (hsw:swapsWith (.Call (.Attribute o "append" apos) [e] [] cpos) none pos.line X.env=pure false:=by rfl):
  PSd X G (.Expr (.Call (.Attribute o "append" apos) [e] [] cpos) pos) (lX j F):=
 PS.wk (jT (wB PySem.F.plainAttrs_list PySem.F.slot_list_append PySem.F.type_list_append gJ ho (cT he gK hs) hbase hfew hline hs) hsw) fun E σ H q=>by
 obtain ⟨ρ,Hi,R,h⟩:=q
 unfold lX at h
 cases z:ρ[j]? with
 | none=>rw [z] at h;exact h.elim
 | some sl=>
  rw [z] at h
  cases sl with
  | own ds=>
   obtain ⟨a,xs,p,h1,h2,h3,h4⟩:=R.slot j _ z
   refine ⟨.ref a,p,.inl ⟨rfl,xs,SqL.of h1⟩,ρ,Hi,R,?_⟩
   have hh:Fin X G Hi E ((F ρ).bind fun r=>zHD j r r.2[j]?):=h
   cases zF:F ρ with
   | no=>rw [zF] at hh;exact hh
   | err c=>rw [zF] at hh;exact hh
   | ok r=>
    rw [zF] at hh
    obtain ⟨d,ρ'⟩:=r
    intro v Hi' H' s R' rv
    have h5:Fin X G Hi E (zHD j (d,ρ') ρ'[j]?):=hh
    cases z2:ρ'[j]? with
    | none=>rw [z2] at h5;exact h5.elim
    | some s2=>
     rw [z2] at h5
     cases s2 with
     | own es=>
      obtain ⟨a',ys,p',g1,g2,g3,g4⟩:=R'.slot j _ z2
      rw [p] at p';cases p'
      have h6:Fin X G Hi E (if es.length < 16777216 then .ok (.nx (ρ'.set j (.own (es++[d])))) else .no):=h5
      by_cases hz:es.length < 16777216
      ·rw [if_pos hz] at h6
       refine ⟨a,ys,v,rfl,rfl,g1,by rw [g4.length];exact hz,?_⟩
       exact h6 σ Hi' _ s (R'.write z2 p (g4.append (.cons rv .nil)))
      ·rw [if_neg hz] at h6;exact h6.elim
     | _=>exact h5.elim
  | _=>exact h.elim
end
section
variable {X:Cx} {G:Gx} {o value:Expr} {pos tpos:Pos} {i:Nat} {c f:Str} {fv:Ev}
theorem zEI (ho:PE X o (qJ i)) (hv:PEd X G value fv) (cf:∀ C,X.mg c=some (.ref C)->Cls X.K C/\dW X.K C f):PSd X G (.AugAssign (.Attribute o f tpos) .Add value pos) (wQ i c f fv):=PS.wk (zBf ho hv zJt) fun E σ H q=>by
 obtain ⟨ρ,Hi,R,h⟩:=q
 unfold wQ at h
 cases z:ρ[i]? with
 | none=>rw [z] at h;exact h.elim
 | some sl=>
  rw [z] at h
  cases sl with
  | obj ao c' lf fs ds=>
   have h2:Fin X G Hi E (if c'=c/\f≠lf then zKa i c f ρ (fv ρ) ao lf fs ds (fs.lookup f) else .no):=h
   clear h
   by_cases w:c'=c/\f≠lf
   ·rw [if_pos w] at h2
    obtain ⟨rfl,n⟩:=w
    obtain ⟨a,o1,g0,l,C,dx,hs,xs,us,k1,k2,k3,k4,k5,k6,k7,k8,k9,k10,k11⟩:=R.slot i _ z
    cases lk:fs.lookup f with
    | none=>rw [lk] at h2;exact h2.elim
    | some d0=>
     rw [lk] at h2
     cases d0 with
     | int n0=>
      obtain ⟨v0,hl0,hd0⟩:=k11.look n lk
      refine ⟨.ref a,o1,a,C,dx,hs,v0,rfl,k1,(cf C k4).1,(cf C k4).2,hl0,ρ,Hi,R,jR R h2 fun d Hi1 H1 _ e1 h1 v rv=>?_⟩
      have R1:=R.grow e1
      cases d with
      | int k=>
       have h3:Fin X G Hi1 E (if f≠lf/\fs.length < 900/\kW i ρ=true then .ok (.nx (ρ.set i (.obj ao c' lf (zHj f (.int (n0+k)) fs) ds))) else .no):=h1
       by_cases w2:f≠lf/\fs.length < 900/\kW i ρ=true
       ·rw [if_pos w2] at h3
        obtain ⟨_,hlen,hlo⟩:=w2
        obtain ⟨a1,a2⟩:=e1.out k1 k2
        obtain ⟨b1,b2⟩:=e1.out k6 k7
        have nla:l≠a:=fun y=>by rw [y,k1] at k6;cases k6
        have hL:=k11.len
        refine ⟨n0,k,hd0.intI,rv.intI,dx,hs,a1,by omega,h3 σ Hi1 _ (Same.refl _) ?_⟩
        refine R1.objW z o1 hlo k3 a2 (.inl ⟨_,_,_,a1⟩) ⟨l,C,dx,mR f (.int (n0+k)) hs,xs,us,aE,a2,k3,k4,?_,by rw [aG nla];exact b1,b2,k8,k9,k10.mono e1.i,(k11.mono e1.i).put n (.int _)⟩
        rw [fO,if_neg (Ne.symm n)]
        exact k5
       ·rw [if_neg w2] at h3;exact h3.elim
      | _=>exact h1.elim
     | _=>exact h2.elim
   ·rw [if_neg w] at h2;exact h2.elim
  | _=>exact h.elim
end
end L3
namespace L3
open PySem PySem.Spec PyProof.Rows L2 PySem.W
unseal PEd PEf PTd PWd PAd PSd bX POd PGd dH PId PSx eY PTs PCd PCf
section
variable {X:Cx} {G:Gx} {e:Expr} {es:List Expr} {F:Mv} {A:Rho->Res (List D×Rho)} {f:Ev}
end
section
variable {X:Cx} {G:Gx} {a b:Expr} {pos:Pos} {F1 F2:Mv}
end
section
variable {X:Cx} {G:Gx} {e:Expr} {es:List Expr} {pos p:Pos} {A:Rho->Res (List D×Rho)} {x:Str} {id:String}
end
section
variable {X:Cx} {G:Gx} {o:Expr} {es:List Expr} {pos p:Pos} {i k np:Nat} {c lf x:Str} {fs:Fv} {kX:gH}
end
section
variable {P:Program} {w:World} {K:PySem.W.Frag} {mg:Str->Option Value} {base:Heap} {N ps:List Str} {x q c lf:Str} {st:Stmt} {f C:Addr} {fd:FuncData} {k np:Nat} {b:Sv}
theorem zII {nl:Nat}:∀ a fs ds args,fnX c lf np nl b a fs ds args≠.no->args.length=np:=fun a fs ds args h=>by
 unfold fnX at h
 split at h
 ·assumption
 ·exact absurd rfl h
theorem tN (F:FnM K x q st ps f fd) (S:FnScope N ps (aF st)) (hp:ps.length=np+1) (hN:np < N.length) (hC:mg c=some (.ref C)) (cl:Cls K C) (mt:Meth K C x f)
  (h:∀ (cdv:Value) (A:Around) (outer:List Env) (s:Shared) (H:Hp) (E:XK) (G:Gx),Good (BX P w K mg base N q st f cdv A outer s H E) G k->rW (BX P w K mg base N q st f cdv A outer s H E) G->bX (BX P w K mg base N q st f cdv A outer s H E) G (cD st) b):
  CanX P w K mg base (k+1) c lf x np (fnX c lf np N.length b):=⟨⟨f,fd,C,ps,zMa F S hp hN h,F.bd,hC,cl,mt⟩,zII⟩
theorem CanX.mono {j:Nat} {m:Str} {kX:gH} (h:CanX P w K mg base j c lf m np kX) (l:j<=k):CanX P w K mg base k c lf m np kX:=by
 obtain ⟨⟨f,fd,C,ps,F,r⟩,ln⟩:=h
 exact ⟨⟨f,fd,C,ps,F.mono l,r⟩,ln⟩
end
end L3
namespace L3
open PySem PySem.Spec PyProof.Rows L2 PySem.W
unseal PEd PEf PTd PWd PAd PSd bX POd PGd dH PId PSx eY PTs PCd PCf
section
variable {X:Cx} {G:Gx} {f g h:Ev} {o e j:Expr} {p2 p3:Pos}
def rSw:V->List V->Hp->VK->Prop:=fun x vs H Q=>∃ z y i,x=.str z/\vs=[.str y,.int i]/\Q (.bl (Txt.startswith3 z y i)) H
theorem zKO:MtR X "str.startswith" rSw:=by
 intro pins s σ H x vs v us Q I rx rv h
 obtain ⟨z,y,i,rfl,rfl,q⟩:=h
 obtain ⟨t,rfl⟩:=rx
 cases rv with
 | cons r1 rv=>
  cases rv with
  | cons r2 rv=>
   cases rv
   obtain ⟨t1,rfl⟩:=r1
   obtain ⟨t2,rfl⟩:=r2
   exact SC.startswith3 ⟨.bl _,H,I,rfl,q⟩
theorem zKg (ho:PEd X G o f) (he:PEd X G e g) (hj:PEd X G j h)
  (hbase:attributeBase o "startswith" X.env (eval o X.env)=eval o X.env:=by rfl)
  (hfew:((backTo p3 (starEach [e,j] X.env)).all (fun x=>!x.1) && (backToKw p3 (keywordEach [] X.env)).all (fun x=>x.1.isSome)
   && decide ([e,j].length+([]:List Keyword).length+(if ([]:List Keyword).isEmpty then 0 else 1) < 30))=true:=by rfl)
  (hline:(p2.endLine==p3.line)=true:=by rfl) (hs:starEach [e,j] X.env=(false,eval e X.env)::starEach [j] X.env:=by rfl) (hs2:starEach [j] X.env=(false,eval j X.env)::starEach [] X.env:=by rfl) (hpl:(backTo p3 (starEach [j] X.env)).any (·.1)=false:=by rfl):
  PEd X G (.Call (.Attribute o "startswith" p2) [e,j] [] p3) (eSw f g h):=
 PE.wk (wB F.plainAttrs_str F.slot_str_startswith F.type_str_startswith zKO ho (cT he (cT hj gK hs2) hs) hbase hfew hline hs hpl) fun σ H Q q=>by
  obtain ⟨ρ,Hi,R,ou⟩:=q
  refine lZ R ou fun v d Hi1 H1 e1 R1 r1 o1=>?_
  cases d with
  | str z=>
   have r1':=r1.strI
   subst r1'
   refine ⟨rfl,lZ R1 o1 fun v2 d2 Hi2 H2 e2 R2 r2 o2=>lZ R2 o2 fun v3 d3 Hi3 H3 e3 R3 r3 o3=>?_⟩
   cases d2 with
   | str y=>
    cases d3 with
    | int i=>
     have a1:=r2.strI
     have a2:=r3.intI
     subst a1 a2
     exact ⟨z,y,i,rfl,rfl,Out.here (a:=D.bl (Txt.startswith3 z y i)) o3 R3.s _ (.bl _)⟩
    | _=>exact o3.elim
   | _=>exact o3.elim
  | _=>exact o1.elim
end
section
variable {X:Cx} {G:Gx} {fb:Sv} {body suite:List Stmt} {t:Option Expr} {n:Option Str} {hpos pos:Pos}
theorem zIU (hb:bX X.nox (G0 G) body fb):PSd X G (.Try body [.ExceptHandler t n suite hpos] [] [] pos) (zDQ fb):=by
 intro pins s σ H E I q
 obtain ⟨ρ,Hi,R,h⟩:=q
 refine wpAny_Try_except ?_
 have hf:Fin X.nox (G0 G) Hi E (fb ρ):=by
  have h':Fin X G Hi E (noErr (fb ρ)):=h
  cases z:fb ρ with
  | no=>rw [z] at h';exact h'
  | err c=>rw [z] at h';exact h'.elim
  | ok fl=>
   rw [z] at h'
   cases fl with
   | ret r=>cases r<;>exact h'
   | nx ρ'=>exact h'
   | brk ρ'=>exact h'
   | ctn ρ'=>exact h'
 have hE:=hb pins s σ H E (I.wish _) ⟨ρ,Hi,R,hf⟩
 refine wpAny_mono hE (fun f s1 q=>?_) fun _ _ z=>False.elim z
 have q':=SP.unwish q
 cases f with
 | next=>exact wpAny_execs_nil q'
 | ret v=>exact q'
 | brk=>exact q'
 | cont=>exact q'
end
theorem Flds.toX {K:PySem.W.Frag} {Hi:Hp} {lf:Str} {v:V}:∀ {hs:List (Str×V)} {fs:List (Str×D)},Flds K Hi hs fs->fs.lookup lf=none->FldsX K Hi lf (mR lf v hs) (fs++[(lf,.non)])
 | _,_,.nil,_=>.own rfl .nil
 | _,_,.cons (f:=g) h r,e=>by
  rw [List.lookup_cons] at e
  by_cases z:lf==g
  ·rw [z] at e;cases e
  ·rw [Bool.eq_false_iff.mpr z] at e
   have n:¬ g=lf:=fun w=>z (by rw [w];exact beq_self_eq_true lf)
   show FldsX K Hi lf (if g=lf then _ else _) _
   rw [if_neg n]
   exact .cons n h (Flds.toX r e)
def tLN (X:Cx) (G:Gx) (g:Str):TS:=fun E σ H=>tF X G (pS aNil) σ H fun y H1=>∃ a C dx fs,σ[0]?=some (some (.ref a))/\H1 a=some (.ins C dx fs)/\Cls X.K C/\dW X.K C g/\fs.length < 1000/\E.nx σ (upd H1 a (.ins C dx (mR g y fs)))
def wF (X:Cx) (G:Gx) (lf:Str):List (Str×Ev)->TS
 | []=>tLN X G lf
 | (g,f)::r=>tLF X G g f (wF X G lf r)
section
variable {X:Cx} {G:Gx} {rest:List Stmt} {u:TS} {f:Ev}
theorem zHr {o value:Expr} {g:Str} {pos pos':Pos} (ho:PE X o (qJ 0)) (hv:PEf X G value (pS aNil)) (hs:swapsWith value (some (.Attribute o g pos')) pos.line X.env=pure false:=by rfl):PSs X [.Assign [.Attribute o g pos'] value pos] (wF X G g []):=PSs.wk (vZ (zEU ho hv hs)) fun E σ H q=>by
 obtain ⟨ρ,Hi,R,ou⟩:=q
 refine ⟨ρ,Hi,R,ou.imp fun d Hi' H' e h v r=>?_⟩
 obtain ⟨a,C,dx,fs,h1,h2,h3,h4,h5,h6⟩:=h v r
 exact ⟨.ref a,h1,a,C,dx,fs,rfl,h2,h3,h4,h5,h6⟩
theorem zFa {o value:Expr} {g lf:Str} {r:List (Str×Ev)} {pos pos':Pos} (ho:PE X o (qJ 0)) (hv:PEd X G value f) (hr:PSs X rest (wF X G lf r)) (hs:swapsWith value (some (.Attribute o g pos')) pos.line X.env=pure false:=by rfl):PSs X (.Assign [.Attribute o g pos'] value pos::rest) (wF X G lf ((g,f)::r)):=zIT ho hv hr hs
end
def zKS (K:PySem.W.Frag) (mg:Str->Option Value) (c lf:Str) (np:Nat) (kI:List D->Res (List (Str×D))):Sp:=fun vs H Q E=>vs.length=np+1/\∃ Bi us ds a C dx,vs=.ref a::us/\TB K mg Bi (iZ H a)/\Same Bi H/\IsDs K Bi us ds/\H a=some (.ins C dx [])/\Bi a=none/\mg c=some (.ref C)/\match kI ds with
 | .ok fs=>∀ Hi' H' hs l,Ext Bi (iZ H a) Hi' H'->H' a=some (.ins C dx hs)->Hi' a=none->hs.lookup lf=some (.ref l)->H' l=some (.lst [])->Hi' l=none->H l=none->FldsX K Hi' lf hs fs->Q .non H'
 | .err cc=>∀ Cc,mg cc=some Cc->∀ Hi' H',Ext Bi (iZ H a) Hi' H'->E Cc none H'
 | .no=>False
section
variable {P:Program} {w:World} {K:PySem.W.Frag} {mg:Str->Option Value} {base:Heap} {N ps:List Str} {x q c lf:Str} {st:Stmt} {f C:Addr} {fd:FuncData} {k np:Nat} {e0:Option Ev} {fs:List (Str×Ev)}
theorem zBq {X:Cx} {G:Gx} {a dx:Addr} {σ:St} {ρ:Rho} {E:Ends} (hG:G.B a=none) (cl:Cls X.K C) (h0:σ[0]?=some (some (.ref a))) (pl:ρ.all zIi=true) (nlf:dW X.K C lf):∀ (fs:List (Str×Ev)) (l dn:List (Str×D)) (Hi H:Hp) (hs:List (Str×V)),(∀ f∈fs.map (·.1),dW X.K C f)->yK fs ρ=.ok l->dS X G Hi H σ ρ->H a=some (.ins C dx hs)->Hi a=none->Flds X.K Hi hs dn->dn.length+fs.length<=900->((dn++l++[(lf,D.non)]).map (·.1)).Nodup->
  (∀ Hi' H' hs' ll,Ext G.Bi G.B Hi' H'->H' a=some (.ins C dx hs')->Hi' a=none->hs'.lookup lf=some (.ref ll)->H' ll=some (.lst [])->Hi' ll=none->H ll=none->FldsX X.K Hi' lf hs' (dn++l++[(lf,.non)])->E.nx σ H')->wF X G lf fs E σ H
 | [],l,dn,Hi,H,hs,_,hl,R,ha,hi,hf,hn,nd,k=>by
  cases hl
  rw [List.append_nil] at k nd
  refine ⟨ρ,Hi,R,?_⟩
  show Out G Hi H (.ok []) _
  intro Hi1 H1 x1 ll hn1
  obtain ⟨n1,n2,xs,n3,n4⟩:=hn1
  cases n4
  obtain ⟨a1,b1⟩:=x1.out ha hi
  have nla:ll≠a:=fun z=>by rw [z,ha] at n1;cases n1
  have nl:dn.lookup lf=none:=by
   cases z:dn.lookup lf with
   | none=>rfl
   | some d'=>
    exfalso
    have m:=lL z
    rw [List.map_append,List.map_cons] at nd
    exact (List.nodup_append.mp nd).2.2 lf (List.mem_map.mpr ⟨_,m,rfl⟩) lf (List.mem_cons_self ..) rfl
  have hlen:=hf.len
  rw [List.length_nil] at hn
  refine ⟨a,C,dx,hs,h0,a1,cl,nlf,by omega,?_⟩
  refine k Hi1 _ (mR lf (.ref ll) hs) ll ((R.grow x1).putI pl hG a1 b1).ext aE b1 (by rw [fO,if_pos rfl]) (by rw [aG nla];exact n3) n2 n1 ((hf.mono x1.i).toX nl)
 | (g,e)::r,l,dn,Hi,H,hs,na,hl,R,ha,hi,hf,hn,nd,k=>by
  obtain ⟨d,l',e1,e2,rfl⟩:=tZ hl
  refine ⟨ρ,Hi,R,?_⟩
  rw [e1]
  intro Hi1 H1 x1 v rv
  obtain ⟨a1,b1⟩:=x1.out ha hi
  have hf1:=hf.mono x1.i
  have nl:dn.lookup g=none:=by
   cases z:dn.lookup g with
   | none=>rfl
   | some d'=>
    exfalso
    have m:=lL z
    rw [List.append_assoc,List.map_append,List.cons_append,List.map_cons] at nd
    exact (List.nodup_append.mp nd).2.2 g (List.mem_map.mpr ⟨_,m,rfl⟩) g (List.mem_cons_self ..) rfl
  rw [List.length_cons] at hn
  refine ⟨a,C,dx,hs,h0,a1,cl,na g (List.mem_cons_self ..),by rw [hf.len];omega,?_⟩
  refine zBq hG cl h0 pl nlf r l' (dn++[(g,d)]) Hi1 _ (mR g v hs) (fun f hf=>na f (List.mem_cons_of_mem _ hf)) e2 ((R.grow x1).putI pl hG a1 b1) aE b1 (hf1.snoc rv nl) (by rw [List.length_append];show dn.length+1+r.length<=900;omega) (by rw [List.append_assoc dn [(g,d)] l'];exact nd) fun Hi' H' hs' ll y1 y2 y3 y4 y5 y6 y7 y8=>k Hi' H' hs' ll y1 y2 y3 y4 y5 y6 ?_ (by rw [List.append_assoc dn [(g,d)] l'] at y8;exact y8)
  by_cases z:ll=a
  ·rw [z,aE] at y7;cases y7
  ·rw [aG z] at y7;exact x1.h.none y7
def zLY (X:Cx) (G:Gx):Option Ev->TS->TS
 | some e,u=>tLD X G e u
 | none,u=>u
theorem zEk (F:FnM K x q st ps f fd) (S:FnScope N ps (aF st)) (hp:ps.length=np+1) (hN:np < N.length) (hf:fs.length<=900/\(fs.map (·.1)++[lf]).Nodup) (hC:mg c=some (.ref C)) (cl:Cls K C) (na:∀ f∈fs.map (·.1)++[lf],dW K C f)
  (h:∀ (cdv:Value) (A:Around) (outer:List Env) (s:Shared) (H:Hp) (E:XK) (G:Gx),Good (BX P w K mg base N q st f cdv A outer s H E) G k->PSs (BX P w K mg base N q st f cdv A outer s H E) (cD st) (zLY (BX P w K mg base N q st f cdv A outer s H E) G e0 (wF (BX P w K mg base N q st f cdv A outer s H E) G lf fs))):
  FnOk P w K mg base (CX1 P w) (k+1) f fd ps (zKS K mg c lf np (xG np N.length e0 fs lf)):=by
 obtain ⟨oc,od,kV,doc,pm,an,cdv,ct,osl,rfl,lk,hcd⟩:=F.fn.ex
 refine zDu lk hcd S (fun vs H Q E h=>by rw [hp];exact h.1) fun A outer s H vs Q E hr hsp=>?_
 obtain ⟨hl,Bi,us,ds,a,C',dx,rfl,tb,sm,hd,ha,hi,hC',hq⟩:=hsp
 have eC:C'=C:=by rw [hC] at hC';cases hC';rfl
 subst eC
 have hg:Good (BX P w K mg base N q st f cdv A outer s H E) ⟨iZ H a,Bi,fun c H'=>∀ C,mg c=some C->E C none H'⟩ k:=⟨rfl,hr,zFJ fun c H' q=>by
  obtain ⟨c',h1,h2⟩:=q
  exact h2 c h1,PassesOwn.leaving,tb⟩
 have hlen:ds.length=np:=by rw [<-hd.length];exact Nat.succ.inj hl
 have R0:Rel K mg (iZ H a) Bi Bi H (L2.start N (.ref a::us)) (.un::L3.start (N.length - 1) ds):=zV sm hd (by omega)
 have names:∀ {fs:List (Str×Ev)} {ρ:Rho} {l:List (Str×D)},yK fs ρ=.ok l->l.map (·.1)=fs.map (·.1):=by
  intro fs ρ
  induction fs with
  | nil=>intro l h;cases h;rfl
  | cons g r ih=>
   obtain ⟨g,e⟩:=g
   intro l h
   obtain ⟨d,l',_,e2,rfl⟩:=tZ h
   rw [List.map_cons,List.map_cons,ih e2]
 have back:Ext Bi (iZ H a) Bi H:=⟨Same.refl _,pX H a,sm,fun b e q=>absurd e q⟩
 unfold xG at hq
 rw [if_pos hlen] at hq
 have go:∀ Hi1 H1,Ext Bi H Hi1 H1->(match (yK fs (.un::L3.start (N.length - 1) ds)).bind fun l=>Res.ok (l++[(lf,D.non)]) with
   | .ok fs=>∀ Hi' H' hs l,Ext Bi (iZ H a) Hi' H'->H' a=some (.ins C' dx hs)->Hi' a=none->hs.lookup lf=some (.ref l)->H' l=some (.lst [])->Hi' l=none->H l=none->FldsX K Hi' lf hs fs->Q .non H'
   | .err cc=>∀ Cc,mg cc=some Cc->∀ Hi' H',Ext Bi (iZ H a) Hi' H'->E Cc none H'
   | .no=>False)->wF (BX P w K mg base N q st f cdv A outer s H E) ⟨iZ H a,Bi,fun c H'=>∀ C,mg c=some C->E C none H'⟩ lf fs { nx:=fun _ H'=>Q .non H',rt:=Q } (L2.start N (.ref a::us)) H1:=fun Hi1 H1 x1 hq=>by
  obtain ⟨a1,b1⟩:=x1.out ha hi
  cases z1:yK fs (.un::L3.start (N.length - 1) ds) with
  | no=>rw [z1] at hq;exact hq.elim
  | err cc=>exact absurd z1 zAy
  | ok l=>
   rw [z1] at hq
   exact zBq (X:=BX P w K mg base N q st f cdv A outer s H E) (G:=⟨iZ H a,Bi,fun c H'=>∀ C,mg c=some C->E C none H'⟩) hZ cl rfl (show (Sl.un::L3.start (N.length - 1) ds).all zIi=true by rw [List.all_cons,rD];rfl) (na lf (List.mem_append_right _ (List.mem_singleton.mpr rfl))) fs l [] Hi1 H1 [] (fun f hf=>na f (List.mem_append_left _ hf)) z1 (R0.grow x1) a1 b1 .nil (by rw [List.length_nil];omega) (by rw [List.nil_append,List.map_append,names z1];exact hf.2) fun Hi' H' hs' ll y1 y2 y3 y4 y5 y6 y7 y8=>hq Hi' H' hs' ll y1 y2 y3 y4 y5 y6 (x1.h.none y7) y8
 cases e0 with
 | none=>exact ⟨_,h cdv A outer s H E _ hg,go Bi H (Ext.refl sm) hq⟩
 | some e=>
  refine ⟨_,h cdv A outer s H E _ hg,.un::L3.start (N.length - 1) ds,Bi,R0,?_⟩
  have hi0:zLa (some e) (.un::L3.start (N.length - 1) ds)=e (.un::L3.start (N.length - 1) ds):=rfl
  rw [hi0] at hq
  cases z0:e (.un::L3.start (N.length - 1) ds) with
  | no=>rw [z0] at hq;exact hq.elim
  | err cc=>rw [z0] at hq;exact fun Hi' H' e C hC=>hq C hC Hi' H' (back.trans e)
  | ok d0=>
   rw [z0] at hq
   intro Hi1 H1 x1 v rv
   exact go Hi1 H1 x1 hq
end
structure CanIM (P:Program) (w:World) (K:PySem.W.Frag) (mg:Str->Option Value) (base:Heap) (k:Nat) (c lf:Str) (np:Nat) (kI:List D->Res (List (Str×D))):Prop where
 ex:∃ f fd C ps,FnOk P w K mg base (CX1 P w) k f fd ps (zKS K mg c lf np kI)/\lV K fd ps []/\mg c=some (.ref C)/\Mk K C f/\ps.length=np+1
 ln:∀ ds,kI ds≠.no->ds.length=np
theorem CanIM.mono {P:Program} {w:World} {K:PySem.W.Frag} {mg:Str->Option Value} {base:Heap} {j k np:Nat} {c lf:Str} {kI:List D->Res (List (Str×D))} (h:CanIM P w K mg base j c lf np kI) (l:j<=k):CanIM P w K mg base k c lf np kI:=by
 obtain ⟨⟨f,fd,C,ps,F,r⟩,ln⟩:=h
 exact ⟨⟨f,fd,C,ps,F.mono l,r⟩,ln⟩
section
variable {X:Cx} {G:Gx} {e:Expr} {es:List Expr} {pos p:Pos} {fs:Fv} {k i np:Nat} {x lf:Str} {kI:List D->Res (List (Str×D))}
theorem zFD {pins:List (Addr×Obj)} {s:Shared} {σ:St} {H:Hp} {ρ:Rho} {Hi:Hp} {Et:Value->Shared->Prop} {Q:VK} {ds:List D} (tb:TB X.K X.mg G.Bi G.B) (c:CanIM X.prog X.w X.K X.mg X.base k x lf np kI) (hr:Room (k+1) X.A) (hg:Gl X x) (ha:PAd X.nox (G0 G) (e::es) fs)
  (I:Inv X pins σ H s) (R:dS X G Hi H σ ρ) (hds:fs ρ=.ok ds) (hm:kI ds≠.no) (hq:∀ l a C dx hs ll Hi' H',kI ds=.ok l->Ext Hi H Hi' H'->H' a=some (.ins C dx hs)->Hi' a=none->H a=none->X.mg x=some (.ref C)->hs.lookup lf=some (.ref ll)->H' ll=some (.lst [])->Hi' ll=none->H ll=none->FldsX X.K Hi' lf hs l->Q (.ref a) H') (he:∀ c ev s',kI ds=.err c->zKh X pins σ Hi H c ev s'->Et ev s')
  (hdb:(x==("__debug__" : Str))=false) (hst:starEach (e::es) X.env=(false,eval e X.env)::starEach es X.env) (hpl:(backTo pos (starEach es X.env)).any (·.1)=false):
  wpAny (model X.prog X.w) X.A (eval (.Call (.Name x p) (e::es) [] pos) X.env) (EP X pins σ Q) Et s:=by
 obtain ⟨⟨f,fd,C,ps,F,b,hC,M,hp⟩,ln⟩:=c
 refine wpAny_Call_Name_kw (sE I hg hC ?_ hdb)
 have hA:=ha pos pins s σ H (fun vs H1=>∃ Hi1,Ext Hi H Hi1 H1/\IsDs X.K Hi1 vs ds) (I.wish _) ⟨ρ,Hi,R,by rw [hds];exact fun Hi1 H1 e1 vs r=>⟨Hi1,e1,r⟩⟩
 refine PySem.W.callWith_K (h₀:=X.base) I.ok.mod.kin M.kp (wpAny_mono hA (fun us s1 q=>?_) fun _ _ z=>False.elim z) hst hpl
 obtain ⟨vs,H1,I1',r,Hi1,e1,hd⟩:=q
 have I1:Inv X pins σ H1 s1:=I1'.unwish
 refine ⟨I1.kIn,?_⟩
 have I2:=Inv.made (C:=C) I1
 have fx:H1 (s1.heap.objs.size+1)=none:=I1.hok.fresh (Nat.le_succ _)
 have fd':H1 s1.heap.objs.size=none:=I1.hok.fresh (Nat.le_refl _)
 have ne:s1.heap.objs.size≠s1.heap.objs.size+1:=Nat.ne_of_lt (Nat.lt_succ_self _)
 have r2:dM (V.ref (s1.heap.objs.size+1)::vs) (Value.ref (s1.heap.objs.size+1)::us):=.cons rfl r
 have hl:(Value.ref (s1.heap.objs.size+1)::us).length=ps.length:=by
  rw [hp,List.length_cons,<-r.length,hd.length,ln ds hm]
 have x2:Ext Hi1 H1 Hi1 (upd H1 s1.heap.objs.size (.own (s1.heap.objs.size+1))):=Ext.newF e1.s fd'
 have fx2:upd H1 s1.heap.objs.size (.own (s1.heap.objs.size+1)) (s1.heap.objs.size+1)=none:=by rw [aG (Ne.symm ne)];exact fx
 have hd2:iZ (upd (upd H1 s1.heap.objs.size (.own (s1.heap.objs.size+1))) (s1.heap.objs.size+1) (.ins C s1.heap.objs.size [])) (s1.heap.objs.size+1)=upd H1 s1.heap.objs.size (.own (s1.heap.objs.size+1)):=zDR fx2
 have x3:Ext Hi1 (upd H1 s1.heap.objs.size (.own (s1.heap.objs.size+1))) Hi1 (upd (upd H1 s1.heap.objs.size (.own (s1.heap.objs.size+1))) (s1.heap.objs.size+1) (.ins C s1.heap.objs.size [])):=Ext.newF x2.s fx2
 have hi1:Hi1 (s1.heap.objs.size+1)=none:=e1.s.none fx
 have tb1:TB X.K X.mg Hi1 (upd H1 s1.heap.objs.size (.own (s1.heap.objs.size+1))):=tb.ext ((R.ext.trans e1).trans x2)
 refine wpAny_call (zDM (f:=f) I1.kIn M.makes M.init (beq_iff_eq.mp M.fn) (codeAny_mono (F.run _ X.stack _ _ ⟨Value.ref (s1.heap.objs.size+1)::us,[]⟩ (Value.ref (s1.heap.objs.size+1)::us) (V.ref (s1.heap.objs.size+1)::vs) (fun v H2=>v=.non/\∀ _:True,∃ l hs ll Hi',kI ds=.ok l/\Ext Hi1 (upd H1 s1.heap.objs.size (.own (s1.heap.objs.size+1))) Hi' H2/\H2 (s1.heap.objs.size+1)=some (.ins C s1.heap.objs.size hs)/\Hi' (s1.heap.objs.size+1)=none/\hs.lookup lf=some (.ref ll)/\H2 ll=some (.lst [])/\Hi' ll=none/\(upd (upd H1 s1.heap.objs.size (.own (s1.heap.objs.size+1))) (s1.heap.objs.size+1) (.ins C s1.heap.objs.size [])) ll=none/\FldsX X.K Hi' lf hs l) (fun cls _ H2=>∃ c Hi2,X.mg c=some cls/\kI ds=.err c/\Ext Hi1 (upd H1 s1.heap.objs.size (.own (s1.heap.objs.size+1))) Hi2 H2) (hr.make C us [])
  (I2.env0.make C us []) (by have:=b _ (Value.ref (s1.heap.objs.size+1)::us) I2.kIn (by rw [List.append_nil];exact hl);rwa [List.append_nil] at this) r2 ?_) fun res s' hq'=>?_))
 ·refine ⟨by rw [List.length_cons,hd.length,ln ds hm],Hi1,vs,ds,(s1.heap.objs.size+1),C,s1.heap.objs.size,rfl,by rw [hd2];exact tb1,x3.s,hd,aE,hi1,hC,?_⟩
  rw [hd2]
  cases z:kI ds with
  | no=>exact absurd z hm
  | err c'=>exact fun Cc hCc Hi2 H2 y=>⟨c',Hi2,hCc,rfl,y⟩
  | ok l=>exact fun Hi2 H2 hs ll y1 y2 y3 y4 y5 y6 y7 y8=>⟨rfl,fun _=>⟨l,hs,ll,Hi2,rfl,y1,y2,y3,y4,y5,y6,y7,y8⟩⟩
 ·cases res with
  | error ev=>
   obtain ⟨ea,cls,H',rfl,Fl,c',Hi2,hc,hmc,y⟩:=hq'
   exact he c' _ s' hmc ⟨_,_,ea,cls,Hi2,H',rfl,I2,hc,Fl,(e1.trans x2).trans y,((e1.trans x2).trans x3).h⟩
  | ok fl=>
   cases fl with
   | ret u=>
    obtain ⟨v,H',I3,rv,ev,q3⟩:=I2.after hq'
    subst ev
    obtain ⟨l,hs,ll,Hi',z,y1,y2,y3,y4,y5,y6,y7,y8⟩:=q3 trivial
    have hll:H ll=none:=by
     by_cases w1:ll=s1.heap.objs.size+1
     ·rw [w1,aE] at y7;cases y7
     ·rw [aG w1] at y7
      by_cases w2:ll=s1.heap.objs.size
      ·rw [w2,aE] at y7;cases y7
      ·rw [aG w2] at y7;exact e1.h.none y7
    exact ⟨rv,⟨V.ref (s1.heap.objs.size+1),H',I3,rfl,hq l (s1.heap.objs.size+1) C s1.heap.objs.size hs ll _ H' z ((e1.trans x2).trans y1) y2 y3 (e1.h.none fx) hC y4 y5 y6 hll y8⟩⟩
   | next=>exact False.elim hq'
   | brk=>exact False.elim hq'
   | cont=>exact False.elim hq'
theorem zFp {y:Str} {py pos2:Pos} (hN:X.N.Nodup) (hi:X.N[i]?=some y) (hy:Loc X.env.scope y) (W:Good X G (k+1)) (c:CanIM X.prog X.w X.K X.mg X.base k x lf np kI) (hg:Gl X x) (ha:PAd X.nox (G0 G) (e::es) fs)
  (hdb:(x==("__debug__" : Str))=false:=by decide) (hst:starEach (e::es) X.env=(false,eval e X.env)::starEach es X.env:=by rfl) (hpl:(backTo pos (starEach es X.env)).any (·.1)=false:=by rfl)
  (hs2:swapsWith (.Call (.Name x p) (e::es) [] pos) (some (.Name y py)) pos2.line X.env=pure false:=by rfl) (hfn:X.fn y=true∨X.env.scope.names.lookup y=some .local:=by first | exact .inl rfl | exact .inr rfl | assumption):
  PSd X G (.Assign [.Name y py] (.Call (.Name x p) (e::es) [] pos) pos2) (zCk i x lf kI fs):=by
 intro pins s σ H E I q
 obtain ⟨ρ,Hi,R,h⟩:=q
 unfold zCk at h
 cases ef:fs ρ with
 | no=>rw [ef] at h;exact h.elim
 | err cc=>rw [ef] at h;exact h.elim
 | ok ds=>
  rw [ef] at h
  have h':Fin X G Hi E ((noErr (kI ds)).bind fun l=>.ok (.nx (ρ.set i (.obj none x lf l [])))):=h
  have hno:kI ds≠.no:=fun z=>by rw [z] at h';exact h'
  refine wpAny_Assign_Name (wpAny_mono (zFD (Et:=X.xe) (Q:=fun v H'=>∃ l a C dx hs ll Hi',v=.ref a/\kI ds=.ok l/\Ext Hi H Hi' H'/\H' a=some (.ins C dx hs)/\Hi' a=none/\H a=none/\X.mg x=some (.ref C)/\hs.lookup lf=some (.ref ll)/\H' ll=some (.lst [])/\Hi' ll=none/\H ll=none/\FldsX X.K Hi' lf hs l) W.tb c W.room hg ha I R ef hno (fun l a C dx hs ll Hi' H' z e1 h1 h2 h3 h4 h5 h6 h7 h8 h9=>⟨l,a,C,dx,hs,ll,Hi',rfl,z,e1,h1,h2,h3,h4,h5,h6,h7,h8,h9⟩) (fun c' ev s' z q=>by rw [z] at h';exact h'.elim) hdb hst hpl) (fun v s1 q=>?_) fun _ _ z=>z) hs2
  obtain ⟨v',H1,I1,r1,l,a,C,dx,hs,ll,Hi',rfl,z,e1,k1,k2,k3,k4,k5,k6,k7,k8,k9⟩:=q
  rw [z] at h'
  refine mY I1 hN hi hy r1 (fun s2 I2=>?_) hfn
  obtain ⟨zz,its,n1,rv,hlen,ee⟩:=I2.lstM k6
  have I3:Inv X pins (σ.set i (some (.ref a))) (upd H1 ll (.ext (pH ll its))) s2:=I2.write (x:=ll) (e:=ll) (o:=.ext (pH ll its)) (h':=s2.heap) (t':=s2.toks) (by rw [k6];trivial) (.inl rfl) (fun b u _ y=>y) ⟨_,ee⟩ (zFw n1 ee)
  have nla:ll≠a:=fun y=>by rw [y,k1] at k6;cases k6
  have x4:Ext Hi H Hi' (upd H1 ll (.ext (pH ll its))):=e1.rewrite k8 k7 ⟨_,k6⟩
  refine ⟨_,_,I3,(show Fin X G Hi E (.ok (.nx (ρ.set i (.obj none x lf l [])))) from h') _ Hi' _ e1.i ((R.grow x4).setS ⟨a,rfl,fun b z=>(by cases z),ll,C,dx,hs,[],its,by rw [aG (Ne.symm nla)];exact k1,k2,R.ext.h.none k3,k4,k5,aE,k7,R.ext.h.none k8,rv,.nil,k9⟩ fun ds z=>by cases z)⟩
end
end L3
namespace L3
open PySem PySem.Spec PyProof.Rows L2 PySem.W
unseal PEd PEf PTd PWd PAd PSd bX POd PGd dH PId PSx eY PTs PCd PCf
theorem vK {f:Str} {v:V}:∀ {hs:List (Str×V)},hs.lookup f=none->(f,v)∉hs
 | (g,u)::hs,e,m=>by
  rw [List.lookup_cons] at e
  by_cases z:f==g
  ·rw [z] at e;cases e
  ·rw [Bool.eq_false_iff.mpr z] at e
   rcases List.mem_cons.mp m with w | w
   ·cases w;exact z (beq_self_eq_true f)
   ·exact vK e w
theorem FldsX.mem1 {K:PySem.W.Frag} {Hi:Hp} {lf:Str} {u:V}:∀ {hs:List (Str×V)} {fs:List (Str×D)},FldsX K Hi lf hs fs->hs.lookup lf=some u->∀ v,(lf,v)∈hs->v=u
 | _,_,.nil,e=>by cases e
 | _,_,.own (v:=x) n r,e=>fun v m=>by
  rw [List.lookup_cons,beq_self_eq_true] at e
  cases e
  rcases List.mem_cons.mp m with w | w
  ·cases w;rfl
  ·exact absurd w (vK n)
 | _,_,.cons (f:=g) n h r,e=>fun v m=>by
  rw [List.lookup_cons,beq_false_of_ne (Ne.symm n)] at e
  rcases List.mem_cons.mp m with w | w
  ·cases w;exact absurd rfl n
  ·exact FldsX.mem1 r e v w
section
variable {K:PySem.W.Frag} {mg:Str->Option Value} {B Bi Hi H Hi' H':Hp} {σ:St} {ρ:Rho}
theorem Rel.holdB {b:Addr} {o:HO} (R:Rel K mg B Bi Hi H σ ρ) (h:H b=some o) (hi:Hi b=none) (hB:B b=none) (nd:∀ (j:Nat) (es:List D),ρ[j]?=some (Sl.own es)->σ[j]?≠some (some (V.ref b))) (ne:∀ C,o≠.ext (zDy b C)) (nn:∀ (j:Nat) (s:Sl),ρ[j]?=some s->nob s=true):Rel K mg B Bi (upd Hi b o) H σ ρ:=by
 have sm:Same Hi (upd Hi b o):=aS hi o
 refine ⟨R.len,⟨R.ext.i.trans sm,R.ext.h,fun c u z=>?_,fun c z w=>?_⟩,fun j s z=>?_,R.dist⟩
 ·by_cases y:c=b
  ·subst y;rw [aE] at z;cases z;exact h
  ·rw [aG y] at z;exact R.s _ _ z
 ·by_cases y:c=b
  ·rw [y];exact hB
  ·rw [aG y] at w;exact R.ext.n c z w
 ·have S:=R.slot j s z
  have nj:=nn j s z
  cases s with
  | un=>trivial
  | val d=>obtain ⟨v,p,r⟩:=S;exact ⟨v,p,r.mono sm⟩
  | own ds1=>
   obtain ⟨b1,zs,p,g1,g2,g3,g4⟩:=S
   have hb1:b1≠b:=fun c=>nd j ds1 z (by rw [p,c])
   exact ⟨b1,zs,p,g1,by rw [aG hb1];exact g2,g3,g4.mono sm⟩
  | exc c1=>
   obtain ⟨b1,C,p,g1,g2,g3,g4⟩:=S
   have hb1:b1≠b:=fun c=>by
    subst c
    rw [h] at g1;cases g1;exact ne C rfl
   exact ⟨b1,C,p,g1,by rw [aG hb1];exact g2,g3,g4⟩
  | tab T=>obtain ⟨b1,p,g1⟩:=S;exact ⟨b1,p,sm _ _ g1⟩
  | ins c1 fs1=>obtain ⟨b1,C,dx,hs,p,g1,g2,g3⟩:=S;exact ⟨b1,C,dx,hs,p,sm _ _ g1,g2,g3.mono sm⟩
  | obj _ _ _ _ _=>cases nj
theorem zEt {α:Type} {l:List α} {i:Nat} {a:α} (h:l[i]?=some a):l.set i a=l:=by
 apply List.ext_getElem?
 intro j
 by_cases z:i=j
 ·subst z
  rw [List.getElem?_set_self (List.getElem?_eq_some_iff.mp h).1,h]
 ·rw [List.getElem?_set_ne z]
theorem zEB {i:Nat} (hl:kW i ρ=true):∀ (j:Nat) (s:Sl),(ρ.set i Sl.un)[j]?=some s->nob s=true:=fun j s z=>by
 by_cases w:i=j
 ·subst w
  by_cases hlen:i < ρ.length
  ·rw [List.getElem?_set_self hlen] at z;cases z;rfl
  ·rw [List.getElem?_eq_none (by rw [List.length_set];omega)] at z;cases z
 ·rw [List.getElem?_set_ne w] at z
  exact lP hl (Ne.symm w) z
theorem Rel.frzX {i:Nat} {a l C dx:Addr} {hs:List (Str×V)} {c lf:Str} {fs:List (Str×D)} {ds:List D} {xs:List V} {us:List Value} (R:Rel K mg B Bi Hi H σ ρ) (hl:kW i ρ=true) (p:σ[i]?=some (some (.ref a)))
  (k1:H a=some (.ins C dx hs)) (k2:Hi a=none) (k3:B a=none) (k4:mg c=some (.ref C)) (k5:hs.lookup lf=some (.ref l)) (k6:H l=some (.ext (pH l us))) (k7:Hi l=none) (k8:B l=none) (k10:IsDs K Hi xs ds) (k11:FldsX K Hi lf hs fs):
  Rel K mg B Bi (upd (upd Hi a (.ins C dx hs)) l (.lst xs)) (upd H l (.lst xs)) σ (ρ.set i (.ins c (mrg lf ds fs))):=by
 have nla:l≠a:=fun y=>by rw [y,k1] at k6;cases k6
 have R1:Rel K mg B Bi Hi (upd H l (.lst xs)) σ (ρ.set i .un):=R.hideX hl k6 k7 k8
 have ow:∀ {b:Addr} {o:HO},H b=some o->(∀ ys,o≠.lst ys)->∀ (j:Nat) (es:List D),(ρ.set i Sl.un)[j]?=some (Sl.own es)->σ[j]?≠some (some (V.ref b)):=fun {b o} hb ho j es q y=>by
  by_cases w:i=j
  ·subst w
   by_cases hlen:i < ρ.length
   ·rw [List.getElem?_set_self hlen] at q;cases q
   ·rw [List.getElem?_eq_none (by rw [List.length_set];omega)] at q;cases q
  ·rw [List.getElem?_set_ne w] at q
   obtain ⟨b1,zs,p1,g1,_⟩:=R.slot j _ q
   rw [y] at p1;cases p1
   rw [hb] at g1;cases g1
   exact ho _ rfl
 have R2:=R1.holdB (b:=a) (o:=.ins C dx hs) (by rw [aG (Ne.symm nla)];exact k1) k2 k3 (ow k1 fun _ z=>by cases z) (fun _ z=>by cases z) (zEB hl)
 have R3:=R2.holdB (b:=l) (o:=.lst xs) aE (by rw [aG nla];exact k7) k8 (ow k6 fun _ z=>by cases z) (fun _ z=>by cases z) (zEB hl)
 have sm:Same Hi (upd (upd Hi a (.ins C dx hs)) l (.lst xs)):=(aS k2 _).trans (aS (by rw [aG nla];exact k7) _)
 have R4:=R3.setS (i:=i) (v:=.ref a) (s:=.ins c (mrg lf ds fs)) ⟨a,C,dx,hs,rfl,by rw [aG (Ne.symm nla)];exact aE,k4,FldsX.flds sm (.lst (SqL.of aE) (k10.mono sm)) k11 (k11.mem1 k5)⟩ fun ds z=>by cases z
 rw [zEt p,List.set_set] at R4
 exact R4
theorem Ext.thawX {Hf:Hp} (s:Same Hi Hf) (fl:∀ b,Hi b=none->Hf b≠none->(∃ xs,Hf b=some (.lst xs))∨∃ C dx hs,Hf b=some (.ins C dx hs)) (e:Ext Hf H Hi' H'):
  ∃ Ht,Ext Hi H Ht H'/\(∀ b xs,Rd Hi' b (.tup xs)->Rd Ht b (.tup xs))/\∀ b,Hi b=none->Hf b≠none->Ht b=none:=by
 have dec:∀ b,Decidable (Hi b=none/\Hf b≠none):=fun b=>Classical.propDecidable _
 let Ht:Hp:=fun b=>if Hi b=none/\Hf b≠none then none else Hi' b
 have t1:∀ b,¬ (Hi b=none/\Hf b≠none)->Ht b=Hi' b:=fun b z=>if_neg z
 have t2:∀ b,(Hi b=none/\Hf b≠none)->Ht b=none:=fun b z=>if_pos z
 have tt:Same Ht Hi':=fun b o z=>by
  by_cases w:Hi b=none/\Hf b≠none
  ·rw [t2 b w] at z;cases z
  ·rw [t1 b w] at z;exact z
 refine ⟨Ht,⟨fun b o z=>?_,e.h,tt.trans e.s,fun b z w=>?_⟩,fun b xs r=>?_,fun b z w=>t2 b ⟨z,w⟩⟩
 ·rw [t1 b (fun w=>by rw [z] at w;cases w.1)];exact e.i _ _ (s _ _ z)
 ·by_cases c:Hi b=none/\Hf b≠none
  ·exact absurd (t2 b c) w
  ·rw [t1 b c] at w
   have:Hf b=none:=by
    cases q:Hf b with
    | none=>rfl
    | some u=>exact absurd ⟨z,by rw [q];exact fun c=>by cases c⟩ c
   exact e.n b this w
 ·have nl:¬ (Hi b=none/\Hf b≠none):=fun w=>by
   rcases fl b w.1 w.2 with ⟨ys,g⟩ | ⟨C,dx,hs,g⟩
   ·have g':=e.i _ _ g
    rcases r with r | ⟨o,r⟩<;>(rw [g'] at r;cases r)
   ·have g':=e.i _ _ g
    rcases r with r | ⟨o,r⟩<;>(rw [g'] at r;cases r)
  rcases r with r | ⟨o,r⟩
  ·exact .inl (by rw [t1 b nl];exact r)
  ·exact .inr ⟨o,by rw [t1 b nl];exact r⟩
end
section
variable {X:Cx} {G:Gx} {e:Expr} {ss:List Stmt} {st:Stmt} {f:Ev} {sv:Sv}
theorem zHi (i:Nat) {pins:List (Addr×Obj)} {s:Shared} {σ:St} {H Hi:Hp} {ρ ρ':Rho} (I:Inv X pins σ H s) (R:dS X G Hi H σ ρ) (z:zJJ i ρ ρ[i]?=some ρ'):
  ∃ a l C dx hs xs us ao c lf fs ds,ρ[i]?=some (.obj ao c lf fs ds)/\kW i ρ=true/\σ[i]?=some (some (.ref a))/\(∀ b,ao=some b->a=b)/\H a=some (.ins C dx hs)/\Hi a=none/\G.B a=none/\X.mg c=some (.ref C)/\hs.lookup lf=some (.ref l)/\H l=some (.ext (pH l us))/\Hi l=none/\G.B l=none/\IsDs X.K Hi xs ds/\FldsX X.K Hi lf hs fs/\
   Inv X pins σ (upd H l (.lst xs)) s/\dS X G (upd (upd Hi a (.ins C dx hs)) l (.lst xs)) (upd H l (.lst xs)) σ ρ'/\dS X G Hi (upd H l (.lst xs)) σ (ρ.set i .un):=by
 cases z0:ρ[i]? with
 | none=>rw [z0] at z;cases z
 | some sl=>
  rw [z0] at z
  cases sl with
  | obj ao c lf fs ds=>
   have z':(if kW i ρ=true/\ds.length < 100000 then some (ρ.set i (.ins c (mrg lf ds fs))) else none)=some ρ':=z
   by_cases w:kW i ρ=true/\ds.length < 100000
   ·rw [if_pos w] at z'
    cases z'
    obtain ⟨hlo,hl⟩:=w
    obtain ⟨a,o1,g0,l,C,dx,hs,xs,us,k1,k2,k3,k4,k5,k6,k7,k8,k9,k10,k11⟩:=R.slot i _ z0
    obtain ⟨⟨n0,e0⟩,_,_⟩:=I.hok l _ k6
    refine ⟨a,l,C,dx,hs,xs,us,ao,c,lf,fs,ds,rfl,hlo,o1,g0,k1,k2,k3,k4,k5,k6,k7,k8,k10,k11,?_,R.frzX hlo o1 k1 k2 k3 k4 k5 k6 k7 k8 k10 k11,R.hideX hlo k6 k7 k8⟩
    exact I.write (x:=l) (e:=l) (o:=.lst xs) (h':=s.heap) (t':=s.toks) (by rw [k6];trivial) (.inl rfl) (fun b u _ y=>y) ⟨_,e0⟩ ⟨by rw [k10.length];exact Nat.le_trans (Nat.le_of_lt hl) (by decide),us,n0,k9,e0⟩
   ·rw [if_neg w] at z';cases z'
  | _=>cases z
theorem zHY (i:Nat) (h:PEd X G e f):PE X e (tM X G (zIV i f)):=by
 intro pins s σ H Q I q
 obtain ⟨ρ,Hi,R,ou⟩:=q
 unfold zIV at ou
 cases z:zJJ i ρ ρ[i]? with
 | none=>rw [z] at ou;exact ou.elim
 | some ρ'=>
  rw [z] at ou
  obtain ⟨a,l,C,dx,hs,xs,us,ao,c,lf,fs,ds,z0,hlo,o1,g0,k1,k2,k3,k4,k5,k6,k7,k8,k10,k11,I1,RF,R1⟩:=zHi i I R z
  have nla:l≠a:=fun y=>by rw [y,k1] at k6;cases k6
  have ou1:(match (f ρ').bind fun d=>if noL d=true then Res.ok (d,ρ) else .no with
   | .ok (d,ρ')=>∀ v Hi' H',Same Hi Hi'->dS X G Hi' H' σ ρ'->IsD X.K Hi' v d->Q v H'
   | .err c=>∀ Hi' H',Ext G.Bi G.B Hi' H'->G.E c H'
   | .no=>False):=ou
  clear ou
  refine wpAny_mono (h pins s σ (upd H l (.lst xs)) (fun v H'=>∃ d Hi2,f ρ'=.ok d/\Ext (upd (upd Hi a (.ins C dx hs)) l (.lst xs)) (upd H l (.lst xs)) Hi2 H'/\IsD X.K Hi2 v d) I1 ⟨ρ',_,RF,?_⟩) (fun v s1 q=>?_) fun _ _ z=>z
  ·cases zf:f ρ' with
   | no=>rw [zf] at ou1;exact ou1.elim
   | err cc=>rw [zf] at ou1;exact fun Hi' H' e=>ou1 Hi' H' (RF.ext.trans e)
   | ok d=>exact fun Hi2 H2 e2 v r=>⟨d,Hi2,rfl,e2,r⟩
  ·obtain ⟨v',H2,I2,rv,d,Hi2,zf,e2,r⟩:=q
   rw [zf] at ou1
   have ou2:(match (if noL d=true then Res.ok (d,ρ) else .no) with
    | .ok (d,ρ')=>∀ v Hi' H',Same Hi Hi'->dS X G Hi' H' σ ρ'->IsD X.K Hi' v d->Q v H'
    | .err c=>∀ Hi' H',Ext G.Bi G.B Hi' H'->G.E c H'
    | .no=>False):=ou1
   clear ou1
   by_cases nl:noL d=true
   ·rw [if_pos nl] at ou2
    have sm:Same Hi (upd (upd Hi a (.ins C dx hs)) l (.lst xs)):=(aS k2 _).trans (aS (by rw [aG nla];exact k7) _)
    obtain ⟨Ht,et,kt,tn⟩:=Ext.thawX sm (fun b w1 w2=>by
     by_cases y1:b=l
     ·subst y1;exact .inl ⟨_,aE⟩
     ·rw [aG y1] at w2 ⊢
      by_cases y2:b=a
      ·subst y2;exact .inr ⟨_,_,_,aE⟩
      ·rw [aG y2] at w2;exact absurd w1 w2) e2
    have tl:Ht l=none:=tn l k7 (by rw [aE];exact fun z=>by cases z)
    have ta:Ht a=none:=tn a k2 (by rw [aG (Ne.symm nla),aE];exact fun z=>by cases z)
    have hl2:H2 l=some (.lst xs):=et.h.at aE
    have ha2:H2 a=some (.ins C dx hs):=et.h.at (by rw [aG (Ne.symm nla)];exact k1)
    obtain ⟨zz,its,n1,rv2,hlen,ee⟩:=I2.lstM hl2
    have I3:Inv X pins σ (upd H2 l (.ext (pH l its))) s1:=I2.write (x:=l) (e:=l) (o:=.ext (pH l its)) (h':=s1.heap) (t':=s1.toks) (by rw [hl2];trivial) (.inl rfl) (fun b u _ y=>y) ⟨_,ee⟩ (zFw n1 ee)
    have R2:=R1.grow et
    have ndl:∀ (j:Nat) (es:List D),(ρ.set i Sl.un)[j]?=some (Sl.own es)->σ[j]?≠some (some (V.ref l)):=fun j es q y=>by
     by_cases w:i=j
     ·subst w
      rw [List.getElem?_set_self (List.getElem?_eq_some_iff.mp z0).1] at q;cases q
     ·rw [List.getElem?_set_ne w] at q
      obtain ⟨b1,zs,p1,g1,_⟩:=R.slot j _ q
      rw [y] at p1;cases p1
      rw [k6] at g1;cases g1
    have R3:=Rel.showX (s0:=.obj ao c lf fs ds) (ao:=ao) z0 R2 hlo o1 g0 hl2 tl k8 ndl ⟨l,C,dx,hs,xs,its,by rw [aG (Ne.symm nla)];exact ha2,ta,k3,k4,k5,aE,tl,k8,rv2,k10.mono et.i,k11.mono et.i⟩
    rw [zEt z0] at R3
    exact ⟨v',_,I3,rv,ou2 v' Ht _ et.i R3 (IsD.noL kt r nl)⟩
   ·rw [if_neg nl] at ou2;exact ou2.elim
end
def tPr (X:Cx) (G:Gx) (c lf:Str) (i j:Nat):TS:=fun E σ H=>∃ ρ Hi,dS X G Hi H σ ρ/\match prO c lf ρ[i]? ρ[j]? with
 | .ok (d,ds)=>∀ t v l xs Hi' H',Ext G.Bi G.B Hi' H'->Hi' t=some (.tup [v,.ref l])->IsD X.K Hi' v d->H' l=some (.lst xs)->Hi' l=none->G.B l=none->IsDs X.K Hi' xs ds->E.rt (.ref t) H'
 | _=>False
section
variable {X:Cx} {G:Gx} {e1 o:Expr} {p1 p2 p3:Pos} {i j:Nat} {c lf:Str}
theorem zHK {x1} (hj:PE X e1 (qJ j)) (ho:PE X o (qJ i)) (cf:∀ C,X.mg c=some (.ref C)->Cls X.K C/\dW X.K C lf) (hb:attributeBase o lf X.env (eval o X.env)=eval o X.env:=by rfl)
  (hs1:starEach [e1,.Attribute o lf p1] X.env=(false,eval e1 X.env)::starEach [.Attribute o lf p1] X.env:=by rfl) (hs2:starEach [.Attribute o lf p1] X.env=(false,eval (.Attribute o lf p1) X.env)::starEach [] X.env:=by rfl):
  PS X (.Return (some (.Tuple [e1,.Attribute o lf p1] x1 p2)) p3) (tPr X G c lf i j):=by
 intro pins s σ H E I q
 obtain ⟨ρ,Hi,R,h⟩:=q
 cases zi:ρ[i]? with
 | none=>rw [zi] at h;exact h.elim
 | some si=>
  rw [zi] at h
  cases si with
  | obj ao c' lf' fs ds=>
   cases zj:ρ[j]? with
   | none=>rw [zj] at h;exact h.elim
   | some sj=>
    rw [zj] at h
    cases sj with
    | val d=>
     have h2:(match (if c'=c/\lf'=lf/\ds.length < 100000 then Res.ok (d,ds) else .no) with
      | .ok (d,ds)=>∀ t v l xs Hi' H',Ext G.Bi G.B Hi' H'->Hi' t=some (.tup [v,.ref l])->IsD X.K Hi' v d->H' l=some (.lst xs)->Hi' l=none->G.B l=none->IsDs X.K Hi' xs ds->E.rt (.ref t) H'
      | _=>False):=h
     clear h
     by_cases w:c'=c/\lf'=lf/\ds.length < 100000
     ·rw [if_pos w] at h2
      obtain ⟨rfl,rfl,hl⟩:=w
      obtain ⟨a,o1,g0,l,C,dx,hs,xs,us,k1,k2,k3,k4,k5,k6,k7,k8,k9,k10,k11⟩:=R.slot i _ zi
      obtain ⟨v,oj,rj⟩:=R.slot j _ zj
      have nla:l≠a:=fun y=>by rw [y,k1] at k6;cases k6
      obtain ⟨⟨n0,e0⟩,_,_⟩:=I.hok l _ k6
      have I1:Inv X pins σ (upd H l (.lst xs)) s:=I.write (x:=l) (e:=l) (o:=.lst xs) (h':=s.heap) (t':=s.toks) (by rw [k6];trivial) (.inl rfl) (fun b u _ y=>y) ⟨_,e0⟩ ⟨by rw [k10.length];exact Nat.le_trans (Nat.le_of_lt hl) (by decide),us,n0,k9,e0⟩
      have xR:Ext G.Bi G.B Hi (upd H l (.lst xs)):=xB R.ext k8 (fun ps z=>by rw [k6] at z;cases z) (fun o u z=>by rw [k6] at z;cases z) k7
      refine pN (zEZ (cT hj (cT (xO ho hb) gK hs2) hs1)) pins s σ (upd H l (.lst xs)) E I1 ?_
      refine ⟨v,oj,.ref a,o1,a,C,dx,hs,.ref l,rfl,by rw [aG (Ne.symm nla)];exact k1,(cf C k4).1,(cf C k4).2,k5,by show 2<=sizeLine;decide,fun p hp=>?_⟩
      have npl:l≠p:=fun y=>by rw [<-y,aE] at hp;cases hp
      have xN:=xR.trans (Ext.new (o:=.tup [v,.ref l]) xR.s hp)
      exact h2 p v l xs _ _ xN aE (rj.mono (aS (xR.s.none hp) _)) (by rw [aG npl];exact aE) (by rw [aG npl];exact k7) k8 (k10.mono (aS (xR.s.none hp) _))
     ·rw [if_neg w] at h2;exact h2.elim
    | _=>exact h.elim
  | _=>exact h.elim
end
def spP (K:PySem.W.Frag) (mg:Str->Option Value) (np:Nat) (kf:List D->Res (D×List D)):Sp:=fun vs H Q _=>vs.length=np/\∃ Bi ds,TB K mg Bi H/\Same Bi H/\IsDs K Bi vs ds/\match kf ds with
 | .ok (d,es)=>∀ t v l xs Hi' H',Ext Bi H Hi' H'->Hi' t=some (.tup [v,.ref l])->IsD K Hi' v d->H' l=some (.lst xs)->Hi' l=none->H l=none->IsDs K Hi' xs es->Q (.ref t) H'
 | _=>False
structure CanP (P:Program) (w:World) (K:PySem.W.Frag) (mg:Str->Option Value) (base:Heap) (k:Nat) (x:Str) (ps:List Str) (kf:List D->Res (D×List D)):Prop where
 ex:∃ f fd,FnOk P w K mg base (CX1 P w) k f fd ps (spP K mg ps.length kf)/\lV K fd ps []/\PySem.W.keepIn K (.ref f)=true/\mg x=some (.ref f)
 ln:∀ ds,kf ds≠.no->ds.length=ps.length
section
variable {P:Program} {w:World} {K:PySem.W.Frag} {mg:Str->Option Value} {base:Heap} {N ps:List Str} {x c lf:Str} {st:Stmt} {f C:Addr} {fd:FuncData} {k i j:Nat} {sv:Sv} {kf:List D->Res (D×List D)}
theorem CanP.mono {j:Nat} (h:CanP P w K mg base j x ps kf) (l:j<=k):CanP P w K mg base k x ps kf:=by
 obtain ⟨⟨f,fd,F,r⟩,ln⟩:=h
 exact ⟨⟨f,fd,F.mono l,r⟩,ln⟩
theorem zKl (F:Fn K mg x st ps f fd) (S:FnScope N ps (aF st))
  (h:∀ (cdv:Value) (A:Around) (outer:List Env) (s:Shared) (H:Hp) (E:XK) (G:Gx),Good (BX P w K mg base N x st f cdv A outer s H E) G k->rW (BX P w K mg base N x st f cdv A outer s H E) G->PSs (BX P w K mg base N x st f cdv A outer s H E) (cD st) (tSU (BX P w K mg base N x st f cdv A outer s H E) G sv (tPr (BX P w K mg base N x st f cdv A outer s H E) G c lf i j))):
  CanP P w K mg base (k+1) x ps (kPr c lf ps.length N.length i j sv):=by
 refine ⟨⟨f,fd,?_,F.bd,F.kp,F.mg⟩,fun ds hm=>?_⟩
 ·obtain ⟨oc,od,kV,doc,pm,an,cdv,ct,osl,rfl,lk,hcd⟩:=F.fn.ex
  refine zDu lk hcd S (fun vs H Q E h=>h.1) fun A outer s H vs Q E hr hsp=>?_
  obtain ⟨hl,Bi,ds,tb,sm,hd,hq⟩:=hsp
  have hg:=zCi (P:=P) (w:=w) (K:=K) (mg:=mg) (base:=base) (N:=N) (outer:=outer) (H:=H) (Bi:=Bi) (E:=E) hr tb
  have hlen:ds.length=ps.length:=by rw [<-hd.length];exact hl
  refine ⟨_,h cdv A outer s H E _ hg yT,L3.start N.length ds,Bi,tJ sm hd,?_⟩
  unfold kPr at hq
  rw [if_pos hlen] at hq
  cases e1:sv (L3.start N.length ds) with
  | no=>rw [e1] at hq;exact hq.elim
  | err c=>rw [e1] at hq;exact hq.elim
  | ok fl=>
   rw [e1] at hq
   cases fl with
   | brk ρ=>exact hq.elim
   | ctn ρ=>exact hq.elim
   | ret r=>exact hq.elim
   | nx ρ=>
    intro σ1 Hi1 H1 sm1 R
    refine ⟨ρ,Hi1,R,?_⟩
    have hq2:match prO c lf ρ[i]? ρ[j]? with
     | .ok (d,es)=>∀ t v l xs Hi' H',Ext Bi H Hi' H'->Hi' t=some (.tup [v,.ref l])->IsD K Hi' v d->H' l=some (.lst xs)->Hi' l=none->H l=none->IsDs K Hi' xs es->Q (.ref t) H'
     | _=>False:=hq
    cases z:prO c lf ρ[i]? ρ[j]? with
    | no=>rw [z] at hq2;exact hq2.elim
    | err c=>rw [z] at hq2;exact hq2.elim
    | ok r=>rw [z] at hq2;exact hq2
 ·unfold kPr at hm
  split at hm
  ·assumption
  ·exact absurd rfl hm
theorem CanP.m (h:CanP P w K mg base k x ps kf):CanM P w K mg base k x ps (mPr kf):=by
 obtain ⟨⟨f,fd,F,r⟩,ln⟩:=h
 refine ⟨⟨f,fd,F.imp fun vs H Q E q=>?_,r⟩,fun ds hm=>ln ds fun z=>hm (by unfold mPr;rw [z];rfl)⟩
 obtain ⟨hl,Bi,ds,tb,sm,hd,hq⟩:=q
 refine ⟨hl,Bi,ds,tb,sm,hd,?_⟩
 unfold mPr at hq
 cases z:kf ds with
 | no=>rw [z] at hq;exact hq.elim
 | err c=>rw [z] at hq;exact hq.elim
 | ok q=>
  rw [z] at hq
  obtain ⟨d,es⟩:=q
  intro t v l xs Hi' H' x ht hv hl hi hn hs
  have ntl:t≠l:=fun y=>by rw [y,hi] at ht;cases ht
  have hq2:∀ v Hi' H',Ext Bi H Hi' H'->IsD K Hi' v (.tup [d,.lst es])->Q v H':=hq
  have sm2:Same Hi' (upd Hi' l (.lst xs)):=aS hi _
  exact hq2 (.ref t) _ _ (x.hold hn hl hi) (.tup (SqT.of (sm2 _ _ ht)) (.cons (hv.mono sm2) (.cons (.lst (SqL.of aE) (hs.mono sm2)) .nil)))
end
end L3
namespace L3
open PySem PySem.Spec PyProof.Rows L2 PySem.W
unseal PEd PEf PTd PWd PAd PSd bX POd PGd dH PId PSx eY PTs PCd PCf
theorem zAx {fo:Nat} {m:List D->Res (D×List D)} {a:Fv} {cmp:Tv} {rest:Sv} {ρ:Rho} (h:zAf fo m a cmp rest ρ≠.no):
  ∃ ds d es,a ρ=.ok ds/\m ds=.ok (d,es)/\es.length < 100000/\fo < ρ.length/\cmp (ρ.set fo (.val (.tup [d,.lst es])))=.ok false/\zAf fo m a cmp rest ρ=rest (ρ.set fo .un):=by
 unfold zAf at h ⊢
 cases z1:a ρ with
 | no=>rw [z1] at h;exact absurd rfl h
 | err c=>rw [z1] at h;exact absurd rfl h
 | ok ds=>
  rw [z1] at h
  simp only [noErr,Res.bind] at h ⊢
  cases z2:m ds with
  | no=>rw [z2] at h;exact absurd rfl h
  | err c=>rw [z2] at h;exact absurd rfl h
  | ok q=>
   obtain ⟨d,es⟩:=q
   rw [z2] at h
   simp only [noErr,Res.bind] at h ⊢
   by_cases w:es.length < 100000/\fo < ρ.length
   ·rw [if_pos w] at h ⊢
    cases z3:cmp (ρ.set fo (.val (.tup [d,.lst es]))) with
    | no=>rw [z3] at h;exact absurd rfl h
    | err c=>rw [z3] at h;exact absurd rfl h
    | ok c=>
     rw [z3] at h
     cases c with
     | true=>exact absurd rfl h
     | false=>exact ⟨ds,d,es,rfl,z2,w.1,w.2,z3,rfl⟩
   ·rw [if_neg w] at h;exact absurd rfl h
section
variable {X:Cx} {G:Gx} {e o1 ct:Expr} {es:List Expr} {rest body:List Stmt} {pos p p4 p5 p6 p11 p12 p13 p14 p15 p16:Pos} {fs:Fv} {k fo k1 k5:Nat} {kf:List D->Res (D×List D)} {x y wd:Str} {ps:List Str} {cmp:Tv} {sr:Sv}
theorem zIf (hN:X.N.Nodup) (hj:X.N[fo]?=some y) (hy:Loc X.env.scope y) (W:Good X G k) (c:CanP X.prog X.w X.K X.mg X.base k x ps kf) (hg:Gl X x) (ha:PAd X G (e::es) fs) (ht:PTd X G ct cmp) (ho:PE X o1 (qJ fo)) (hr:bX X G rest sr)
  (hdb:(x==("__debug__" : Str))=false:=by decide) (he:starEach (e::es) X.env=(false,eval e X.env)::starEach es X.env:=by rfl) (hpl:(backTo pos (starEach es X.env)).any (·.1)=false:=by rfl)
  (hw:swapsWith (.Call (.Name x p) (e::es) [] pos) (some (.Name y p4)) p5.line X.env=pure false:=by rfl) (hf:X.fn y=true∨X.env.scope.names.lookup y=some .local:=by first | exact .inl rfl | exact .inr rfl | assumption)
  (hx1:vP (.Constant (.int 1) k1 p12):=by exact fun _ _=>rfl)
  (hbase:attributeBase (.Subscript o1 (.Constant (.int 1) k1 p12) p13) "append" X.env (eval (.Subscript o1 (.Constant (.int 1) k1 p12) p13) X.env)=eval (.Subscript o1 (.Constant (.int 1) k1 p12) p13) X.env:=by rfl)
  (hfew:((backTo p15 (starEach [.Constant (.str wd) k5 p11] X.env)).all (fun x=>!x.1) && (backToKw p15 (keywordEach [] X.env)).all (fun x=>x.1.isSome)
   && decide ([Expr.Constant (.str wd) k5 p11].length+([]:List Keyword).length+(if ([]:List Keyword).isEmpty then 0 else 1) < 30))=true:=by rfl)
  (hline:(p14.endLine==p15.line)=true:=by rfl) (hs5:starEach [.Constant (.str wd) k5 p11] X.env=(false,eval (.Constant (.str wd) k5 p11) X.env)::starEach [] X.env:=by rfl)
  (hw4:swapsWith (.Call (.Attribute (.Subscript o1 (.Constant (.int 1) k1 p12) p13) "append" p14) [.Constant (.str wd) k5 p11] [] p15) none p16.line X.env=pure false:=by rfl):
  bX X G (.Assign [.Name y p4] (.Call (.Name x p) (e::es) [] pos) p5::.If ct body [] p6::.Expr (.Call (.Attribute (.Subscript o1 (.Constant (.int 1) k1 p12) p13) "append" p14) [.Constant (.str wd) k5 p11] [] p15) p16::rest) (zAf fo kf fs cmp sr):=by
 obtain ⟨⟨f,fd,F,b,kp,hm⟩,ln⟩:=c
 refine PSs.wk (iR (xI hN hj hy (qT F W.room hg hm kp b .nil W.pass ha hdb he hpl) hw hf) (iR (zFT ht zBv zAH)
  (iR (jT (wB PySem.F.plainAttrs_list PySem.F.slot_list_append PySem.F.type_list_append gJ (zHm zEv ho zEG hx1) (cT cK gK hs5) hbase hfew hline hs5 rfl) hw4) hr))) fun E σ H q=>?_
 obtain ⟨ρ,Hi,R,h⟩:=q
 obtain ⟨ds,d,es',qa,qm,z1,l1,qt,eq⟩:=zAx (fo:=fo) (m:=kf) (a:=fs) (cmp:=cmp) (rest:=sr) (ρ:=ρ) (fun z=>by rw [z] at h;exact h)
 rw [eq] at h
 refine ⟨ρ,Hi,R,?_⟩
 rw [qa]
 intro Hi1 H1 x1 vs rv
 have R1:=R.grow x1
 rw [List.append_nil]
 refine ⟨by rw [rv.length];exact ln ds (by rw [qm];exact fun z=>by cases z),Hi1,ds,W.tb.ext R1.ext,R1.s,rv,?_⟩
 rw [qm]
 intro t v l xs Hi2 H2 x2 ht2 hv hl hi hn hs
 have hnl:H l=none:=x1.h.none hn
 have x12:=x1.trans x2
 have eh:=x12.hold hnl hl hi
 have sm2:Same Hi2 (upd Hi2 l (.lst xs)):=aS hi _
 have RF:=(R.grow eh).set (i:=fo) (v:=.ref t) (d:=.tup [d,.lst es']) (.tup (SqT.of (sm2 _ _ ht2)) (.cons (hv.mono sm2) (.cons (.lst (SqL.of aE) (hs.mono sm2)) .nil)))
 refine ⟨_,_,RF,?_⟩
 rw [qt]
 intro Hi5 H5 e5
 obtain ⟨Ht,et,kt,tn⟩:=Ext.thawX sm2 (fun b w1 w2=>by
  by_cases y1:b=l
  ·subst y1;exact .inl ⟨_,aE⟩
  ·rw [aG y1] at w2;exact absurd w1 w2) e5
 have tl:Ht l=none:=tn l hi (by rw [aE];exact fun z=>by cases z)
 have y1:H5 l=some (.lst xs):=et.h.at hl
 have y2:H5 t=some (.tup [v,.ref l]):=et.s _ _ (et.i _ _ ht2)
 have eT:=(x12.trans et).rewrite (o:=.lst (xs++[.str wd])) hnl tl ⟨_,y1⟩
 have RT:=(R.grow eT).setS (i:=fo) (v:=.ref t) (s:=.un) trivial (fun ds z=>by cases z)
 have sv:(σ.set fo (some (.ref t)))[fo]?=some (some (.ref t)):=by rw [List.getElem?_set_self (by rw [R.len];exact l1)]
 rw [if_neg (by decide)]
 refine ⟨.ref t,sv,t,[v,.ref l],1,.ref l,rfl,rfl,SqT.of y2,rfl,.inl ⟨rfl,xs,SqL.of y1⟩,l,xs,.str wd,rfl,rfl,y1,?_,?_⟩
 ·rw [hs.length];exact Nat.lt_trans z1 (by decide)
 exact ⟨_,Ht,RT,h.mono eT.i⟩
end
end L3
theorem PySem.W.Fast.tw5391646445168854882:True:=trivial
theorem PySem.W.Fast.tw3618899121792438372:True:=trivial
theorem PySem.W.Fast.tw17062120721256248187:True:=trivial
theorem PySem.W.Fast.tw5429914950695630525:True:=trivial
theorem PySem.W.Fast.tw12015502333243849560:True:=trivial
theorem PySem.W.Fast.tw4747197363021284906:True:=trivial
theorem PySem.W.Fast.tw8499993293104416763:True:=trivial
theorem PySem.W.Fast.tw13932254125772420036:True:=trivial
theorem PySem.W.Fast.tw4033327918457583771:True:=trivial
theorem PySem.W.Fast.tw9585206460656643760:True:=trivial
theorem PySem.W.Fast.tw9235967569236041930:True:=trivial
theorem PySem.W.Fast.tw9827531993614123676:True:=trivial
theorem PySem.W.Fast.tw7254543121804593453:True:=trivial
theorem PySem.W.Fast.tw17909694387569045710:True:=trivial
theorem PySem.W.Fast.tw15015836751852483344:True:=trivial
theorem PySem.W.Fast.tw4635627713079252776:True:=trivial
theorem PySem.W.Fast.tw12260084414054476650:True:=trivial
theorem PySem.W.Fast.tw864384076558738928:True:=trivial
theorem PySem.W.Fast.tw18412918910635834062:True:=trivial
theorem PySem.W.Fast.tw5520761675244737630:True:=trivial
theorem PySem.W.Fast.tw18309244888422492349:True:=trivial
theorem PySem.W.Fast.tw648696358171597376:True:=trivial
theorem PySem.W.Fast.tw17958837347848386569:True:=trivial
theorem PySem.W.Fast.tw525457053866877067:True:=trivial
theorem PySem.W.Fast.tw4804866268434892070:True:=trivial
theorem PySem.W.Fast.tw17420512531898653190:True:=trivial
theorem PySem.W.Fast.tw14322937204434823279:True:=trivial
theorem PySem.W.Fast.tw2440712877474839924:True:=trivial
theorem PySem.W.Fast.tw1863358985989106925:True:=trivial
theorem PySem.W.Fast.tw13210367079833731664:True:=trivial
theorem PySem.W.Fast.tw18057272058999248744:True:=trivial
theorem PySem.W.Fast.tw9589933287036606788:True:=trivial
theorem PySem.W.Fast.tw12788634611990786503:True:=trivial
theorem PySem.W.Fast.tw15528749503738106789:True:=trivial
theorem PySem.W.Fast.tw18310476379353161532:True:=trivial
theorem PySem.W.Fast.tw2357040972776056412:True:=trivial
theorem PySem.W.Fast.tw7185155996522313187:True:=trivial
theorem PySem.W.Fast.tw6255445431182951537:True:=trivial
theorem PySem.W.Fast.tw10920398953587413058:True:=trivial
theorem PySem.W.Fast.tw8193337501178559622:True:=trivial
theorem PySem.W.Fast.tw2718351199501202669:True:=trivial
theorem PySem.W.Fast.tw10009642924370412177:True:=trivial
theorem PySem.W.Fast.tw2228274701978924954:True:=trivial
theorem PySem.W.Fast.tw6486651497697786893:True:=trivial
theorem PySem.W.Fast.tw17975201349522206796:True:=trivial
theorem PySem.W.Fast.tw6203848591477400648:True:=trivial
theorem PySem.W.Fast.tw13357203996060656603:True:=trivial
theorem PySem.W.Fast.tw17346728509627338775:True:=trivial
theorem PySem.W.Fast.tw4958892386109611194:True:=trivial
theorem PySem.W.Fast.tw2702578532255493888:True:=trivial
theorem PySem.W.Fast.tw17514527213844118691:True:=trivial
theorem PySem.W.Fast.tw7328543405685473961:True:=trivial
theorem PySem.W.Fast.tw6856053604042597687:True:=trivial
theorem PySem.W.Fast.tw16504542319437704230:True:=trivial
theorem PySem.W.Fast.tw4182370427263824188:True:=trivial
theorem PySem.W.Fast.tw13641657965194973177:True:=trivial
theorem PySem.W.Fast.tw15028873404726000963:True:=trivial
theorem PySem.W.Fast.tw1592601297094537700:True:=trivial
theorem PySem.W.Fast.tw14154235066853499401:True:=trivial
theorem PySem.W.Fast.tw7402929816041997036:True:=trivial
theorem PySem.W.Fast.tw926315872504590496:True:=trivial
theorem PySem.W.Fast.tw5209435220618875135:True:=trivial
theorem PySem.W.Fast.tw12463643147538223094:True:=trivial
theorem PySem.W.Fast.tw391883451057690022:True:=trivial
theorem PySem.W.Fast.tw9795041764097557589:True:=trivial
theorem PySem.W.Fast.tw3529656234872054873:True:=trivial
theorem PySem.W.Fast.tw7098503993629285583:True:=trivial
theorem PySem.W.Fast.tw17609791207796526557:True:=trivial
theorem PySem.W.Fast.tw7987511100865322157:True:=trivial
theorem PySem.W.Fast.tw2568005803044501648:True:=trivial
theorem PySem.W.Fast.tw15899135658000426241:True:=trivial
theorem PySem.W.Fast.tw11055992257158998397:True:=trivial
theorem PySem.W.Fast.tw11900401370328375281:True:=trivial
theorem PySem.W.Fast.tw1978144421157130925:True:=trivial
theorem PySem.W.Fast.tw15287511957780454882:True:=trivial
theorem PySem.W.Fast.tw1303104986303308853:True:=trivial
theorem PySem.W.Fast.tw14768104804019486845:True:=trivial
theorem PySem.W.Fast.tw14962058850081360208:True:=trivial
theorem PySem.W.Fast.tw17283661221280686536:True:=trivial
theorem PySem.W.Fast.tw8460949077125918150:True:=trivial
theorem PySem.W.Fast.tw5545360836015315365:True:=trivial
theorem PySem.W.Fast.tw4337059475587864106:True:=trivial
theorem PySem.W.Fast.tw15710590055128710114:True:=trivial
theorem PySem.W.Fast.tw9730362886184437065:True:=trivial
theorem PySem.W.Fast.tw5055340266849940896:True:=trivial
theorem PySem.W.Fast.tw12928303591483710920:True:=trivial
theorem PySem.W.Fast.tw8029726908806765988:True:=trivial
theorem PySem.W.Fast.tw696409624534581174:True:=trivial
theorem PySem.W.Fast.tw1318213212638488798:True:=trivial
theorem PySem.W.Fast.tw9928856341057325489:True:=trivial
theorem PySem.W.Fast.tw7272539688289975163:True:=trivial
theorem PySem.W.Fast.tw6367179322519760616:True:=trivial
theorem PySem.W.Fast.tw17578448704200103337:True:=trivial
theorem PySem.W.Fast.tw15455638885763510177:True:=trivial
theorem PySem.W.Fast.tw7922331311167646611:True:=trivial
theorem PySem.W.Fast.tw5575529339964416055:True:=trivial
theorem PySem.W.Fast.tw18231773260921875642:True:=trivial
theorem PySem.W.Fast.tw2335201885591012954:True:=trivial
theorem PySem.W.Fast.tw12150762265653856848:True:=trivial
theorem PySem.W.Fast.tw2681285099092659237:True:=trivial
theorem PySem.W.Fast.tw2306984362486387563:True:=trivial
theorem PySem.W.Fast.tw2109314149974261595:True:=trivial
theorem PySem.W.Fast.tw1847218250165110497:True:=trivial
theorem PySem.W.Fast.tw15909551185432882949:True:=trivial
theorem PySem.W.Fast.tw12417069274005376102:True:=trivial
theorem PySem.W.Fast.tw16931759004747338707:True:=trivial
theorem PySem.W.Fast.tw10335033831034462893:True:=trivial
theorem PySem.W.Fast.tw10488976150089675805:True:=trivial
theorem PySem.W.Fast.tw882027095035578195:True:=trivial
theorem PySem.W.Fast.tw10300982592415980372:True:=trivial
theorem PySem.W.Fast.tw232450948589014127:True:=trivial
theorem PySem.W.Fast.tw17219736519964528090:True:=trivial
theorem PySem.W.Fast.tw1095732035600046116:True:=trivial
theorem PySem.W.Fast.tw11086216564981173849:True:=trivial
theorem PySem.W.Fast.tw15380205641803404270:True:=trivial
theorem PySem.W.Fast.tw12336293384000466697:True:=trivial
theorem PySem.W.Fast.tw2453014975367701103:True:=trivial
theorem PySem.W.Fast.tw1605278106750692625:True:=trivial
theorem PySem.W.Fast.tw1691514811194966707:True:=trivial
theorem PySem.W.Fast.tw2948687222614113078:True:=trivial
theorem PySem.W.Fast.tw14812903673043575414:True:=trivial
theorem PySem.W.Fast.tw15852409331081017736:True:=trivial
theorem PySem.W.Fast.tw3634253314082126029:True:=trivial
theorem PySem.W.Fast.tw125793966422800120:True:=trivial
theorem PySem.W.Fast.tw14756374032133222454:True:=trivial
theorem PySem.W.Fast.tw1758889315985378523:True:=trivial
theorem PySem.W.Fast.tw9271401902272763565:True:=trivial
theorem PySem.W.Fast.tw3487199943332451429:True:=trivial
theorem PySem.W.Fast.tw9892932259580853530:True:=trivial
theorem PySem.W.Fast.tw2993043065683467192:True:=trivial
theorem PySem.W.Fast.tw14264010120894105629:True:=trivial
theorem PySem.W.Fast.tw17693352094424945641:True:=trivial
theorem PySem.W.Fast.tw15245130125124864047:True:=trivial
theorem PySem.W.Fast.tw7499954102832961944:True:=trivial
theorem PySem.W.Fast.tw3800655794322103594:True:=trivial
theorem PySem.W.Fast.tw15938738324545469673:True:=trivial
theorem PySem.W.Fast.tw12974073883322016519:True:=trivial
theorem PySem.W.Fast.tw6598026400986326192:True:=trivial
theorem PySem.W.Fast.tw11606411711896361817:True:=trivial
theorem PySem.W.Fast.tw7943588778315955041:True:=trivial
theorem PySem.W.Fast.tw7580368293592282952:True:=trivial
theorem PySem.W.Fast.tw1681600651909956278:True:=trivial
theorem PySem.W.Fast.tw13293528137596075694:True:=trivial
theorem PySem.W.Fast.tw8898815570529031524:True:=trivial
theorem PySem.W.Fast.tw12322148947323940881:True:=trivial
theorem PySem.W.Fast.tw14832877250530574649:True:=trivial
theorem PySem.W.Fast.tw12104568677678854546:True:=trivial
theorem PySem.W.Fast.tw5476959950050752159:True:=trivial
theorem PySem.W.Fast.tw13364326955022410893:True:=trivial
theorem PySem.W.Fast.tw8416789374287565996:True:=trivial
theorem PySem.W.Fast.tw15358305244600392872:True:=trivial
theorem PySem.W.Fast.tw12476388680782933518:True:=trivial
theorem PySem.W.Fast.tw557726216426440281:True:=trivial
theorem PySem.W.Fast.tw1665832614529835976:True:=trivial
theorem PySem.W.Fast.tw12360126984752109384:True:=trivial
theorem PySem.W.Fast.tw5139252459057084989:True:=trivial
theorem PySem.W.Fast.tw12024481321744153449:True:=trivial
theorem PySem.W.Fast.tw7736027138845005421:True:=trivial
theorem PySem.W.Fast.tw3348751779559753057:True:=trivial
theorem PySem.W.Fast.tw15767660541908763701:True:=trivial
theorem PySem.W.Fast.tw1280084383186596403:True:=trivial
theorem PySem.W.Fast.tw14502045834584610254:True:=trivial
theorem PySem.W.Fast.tw411128822961324787:True:=trivial
theorem PySem.W.Fast.tw583137768291520221:True:=trivial
theorem PySem.W.Fast.tw6073332608260131738:True:=trivial
theorem PySem.W.Fast.tw2239901793166745648:True:=trivial
theorem PySem.W.Fast.tw3977646291742399421:True:=trivial
theorem PySem.W.Fast.tw3388948054726619590:True:=trivial
theorem PySem.W.Fast.tw6001999099754049376:True:=trivial
theorem PySem.W.Fast.tw3519487482003568287:True:=trivial
theorem PySem.W.Fast.tw2765799405579563953:True:=trivial
theorem PySem.W.Fast.tw12988555974507546217:True:=trivial
theorem PySem.W.Fast.tw17646512602930470563:True:=trivial
theorem PySem.W.Fast.tw7380449812546587667:True:=trivial
theorem PySem.W.Fast.tw10777395790042359094:True:=trivial
theorem PySem.W.Fast.tw18173272645295337239:True:=trivial
theorem PySem.W.Fast.tw8675930152369072204:True:=trivial
theorem PySem.W.Fast.tw7128261502634917800:True:=trivial
theorem PySem.W.Fast.tw141343324403664880:True:=trivial
theorem PySem.W.Fast.tw8548728805273611198:True:=trivial
theorem PySem.W.Fast.tw6492881299693656944:True:=trivial
theorem PySem.W.Fast.tw4270535586370403457:True:=trivial
theorem PySem.W.Fast.tw398569953734114619:True:=trivial
theorem PySem.W.Fast.tw10007315018740690634:True:=trivial
theorem PySem.W.Fast.tw4266570850478377339:True:=trivial
theorem PySem.W.Fast.tw12014838174882088335:True:=trivial
theorem PySem.W.Fast.tw7500171478758244922:True:=trivial
theorem PySem.W.Fast.tw13186477404678063601:True:=trivial
theorem PySem.W.Fast.tw17858591627188407859:True:=trivial
theorem PySem.W.Fast.tw8189186377885673938:True:=trivial
theorem PySem.W.Fast.tw18127078156338819456:True:=trivial
theorem PySem.W.Fast.tw13700733453345631610:True:=trivial
theorem PySem.W.Fast.tw4836494828647964925:True:=trivial
theorem PySem.W.Fast.tw9377278585392501503:True:=trivial
theorem PySem.W.Fast.tw12692249000050555891:True:=trivial
theorem PySem.W.Fast.tw8789966606114802326:True:=trivial
theorem PySem.W.Fast.tw16161983857852372432:True:=trivial
theorem PySem.W.Fast.tw5203698986764578176:True:=trivial
theorem PySem.W.Fast.tw6523815659940735292:True:=trivial
theorem PySem.W.Fast.tw688808804384366224:True:=trivial
theorem PySem.W.Fast.tw7080035278570837386:True:=trivial
theorem PySem.W.Fast.tw17793736550222733326:True:=trivial
theorem PySem.W.Fast.tw1285642318886666011:True:=trivial
theorem PySem.W.Fast.tw17487179638961183292:True:=trivial
theorem PySem.W.Fast.tw11265753717937958312:True:=trivial
theorem PySem.W.Fast.tw11229776182644936002:True:=trivial
theorem PySem.W.Fast.tw4971321394990894503:True:=trivial
theorem PySem.W.Fast.tw12026121033628154990:True:=trivial
theorem PySem.W.Fast.tw13911491402643524286:True:=trivial
theorem PySem.W.Fast.tw4189487735014464615:True:=trivial
theorem PySem.W.Fast.tw8728273777751615214:True:=trivial
theorem PySem.W.Fast.tw9573430979284691287:True:=trivial
theorem PySem.W.Fast.tw5874535036957390321:True:=trivial
theorem PySem.W.Fast.tw14267643605393389560:True:=trivial
theorem PySem.W.Fast.tw699306271810366421:True:=trivial
theorem PySem.W.Fast.tw8021446946549488904:True:=trivial
theorem PySem.W.Fast.tw10095094111687528270:True:=trivial
theorem PySem.W.Fast.tw11058331846480054408:True:=trivial
theorem PySem.W.Fast.tw7364655201120929739:True:=trivial
theorem PySem.W.Fast.tw1634721531066211425:True:=trivial
theorem PySem.W.Fast.tw8850377378452956342:True:=trivial
theorem PySem.W.Fast.tw17805028404488925116:True:=trivial
theorem PySem.W.Fast.tw17315313308789220883:True:=trivial
theorem PySem.W.Fast.tw1054537612700457589:True:=trivial
theorem PySem.W.Fast.tw11182634185785430942:True:=trivial
theorem PySem.W.Fast.tw8205163887279465942:True:=trivial
theorem PySem.W.Fast.tw15986770346405140954:True:=trivial
theorem PySem.W.Fast.tw5735009709727295919:True:=trivial
theorem PySem.W.Fast.tw10245083233070034494:True:=trivial
theorem PySem.W.Fast.tw17768756669069301127:True:=trivial
theorem PySem.W.Fast.tw16947134803826654648:True:=trivial
theorem PySem.W.Fast.tw2072869662931818560:True:=trivial
theorem PySem.W.Fast.tw6745879249838044233:True:=trivial
theorem PySem.W.Fast.tw12502954247400406943:True:=trivial
theorem PySem.W.Fast.tw11227312346905346550:True:=trivial
theorem PySem.W.Fast.tw14724094754621025176:True:=trivial
theorem PySem.W.Fast.tw8892787885199119259:True:=trivial
theorem PySem.W.Fast.tw13074844551733870263:True:=trivial
theorem PySem.W.Fast.tw5046117769991855036:True:=trivial
theorem PySem.W.Fast.tw16226893305358448277:True:=trivial
theorem PySem.W.Fast.tw3045143668824518177:True:=trivial
theorem PySem.W.Fast.tw955222126797526864:True:=trivial
theorem PySem.W.Fast.tw9222387733985642121:True:=trivial
theorem PySem.W.Fast.tw8663831349006698626:True:=trivial
theorem PySem.W.Fast.tw14813318813538137180:True:=trivial
theorem PySem.W.Fast.tw5146861263041752124:True:=trivial
theorem PySem.W.Fast.tw239414224922676790:True:=trivial
theorem PySem.W.Fast.tw10479571435923895287:True:=trivial
theorem PySem.W.Fast.tw349485216183293436:True:=trivial
theorem PySem.W.Fast.tw14355173139861292301:True:=trivial
theorem PySem.W.Fast.tw16017980567480197882:True:=trivial
theorem PySem.W.Fast.tw11322011893781542184:True:=trivial
theorem PySem.W.Fast.tw9052919532458307208:True:=trivial
theorem PySem.W.Fast.tw14403318807868482090:True:=trivial
theorem PySem.W.Fast.tw3993210296487979115:True:=trivial
theorem PySem.W.Fast.tw14699775127304712278:True:=trivial
theorem PySem.W.Fast.tw5893479844743006127:True:=trivial
theorem PySem.W.Fast.tw4334450721838131259:True:=trivial
theorem PySem.W.Fast.tw10799493732440088817:True:=trivial
theorem PySem.W.Fast.tw2452413260172640539:True:=trivial
theorem PySem.W.Fast.tw2470774251202701409:True:=trivial
theorem PySem.W.Fast.tw8154842245129937575:True:=trivial
theorem PySem.W.Fast.tw7049477991631337100:True:=trivial
theorem PySem.W.Fast.tw9763932366074829115:True:=trivial
theorem PySem.W.Fast.tw14473672977766972732:True:=trivial
theorem PySem.W.Fast.tw10228396385242885808:True:=trivial
theorem PySem.W.Fast.tw12073697056604790374:True:=trivial
theorem PySem.W.Fast.tw16758023247257053225:True:=trivial
theorem PySem.W.Fast.tw8952693909889161668:True:=trivial
theorem PySem.W.Fast.tw6253235710011641895:True:=trivial
theorem PySem.W.Fast.tw5208489199435658626:True:=trivial
theorem PySem.W.Fast.tw6698310094987855958:True:=trivial
theorem PySem.W.Fast.tw3937107375969985850:True:=trivial
theorem PySem.W.Fast.tw12207564135411179004:True:=trivial
theorem PySem.W.Fast.tw6914622121512235356:True:=trivial
theorem PySem.W.Fast.tw14980645949122355893:True:=trivial
theorem PySem.W.Fast.tw2038878123867934386:True:=trivial
theorem PySem.W.Fast.tw13175862554356970235:True:=trivial
theorem PySem.W.Fast.tw8092736149093255173:True:=trivial
theorem PySem.W.Fast.tw4277528142791728379:True:=trivial
theorem PySem.W.Fast.tw12668500686011930780:True:=trivial
theorem PySem.W.Fast.tw10271376450776274589:True:=trivial
theorem PySem.W.Fast.tw8027006012171883282:True:=trivial
theorem PySem.W.Fast.tw339528442265140030:True:=trivial
theorem PySem.W.Fast.tw13826800933672817779:True:=trivial
theorem PySem.W.Fast.tw2955015360446026486:True:=trivial
theorem PySem.W.Fast.tw6616185531880821130:True:=trivial
theorem PySem.W.Fast.tw16624219933757185878:True:=trivial
theorem PySem.W.Fast.tw15181807349570032822:True:=trivial
theorem PySem.W.Fast.tw2475601535625544573:True:=trivial
theorem PySem.W.Fast.tw13851197488813869602:True:=trivial
theorem PySem.W.Fast.tw4790672524455765568:True:=trivial
theorem PySem.W.Fast.tw16136107004418920616:True:=trivial
theorem PySem.W.Fast.tw3798954263177396360:True:=trivial
theorem PySem.W.Fast.tw18236560651689670853:True:=trivial
theorem PySem.W.Fast.tw11222677073050273424:True:=trivial
theorem PySem.W.Fast.tw1636664346147784701:True:=trivial
theorem PySem.W.Fast.tw9019431321131582958:True:=trivial
theorem PySem.W.Fast.tw12638416712477389432:True:=trivial
theorem PySem.W.Fast.tw1490528586852666041:True:=trivial
theorem PySem.W.Fast.tw12123069725609468200:True:=trivial
theorem PySem.W.Fast.tw11431260245719261367:True:=trivial
theorem PySem.W.Fast.tw18332922472963311701:True:=trivial
theorem PySem.W.Fast.tw829611115135430052:True:=trivial
theorem PySem.W.Fast.tw4284754835035951704:True:=trivial
theorem PySem.W.Fast.tw11705693220242645881:True:=trivial
theorem PySem.W.Fast.tw16851060073469480604:True:=trivial
theorem PySem.W.Fast.tw14202146262393884585:True:=trivial
theorem PySem.W.Fast.tw2645497890839320768:True:=trivial
theorem PySem.W.Fast.tw9718190897337191373:True:=trivial
theorem PySem.W.Fast.tw5450681567819888175:True:=trivial
theorem PySem.W.Fast.tw8601777474545959403:True:=trivial
theorem PySem.W.Fast.tw17082762602235945832:True:=trivial
theorem PySem.W.Fast.tw14266235700833159457:True:=trivial
theorem PySem.W.Fast.tw9421817377598134333:True:=trivial
theorem PySem.W.Fast.tw14364129904993236376:True:=trivial
theorem PySem.W.Fast.tw16262313769441670280:True:=trivial
theorem PySem.W.Fast.tw15684671253971189068:True:=trivial
theorem PySem.W.Fast.tw14711353835543549519:True:=trivial
theorem PySem.W.Fast.tw524405173752450018:True:=trivial
theorem PySem.W.Fast.tw6269281123473653506:True:=trivial
theorem PySem.W.Fast.tw8945184614485147587:True:=trivial
theorem PySem.W.Fast.tw15019863320682315865:True:=trivial
theorem PySem.W.Fast.tw16327015152613175001:True:=trivial
theorem PySem.W.Fast.tw8635148636882130399:True:=trivial
theorem PySem.W.Fast.tw8697058969903406375:True:=trivial
theorem PySem.W.Fast.tw9700145189448929113:True:=trivial
theorem PySem.W.Fast.tw8216360508642317447:True:=trivial
theorem PySem.W.Fast.tw11060903477574142144:True:=trivial
theorem PySem.W.Fast.tw6917015424936244722:True:=trivial
theorem PySem.W.Fast.tw6761732608602693067:True:=trivial
theorem PySem.W.Fast.tw9252533548915802044:True:=trivial
theorem PySem.W.Fast.tw11308002356924648386:True:=trivial
theorem PySem.W.Fast.tw10684971888122138231:True:=trivial
theorem PySem.W.Fast.tw17519298879417483409:True:=trivial
theorem PySem.W.Fast.tw6734156743259244294:True:=trivial
theorem PySem.W.Fast.tw5632728976240719205:True:=trivial
theorem PySem.W.Fast.tw10349037285439963351:True:=trivial
theorem PySem.W.Fast.tw3631304084293325643:True:=trivial
theorem PySem.W.Fast.tw18288228965582648524:True:=trivial
theorem PySem.W.Fast.tw17784129290589406298:True:=trivial
theorem PySem.W.Fast.tw2334732692069159185:True:=trivial
theorem PySem.W.Fast.tw8133157353296787664:True:=trivial
theorem PySem.W.Fast.tw8734379928685354708:True:=trivial
theorem PySem.W.Fast.tw15201578309757802263:True:=trivial
theorem PySem.W.Fast.tw5237723978279372145:True:=trivial
theorem PySem.W.Fast.tw17185068978817379958:True:=trivial
theorem PySem.W.Fast.tw10004648030981491673:True:=trivial
theorem PySem.W.Fast.tw501787810509108929:True:=trivial
theorem PySem.W.Fast.tw821134740795404301:True:=trivial
theorem PySem.W.Fast.tw11344425758367481212:True:=trivial
theorem PySem.W.Fast.tw8864277606128188128:True:=trivial
theorem PySem.W.Fast.tw16687054703939878841:True:=trivial
namespace Lw
open L3 PySem
def tbT:List Str:=[]
def zMg:List (Str×List Str):=[]
def cO:List (Str×Str):=[("row", "back"),("back", "row"),("even", "lack"),("lack", "even"),("part", "part"),("half", "half")]
def d_WEIGHTED:D:=(.tup [(.str "even"),(.str "lack")])
def d_BOAT:D:=(.str "boat")
def d_MOST_BOATS:D:=(.int 12)
def d_DEEPEST:D:=(.int 8)
def d_LETTERS:D:=(.str "abcdefghijklmnopqrstuvwxyz")
def d_FIGURES:D:=(.str "0123456789")
def eM:Mir:=fn 1 1 (sIf (cM (eUn (lR cO) (aH 0))) (iG "BadWay" (aA (eC (.str "no such way")) aNil)) sNext)
abbrev kU:Sv:=(sIf (tL (cM (eOp oLt (aH 4) (eC (.int 1)))) (cM (eOp oGt (aH 4) (eOp zX (eC (.int 10)) (eC (.int 6)))))) (iG "BadWeights" (aA (eC (.str "a weight is not from 1 to 10 ** 6")) aNil)) sNext)
abbrev dN:Sv:=(zAh (zDJ (aH 1)) (gName 4) kU)
abbrev fT:Sv:=(bI (sIf (cM (eOp oNe (eB mS (aA (aH 1) aNil)) (aH 3))) (iG "BadWeights" (aA (eC (.str "more or fewer weights than are due")) aNil)) sNext) dN)
def cH:Mir:=fn 3 5 (bI (fV 3 (eIf (cM (eOp oIn (aH 0) (eC d_WEIGHTED))) (aH 2) (eC (.int 0)))) fT)
abbrev zDz:Sv:=(iS (zDg (aA (eC d_BOAT) (aA (aH 0) aNil))))
def kO:Mir:=fn 1 1 (bI (sIf (tL (cM (eOp oLt (aH 0) (eC (.int 0)))) (cM (eOp oGt (aH 0) (eOp zX (eC (.int 10)) (eC (.int 9)))))) (iG "BadClaim" (aA (eC (.str "a boat's claim is not from 0 to 10 ** 9")) aNil)) sNext) zDz)
def cA:Mir:=fn 1 1 (iS (eOp oEq (eOp oIx (aH 0) (eC (.int 0))) (eC d_BOAT)))
def gT:Mir:=fn 1 1 (iS (eOp oIx (aH 0) (eC (.int 0))))
def dI:Mir:=fn 1 1 (iS (eOp oIx (aH 0) (eC (.int 1))))
def dG:Mir:=fn 2 2 (iS (eB zHZ (aA (eF (zP (zKf (aH 1)) zN (eOp zDH (aH 2) (aH 0)))) aNil)))
abbrev oC:Sv:=(iS (eC (.int 0)))
def bM:Mir:=fn 2 2 (bI (sIf (cM (eOp oLt (aH 1) (eB mS (aA (aH 0) aNil)))) (iS (eOp oIx (aH 0) (aH 1))) sNext) oC)
def fM:Mir:=fn 1 1 (iS (zFZ (zDa "int" (aH 0)) (eUn zKu (zDa "bool" (aH 0)))))
abbrev rO:Sv:=(iS (eOp oIx (aH 2) (eOp kY (eOp qK (aH 1) (eOp nI (eOp kY (aH 0) (eC (.int 7))) (eC (.int 5)))) (eC (.int 4)))))
def fR:Mir:=fn 2 3 (bI (fV 2 (eF (pS (aA (eOp kY (eOp nI (aH 0) (eC (.int 7))) (eC (.int 13))) (aA (eOp kY (eOp nI (aH 0) (eC (.int 7))) (eC (.int 4))) (aA (eOp kY (eOp nI (aH 0) (eC (.int 7))) (eOp qK (eOp zX (eC (.int 10)) (eC (.int 9))) (eC (.int 1)))) (aA (eOp zHs (eOp kY (eOp nI (aH 0) (eC (.int 91))) (eC (.int 60))) (eOp zX (eC (.int 10)) (eC (.int 6)))) aNil))))))) rO)
def nA:List D->Res (List (Str×D)):=(xG 1 2 none [("text", (aH 1)),("spot", (eC (.int 0)))] "called")
def aP:gH:=fnX "Reader" "called" 0 1 (nD (eOp oEq (cB 0 "Reader" "spot") (eB mO (aA (cB 0 "Reader" "text") aNil))))
abbrev mU:Sv:=(nD (eC (.bl true)))
abbrev eU:Sv:=(bI (wQ 0 "Reader" "spot" (eB mO (aA (aH 1) aNil))) mU)
def aK:gH:=fnX "Reader" "called" 1 2 (bI (sIf (lO (cM (eSw (cB 0 "Reader" "text") (aH 1) (cB 0 "Reader" "spot")))) (nD (eC (.bl false))) sNext) eU)
def bK:Mir:=fn 1 1 (iS (eIf (cM (bF cA (aA (aH 0) aNil))) (zDg aNil) (eOp oIx (aH 0) (eC (.int 2)))))
def iO:Mir:=fn 1 1 (iS (zFZ (xQ oLe oLe (eC (.int 1)) (eB mO (aA (aH 0) aNil)) (eC (.int 12))) (bF dG (aA (eC d_LETTERS) (aA (aH 0) aNil)))))
abbrev sO:Sv:=(iS (eB zBh (aA (aH 0) aNil)))
abbrev sJ:Sv:=(bI (sIf (zBA (cM (eOp oEq (eOp uZ (aH 0) (eC (.int 0))) (eC (.str "0")))) (cM (eOp oNe (aH 0) (eC (.str "0"))))) (iG "NoText" (aA (eC (.str "a nought ahead")) aNil)) sNext) sO)
def dE:Mir:=fn 1 1 (bI (sIf (tL (cM (eOp oEq (eB mO (aA (aH 0) aNil)) (eC (.int 0)))) (tL (cM (eOp oGt (eB mO (aA (aH 0) aNil)) (eC (.int 13)))) (lO (cM (bF dG (aA (eC d_FIGURES) (aA (aH 0) aNil))))))) (iG "NoText" (aA (eC (.str "no number of at most 13 figures")) aNil)) sNext) sJ)
abbrev sK:Sv:=(fV 6 (eOp nI (aH 6) (eC (.int 26))))
abbrev sD:Sv:=(bI (fV 7 (eOp zCc (aH 7) (eOp uZ (aH 2) (eOp kY (aH 6) (eC (.int 26)))))) sK)
abbrev pB:Sv:=(fV 7 (eOp oIx (aH 9) (eOp kY (eOp nI (aH 3) (eC (.int 1430))) (eC (.int 12)))))
abbrev fZ:Sv:=(zEL 4 (aH 7))
abbrev eD:Sv:=(bI (sIf (cM (eOp oEq (eOp kY (eOp nI (aH 3) (eC (.int 286))) (eC (.int 5))) (aH 5))) (bI (fV 9 (eF (pS (aA (eC (.str "even")) (aA (eC (.str "ask")) (aA (eC (.str "row")) (aA (eC (.str "gets")) (aA (eC (.str "lack")) (aA (eC (.str "kept")) (aA (eC (.str "half")) (aA (eC (.str "land")) (aA (eC (.str "part")) (aA (eC (.str "custom")) (aA (eC (.str "basket")) (aA (eC (.str "refused")) aNil))))))))))))))) pB) sNext) fZ)
abbrev kA:Sv:=(bI (zAh (sP (aA (eOp kY (eOp nI (aH 3) (eC (.int 26))) (eC (.int 12))) aNil)) (gName 8) sD) eD)
abbrev kR:Sv:=(bI (fV 7 (eOp uZ (aH 2) (eOp kY (eOp qK (aH 3) (aH 5)) (eC (.int 26))))) kA)
abbrev fD:Sv:=(bI (fV 6 (eOp nI (aH 3) (eOp qK (aH 5) (eC (.int 1))))) kR)
abbrev jC:Sv:=(jO 4)
abbrev kN:Sv:=(bI (zAh (sP (aA (aH 1) aNil)) (gName 5) fD) jC)
abbrev kH:Sv:=(bI (zCy 4 (pS aNil)) kN)
abbrev jX:Sv:=(bI (fV 3 (eOp kY (bF bM (aA (aH 0) (aA (eC (.int 13)) aNil))) (eOp zX (eC (.int 10)) (eC (.int 30))))) kH)
def fP:Mir:=fn 2 10 (bI (fV 2 (eC (.str "abcdefghijklmnopqrstuvwxyz"))) jX)
def aQ:gH:=fnX "Reader" "called" 1 2 (zAL (lK (tmV (bD 0 "Reader" "called" "takes" aK (aA (aH 1) aNil)))) sNo sNext)
abbrev cP:Sv:=(wQ 0 "Reader" "spot" (eC (.int 1)))
abbrev lN:Sv:=(nD (zJL (cB 0 "Reader" "text") (oS (aH 2)) (oS (cB 0 "Reader" "spot"))))
abbrev gI:Sv:=(bI (whT (qR (lK (tmV (bD 0 "Reader" "called" "is_done" aP aNil))) (tmD (cM (eOp zDH (eOp uZ (cB 0 "Reader" "text") (cB 0 "Reader" "spot")) (aH 1))))) cP 100000) lN)
def aW:gH:=fnX "Reader" "called" 1 3 (bI (fV 2 (cB 0 "Reader" "spot")) gI)
def aJ:gH:=fnX "Reader" "called" 0 1 (mH (fnM dE (bD 0 "Reader" "called" "run_of" aW (aA (eC d_FIGURES) aNil))))
abbrev pE (r:Mir):Sv:=(fV 1 (eF (zJG (aH 1) (bF r (aA (aH 2) aNil)))))
abbrev pG (r:Mir):Sv:=(iS (aH 1))
abbrev pI (r:Mir):Sv:=(bI (zAh (zDJ (eOp oIx (aH 0) (eC (.int 2)))) (gName 2) (pE r)) (pG r))
abbrev oX (r:Mir):Sv:=(bI (fV 1 (eF (pS aNil))) (pI r))
def fU (r:Mir):Mir:=fn 1 3 (bI (sIf (cM (eOp oEq (eOp oIx (aH 0) (eC (.int 0))) (eC (.str "boat")))) (iS (eF (pS (aA (eOp oIx (aH 0) (eC (.int 1))) aNil)))) sNext) (oX r))
def dJ:Nat->Mir
 | 0=>fn 1 3 sNo
 | n+1=>fU (dJ n)
abbrev sB (r:Mir):Sv:=(zIt 1 (nL r (aA (aH 2) aNil)))
abbrev rQ (r:Mir):Sv:=(jO 1)
abbrev rA (r:Mir):Sv:=(bI (zAh (zDJ (bF bK (aA (aH 0) aNil))) (gName 2) (sB r)) (rQ r))
abbrev qZ (r:Mir):Sv:=(bI (zCy 1 (pS aNil)) (rA r))
def gS (r:Mir):Mir:=fn 1 3 (bI (sIf (cM (bF cA (aA (aH 0) aNil))) (zGs (pS (aA (eOp oIx (aH 0) (eC (.int 1))) aNil))) sNext) (qZ r))
def bH:Nat->Mir
 | 0=>fn 1 3 sNo
 | n+1=>gS (bH n)
def kF (r:Mir):Mir:=fn 1 1 (iS (eOp qK (eC (.int 1)) (eOp (fun x y=>wS [x,y]) (eF (zP (zDJ (bF bK (aA (aH 0) aNil))) zN (bF r (aA (aH 1) aNil)))) (eC (.int 0)))))
def fI:Nat->Mir
 | 0=>fn 1 1 sNo
 | n+1=>kF (fI n)
abbrev zEe:Sv:=(iS (aH 3))
abbrev zDq:Sv:=(bI (sIf (tL (cM (eOp oEq (eB mS (aA (aH 2) aNil)) (eC (.int 0)))) (tL (cM (eOp oGt (eB mS (aA (eF (nL (bH 10) (aA (aH 3) aNil))) aNil)) (eC d_MOST_BOATS))) (cM (eOp oGt (bF (fI 10) (aA (aH 3) aNil)) (eC d_DEEPEST))))) (iG "TooMany" (aA (eC (.str "no kid, or too many boats, or too deep")) aNil)) sNext) zEe)
abbrev zDr:Sv:=(bI (fV 3 (zDg (aA (aH 0) (aA (eB zEP (aA (aH 1) aNil)) (aA (eB zEP (aA (aH 2) aNil)) aNil))))) zDq)
abbrev zDm:Sv:=(bI (zCJ (bF cH (aA (aH 0) (aA (aH 1) (aA (eB mS (aA (aH 2) aNil)) aNil))))) zDr)
def kB:Mir:=fn 3 4 (bI (zCJ (bF eM (aA (aH 0) aNil))) zDm)
def fG:Mir:=fn 1 1 (iS (eB zHc (aA (eF (nL (bH 10) (aA (aH 0) aNil))) aNil)))
abbrev zAd:Sv:=(fV 3 (aH 5))
abbrev zAj:Sv:=(bI (zEL 2 (zJu (aH 1) (oS (aH 3)) (oS (aH 5)))) zAd)
abbrev pY:Sv:=(bI (fV 5 (eOp qK (aH 3) (eB mS (aA (eF (nL (bH 10) (aA (aH 4) aNil))) aNil)))) zAj)
abbrev zAi:Sv:=(jO 2)
abbrev zJ:Sv:=(bI (zAh (zDJ (bF bK (aA (aH 0) aNil))) (gName 4) pY) zAi)
abbrev zAn:Sv:=(bI (fV 3 (eC (.int 0))) zJ)
def iT:Mir:=fn 2 6 (bI (zCy 2 (pS aNil)) zAn)
abbrev dB:Sv:=(sIf (tL (lO (cM (bF iO (aA (aH 3) aNil)))) (cM (eOp oIn (aH 3) (zJu (aH 1) oN (oS (aH 2)))))) (iG "NoText" (aA (eC (.str "a name that is none, or is there twice")) aNil)) sNext)
abbrev mQ:Sv:=(zAh (zDB (aH 1)) (zDf (kG (gName 2) (kG (gName 3) zDc))) dB)
def aM:Mir:=fn 2 4 (bI (sIf (cM (eOp oNe (eB mS (aA (aH 1) aNil)) (eB mS (aA (eF (nL (bH 10) (aA (aH 0) aNil))) aNil)))) (iG "Unlike" (aA (eC (.str "not as many names as boats")) aNil)) sNext) mQ)
abbrev tW:Sv:=(fV 5 (eOp nI (aH 5) (eC (.int 3))))
abbrev uD:Sv:=(bI (zEL 3 (eOp qK (eC (.int 1)) (eOp kY (aH 5) (aH 4)))) tW)
abbrev uV:Sv:=(zAh (zDJ (aH 1)) (gName 6) uD)
abbrev sR:Sv:=(bI (fV 5 (eOp nI (aH 0) (eC (.int 24)))) uV)
abbrev hV:Sv:=(sFrzAt 3 (iS (bF kB (aA (aH 2) (aA (aH 3) (aA (aH 1) aNil))))))
abbrev mI:Sv:=(bI (sIf (cM (eOp oIn (aH 2) (zDg (aA (eC (.str "even")) (aA (eC (.str "lack")) aNil))))) (bI (fV 4 (eOp oIx (eF (pS (aA (eC (.int 3)) (aA (eC (.int 3)) (aA (eC (.int 3)) (aA (eOp zX (eC (.int 10)) (eC (.int 6))) aNil)))))) (eOp kY (eOp nI (aH 0) (eC (.int 6))) (eC (.int 4))))) sR) sNext) hV)
abbrev mG:Sv:=(bI (zCy 3 (pS aNil)) mI)
def dZ:Mir:=fn 2 7 (bI (fV 2 (eOp oIx (eF (pS (aA (eC (.str "even")) (aA (eC (.str "row")) (aA (eC (.str "lack")) (aA (eC (.str "half")) (aA (eC (.str "part")) (aA (eC (.str "back")) aNil)))))))) (eOp kY (aH 0) (eC (.int 6))))) mG)
abbrev nW:Sv:=(zCy 2 (zJK (zJG (eF (fSl (aH 2) oN (oS (eUn zJx (aH 8))))) (eF (pS (aA (bF dZ (aA (eOp nI (aH 7) (eC (.int 12))) (aA (eF (fSl (aH 2) (oS (eUn zJx (aH 8))) oN)) aNil))) aNil))))))
abbrev nB:Sv:=(bI (fV 8 (zJz (eOp qK (eC (.int 1)) (eOp kY (eOp nI (aH 7) (eC (.int 3))) (eB zHU (aA (eC (.int 4)) (aA (eB mS (aA (aH 2) aNil)) aNil))))))) nW)
abbrev oA:Sv:=(sIf (zBA (cM (eOp oEq (eOp kY (aH 7) (eC (.int 3))) (eC (.int 1)))) (cM (eOp oLt (aH 3) (eC (.int 5))))) (bI (fV 3 (eOp qK (aH 3) (eC (.int 1)))) nB) sNext)
abbrev nZ:Sv:=(bI (fV 7 (eOp kY (bF bM (aA (aH 0) (aA (eOp qK (eC (.int 7)) (aH 5)) aNil))) (eOp zX (eC (.int 10)) (eC (.int 30))))) oA)
abbrev oY:Sv:=(bI (zEL 2 (bF kO (aA (bF fR (aA (aH 6) (aA (eOp kY (eOp nI (aH 1) (eC (.int 6))) (eC (.int 3))) aNil))) aNil))) nZ)
abbrev gA:Sv:=(bI (fV 6 (eOp kY (bF bM (aA (aH 0) (aA (eOp qK (eC (.int 1)) (aH 5)) aNil))) (eOp zX (eC (.int 10)) (eC (.int 30))))) oY)
abbrev nQ:Sv:=(iS (eOp oIx (aH 2) (eC (.int 0))))
abbrev iD:Sv:=(sFrzAt 2 (bI (sIf (tL (cM (eOp oGt (eB mS (aA (aH 2) aNil)) (eC (.int 1)))) (cM (eOp oGt (eOp kY (eOp nI (aH 1) (eC (.int 18))) (eC (.int 4))) (eC (.int 0))))) (iS (bF dZ (aA (eOp nI (aH 1) (eC (.int 72))) (aA (aH 2) aNil)))) sNext) nQ))
abbrev eE:Sv:=(bI (zAh (sP (aA (aH 4) aNil)) (gName 5) gA) iD)
abbrev jE:Sv:=(bI (sIf (cM (eOp oEq (eOp kY (eOp nI (aH 1) (eC (.int 90))) (eC (.int 8))) (eC (.int 1)))) (fV 4 (eOp qK (aH 4) (eC (.int 6)))) sNext) eE)
abbrev jD:Sv:=(bI (fV 4 (eOp qK (eC (.int 1)) (eOp kY (aH 1) (eC (.int 6))))) jE)
abbrev jG:Sv:=(bI (fV 3 (eC (.int 0))) jD)
abbrev jA:Sv:=(bI (zCy 2 (pS aNil)) jG)
def eH:Mir:=fn 1 9 (bI (fV 1 (eOp kY (bF bM (aA (aH 0) (aA (eC (.int 0)) aNil))) (eOp zX (eC (.int 10)) (eC (.int 30))))) jA)
abbrev gD (r:Mir):Sv:=(sIf (lO (cM (bF r (aA (eOp oIx (aH 0) (aH 2)) (aA (eOp oIx (aH 1) (aH 2)) aNil))))) (iS (eC (.bl false))) sNext)
abbrev pC (r:Mir):Sv:=(iS (eC (.bl true)))
abbrev pA (r:Mir):Sv:=(bI (zAh (sP (aA (eB mS (aA (aH 1) aNil)) aNil)) (gName 2) (gD r)) (pC r))
abbrev rM (r:Mir):Sv:=(bI (sIf (cM (zDa "list" (aH 1))) (sIf (tL (lO (cM (zDa "list" (aH 0)))) (cM (eOp oNe (eB mS (aA (aH 0) aNil)) (eB mS (aA (aH 1) aNil))))) (iS (eC (.bl false))) sNext) (sIf (tL (lO (cM (zDa "tuple" (aH 0)))) (cM (eOp oNe (eB mS (aA (aH 0) aNil)) (eB mS (aA (aH 1) aNil))))) (iS (eC (.bl false))) sNext)) (pA r))
abbrev sH (r:Mir):Sv:=(bI (sIf (cM (zDa "int" (aH 1))) (iS (zFZ (bF fM (aA (aH 0) aNil)) (eOp oEq (aH 0) (aH 1)))) sNext) (rM r))
abbrev rG (r:Mir):Sv:=(bI (sIf (cM (zDa "str" (aH 1))) (iS (zFZ (zDa "str" (aH 0)) (eOp oEq (aH 0) (aH 1)))) sNext) (sH r))
def bY (r:Mir):Mir:=fn 2 3 (bI (sIf (cM (zHg (aH 1))) (iS (zHg (aH 0))) sNext) (rG r))
def aL:Nat->Mir
 | 0=>fn 2 3 sNo
 | n+1=>bY (aL n)
abbrev wU (r:Mir):Sv:=(iS (zHa (aA (aH 2) (aA (eC (.str ":")) (aA (aH 3) aNil)))))
abbrev vU (r:Mir):Sv:=(bI (fV 3 (bF fG (aA (aH 0) aNil))) (wU r))
abbrev tY (r:Mir):Sv:=(iS (zHa (aA (aH 5) (aA (eC (.str "(")) (aA (aH 6) (aA (eC (.str ")")) aNil))))))
abbrev vV (r:Mir):Sv:=(bI (fV 6 (zGT ", " (aH 4))) (tY r))
abbrev jJ (r:Mir):Sv:=(bI (fV 5 (bF gT (aA (aH 0) aNil))) (vV r))
abbrev nP (r:Mir):Sv:=(bI (sIf (cM (eOp oIn (bF gT (aA (aH 0) aNil)) (eC d_WEIGHTED))) (fV 4 (eF (qH (zJo (aA (bF dI (aA (aH 0) aNil)) (aA (aH 4) aNil))) (zHa (aA (aH 7) (aA (eC (.str " ")) (aA (aH 8) aNil))))))) sNext) (jJ r))
abbrev nO (r:Mir):Sv:=(bI (fV 4 (eF (qH (zJo (aA (bF bK (aA (aH 0) aNil)) (aA (eF (nL iT (aA (aH 0) (aA (aH 1) aNil)))) aNil))) (bF r (aA (aH 7) (aA (aH 8) aNil)))))) (nP r))
def gL (r:Mir):Mir:=fn 2 7 (bI (sIf (cM (bF cA (aA (aH 0) aNil))) (bI (fV 2 (eOp oIx (aH 1) (eC (.int 0)))) (vU r)) sNext) (nO r))
def cW:Nat->Mir
 | 0=>fn 2 7 sNo
 | n+1=>gL (cW n)
abbrev wH:Sv:=(iS (bF (cW 10) (aA (aH 0) (aA (aH 1) aNil))))
def dP:Mir:=fn 2 2 (bI (zCJ (bF aM (aA (aH 0) (aA (aH 1) aNil)))) wH)
abbrev cS (r:gH):Sv:=(iE (bD 0 "Reader" "called" "needs" aQ (aA (eC (.str " ")) aNil)))
abbrev eZ (r:gH):Sv:=(pD 5 (bD 0 "Reader" "called" "takes" aK (aA (eC (.str ", ")) aNil)))
abbrev cQ (r:gH):Sv:=(bI (lX 4 (bD 0 "Reader" "called" "next_custom" r (aA (eOp qK (aH 2) (eC (.int 1))) aNil))) (eZ r))
abbrev bL (r:gH):Sv:=(bI (sIf (cM (eOp oIn (aH 1) (eC d_WEIGHTED))) (bI (lX 3 (bD 0 "Reader" "called" "next_number" aJ aNil)) (cS r)) sNext) (cQ r))
abbrev eJ (r:gH):Sv:=(nD (bF kB (aA (aH 1) (aA (aH 3) (aA (aH 4) aNil)))))
abbrev eN (r:gH):Sv:=(sFrzAt 3 (sFrzAt 4 (bI (iE (bD 0 "Reader" "called" "needs" aQ (aA (eC (.str ")")) aNil))) (eJ r))))
abbrev iW (r:gH):Sv:=(bI (cZ (cM (aH 5)) (bL r)) (eN r))
abbrev iX (r:gH):Sv:=(bI (fV 5 (eC (.bl true))) (iW r))
abbrev eW (r:gH):Sv:=(bI (zCy 4 (pS aNil)) (iX r))
def bG (r:gH):gH:=fnX "Reader" "called" 2 6 (bI (zCy 3 (pS aNil)) (eW r))
abbrev gZ (r:gH):Sv:=(mH (fnM kO (bD 0 "Reader" "called" "next_number" aJ aNil)))
abbrev dX (r:gH):Sv:=(bI (zBu 0 "Reader" "called" (aH 2)) (gZ r))
abbrev cJ (r:gH):Sv:=(bI (iE (bD 0 "Reader" "called" "needs" aQ (aA (eC (.str ":")) aNil))) (dX r))
abbrev bT (r:gH):Sv:=(bI (zAL (tmV (bD 0 "Reader" "called" "takes" aK (aA (eC (.str "(")) aNil))) (mH (bD 0 "Reader" "called" "next_knot" (bG r) (aA (aH 2) (aA (aH 1) aNil)))) sNext) (cJ r))
abbrev bV (r:gH):Sv:=(bI (pD 2 (bD 0 "Reader" "called" "run_of" aW (aA (eC d_LETTERS) aNil))) (bT r))
def bJ (r:gH):gH:=fnX "Reader" "called" 1 3 (bI (sIf (cM (eOp oGt (aH 1) (eC d_DEEPEST))) sNo sNext) (bV r))
def aO:Nat->gH
 | 0=>fnX "Reader" "called" 1 3 sNo
 | n+1=>bJ (aO n)
abbrev xK:Sv:=(bI (iE (zIV 1 (bF aM (aA (aH 2) (aA (zGZ 1 "Reader" "called") aNil))))) sNext)
abbrev yQ:Sv:=(bI (zAL (lK (tmV (bD 1 "Reader" "called" "is_done" aP aNil))) sNo sNext) xK)
abbrev mX:Sv:=(bI (zDQ (pD 2 (bD 1 "Reader" "called" "next_custom" (aO 10) (aA (eC (.int 1)) aNil)))) yQ)
abbrev zDT:Sv:=(bI (zCk 1 "Reader" "called" nA (aA (aH 0) aNil)) mX)
def jZ:List D->Res (D×List D):=(kPr "Reader" "called" 1 3 1 2 zDT)
abbrev vY:Sv:=(sIf (cM (eOp oIn (eOp oIx (aH 2) (aH 3)) (eF (fSl (aH 2) oN (oS (aH 3)))))) (iS (eC (.bl true))) sNext)
abbrev sC:Sv:=(iS (bF (aL 20) (aA (bF (mPr jZ) (aA (aH 4) aNil)) (aA (zDg (aA (aH 1) (aA (aH 2) aNil))) aNil))))
abbrev zBm:Sv:=(zAf 5 jZ (aA (aH 4) aNil) (tL (lO (cM (bF (aL 20) (aA (aH 5) (aA (zDg (aA (aH 1) (aA (aH 2) aNil))) aNil))))) (cM (eOp oNe (bF dP (aA (eOp oIx (aH 5) (eC (.int 0))) (aA (eOp oIx (aH 5) (eC (.int 1))) aNil))) (aH 4)))) sC)
abbrev zBt:Sv:=(bI (fV 4 (bF dP (aA (aH 1) (aA (eF (zFK (aA (aH 2) aNil))) aNil)))) zBm)
abbrev zCg:Sv:=(bI (zAh (sP (aA (eB mS (aA (aH 2) aNil)) aNil)) (gName 3) vY) zBt)
abbrev zCe:Sv:=(bI (fV 2 (eF (nL fP (aA (aH 0) (aA (eB mS (aA (bF (dJ 10) (aA (aH 1) aNil)) aNil)) aNil))))) zCg)
def zFP:Mir:=fn 1 6 (bI (fV 1 (bF eH (aA (aH 0) aNil))) zCe)
end Lw
namespace Lw
open L3 PySem Fr Fq Ln
local macro_rules | `(tactic| walk_at "ev")=>do
 let ids:Array (Lean.TSyntax `term):=(("d_WEIGHTED d_BOAT d_MOST_BOATS d_DEEPEST d_LETTERS d_FIGURES fn_at eSlQ_at slQF slQE_at slQG_l slQG_t eFst_at eJoin_at enumF_t iZip_at iEnum_at enumF_l fComp2_at iStr_at chrD_s eSlS_at slSE slSF slSG slS_s eChain_at chA chB chnF_t chnF_f oAddS_s oIxS_0 oInS_s bLenS_s chO_s oEq_s oNe_s oTabNot_s L3.start sSeq_at seqF_nx seqF_ret sSet_at setF sOwn_at ownF sRet_at retF sRetF_at retFF sRetOwn_at retS sRetN sIf_at ifF_t ifF_f sNext sNo sDrop_at dropF dropG eVar_at varS eC eOp_at opF eUn eCall_at callF rtF eB eTup_at tupF aCons_at consF consG aNil tVal_at blF tNotB_at notF tAndB_at tandF_t tandF_f tOrB_at torF_t torF_f eAnd_at andF_t andF_f eOr_at orF_t orF_f eIf_at eifF_t eifF_f eF_at efF fLst_at fLstF fCall_at fcallF rtFF fList_at fListF_l fListF_t fComp_at fRep_at repF fCat_at catF catG eFrz_at frzF fFrz_at fFrzF oN oS_at oSF fSl_at fSlF fSlG fSlH eIsN_at isNF isNon sApp_at appS appF sExt_at extS extF sAug_at augS augF setG sUnp_at unpF nxF bSum_l bSum_t gTup_at gtF_t gCons_at gNil_at gName sFor_at forF iSeq_at seqD_l seqD_t iRng1_at sFrz sFrzAt frzAt okb erb Rt.d fin oAdd_i oSub_i oMul_i oDiv_i oMod_i oPow_i oEq_i oNe_i oLt_i oLe_i oGt_i oGe_i oIx_tc oNeg_i oNot_b bAbs_i bLen_t bLen_l bMin_i bTup_t bTup_l eIsT_at isTF isT ty_i ty_t ty_l ty_b ty_s ty_n ofO_some atD sRaise_at raiseF Sl.frz noErr dep depS noL noLs List.map_cons List.map_nil List.cons_append List.nil_append List.append_nil List.replicate List.length_cons List.length_nil List.getElem?_cons_zero List.getElem?_cons_succ List.set_cons_zero List.set_cons_succ Nat.reduceAdd Nat.reduceSub Nat.reduceLeDiff Nat.reduceEqDiff Nat.zero_add Nat.sub_self Nat.max_self Nat.zero_le if_true ite_true ite_false if_false Bool.false_eq_true Bool.not_true Bool.not_false reduceIte ite_self Int.toNat_zero Int.reduceToNat Int.reduceLE Int.reduceLT Int.le_refl decide_true decide_false Bool.or_true Bool.or_false Bool.true_or Bool.false_or Bool.and_true Bool.true_and Bool.and_false Bool.false_and String.reduceBEq String.reduceEq beq_self_eq_true ix_dq0 ix_dq1 ty_dq dep_dq noL_dq len_dq eq_dq oEq_dq oNe_dq List.length_map okDiv_lit okMul_litr okMul_litl okp9 okp30 p10 fdiv_pos fmod_pos Int.reduceEq Int.reduceNeg p10ne p10ne2 p10pos2 Int.reduceMul Int.reduceAdd Int.reduceSub Int.reduceDiv Int.reduceMod eqD Nat.reduceLT Nat.reducePow ne_eq not_true_eq_false not_false_eq_true".splitOn " ").map fun s=>⟨Lean.mkIdent s.toName⟩).toArray
 `(tactic| simp only [$[$ids:term],*])
def wys:List Str:=["row", "back", "even", "lack", "part", "half"]
def wOK (w:Str) (ws:List Int) (m:Nat):Prop:=(w = "even" ∨ w = "lack")/\ws.length=m/\(∀ x∈ws,1<=x/\x<=10^6)∨¬ (w = "even" ∨ w = "lack")/\ws=[]
def IsC:Nat->D->Prop
 | 0,_=>False
 | n+1,d=>(∃ c:Int,d=.tup [.str "boat", .int c])∨∃ (w:Str) (ws:List Int) (ks:List D),d=.tup [.str w,.tup (ws.map D.int),.tup ks]/\(w == "boat")=false/\0 < ks.length/\ks.length<=100/\ws.length<=100/\(w∈wys/\wOK w ws ks.length)/\∀ k∈ks,IsC n k
def clm:Nat->D->List Int
 | 0,_=>[]
 | n+1,d=>match d with
  | .tup [_,.int c]=>[c]
  | .tup [_,_,.tup ks]=>ks.flatMap (clm n)
  | _=>[]
def dpt:Nat->D->Int
 | 0,_=>0
 | n+1,d=>match d with
  | .tup [_,_,.tup ks]=>1+mx0 (ks.map (dpt n))
  | _=>1
theorem lS {c:Int}:cA [.tup [.str "boat", .int c]]=.ok (.v (.bl true)):=by
 unfold cA
 walk_at "ev"
theorem lB {w:Str} {a b:D} (h:(w == "boat")=false):cA [.tup [.str w,a,b]]=.ok (.v (.bl false)):=by
 unfold cA
 walk_at "ev"
 rw [h]
theorem zAo {c:Int}:bK [.tup [.str "boat", .int c]]=.ok (.v (.tup [])):=by
 unfold bK
 walk_at "ev"
 rw [lS]
 walk_at "ev"
theorem iV {w:Str} {a b:D} (h:(w == "boat")=false):bK [.tup [.str w,a,b]]=.ok (.v b):=by
 unfold bK
 walk_at "ev"
 rw [lB h]
 walk_at "ev"
theorem zEx {ks:List D} {n i:Nat}:((ks.take i).flatMap (clm n)).length<=(ks.flatMap (clm n)).length:=by
 conv=>rhs;rw [<-List.take_append_drop i ks,List.flatMap_append,List.length_append]
 exact Nat.le_add_right _ _
theorem zGk {ks:List D} {n:Nat} {k:D} (h:k∈ks):(clm n k).length<=(ks.flatMap (clm n)).length:=by
 obtain ⟨a,b,rfl⟩:=List.append_of_mem h
 rw [List.flatMap_append,List.flatMap_cons,List.length_append,List.length_append]
 omega
theorem fK:∀ (n:Nat) (d:D),IsC n d->(clm n d).length<=1000->bH n [d]=.ok (.f ((clm n d).map D.int))
 | 0,d,h,_=>h.elim
 | n+1,d,h,hl=>by
  show gS (bH n) [d]=_
  unfold gS
  walk_at "ev"
  rcases h with ⟨c,rfl⟩ | ⟨w,ws,ks,rfl,hw,k0,k1,w1,hy,hk⟩
  ·rw [lS]
   walk_at "ev"
   rfl
  ·rw [lB hw]
   walk_at "ev"
   rw [iV hw]
   walk_at "ev"
   refine lH (Q:=fun r=>r.bind fin=.ok (.f ((ks.flatMap (clm n)).map D.int))) (fun i ρ=>∃ a,ρ=[.val (.tup [.str w,.tup (ws.map D.int),.tup ks]),.own (((ks.take i).flatMap (clm n)).map D.int),a]) ⟨_,rfl⟩ ?_ ?_
   ·rintro i e ρ he ⟨a,rfl⟩
    have hm:=List.mem_of_getElem? he
    have hl':(ks.flatMap (clm n)).length<=1000:=hl
    have l1:=zGk (n:=n) hm
    have l2:=zEx (ks:=ks) (n:=n) (i:=i)
    walk_at "ev"
    rw [fK n e (hk e hm) (by omega)]
    walk_at "ev"
    rw [if_pos (by omega)]
    refine ⟨_,rfl,.val e,?_⟩
    rw [pR he,List.flatMap_append,List.map_append]
    simp [List.flatMap]
   ·rintro ρ' ⟨a,rfl⟩
    walk_at "ev"
    rw [List.take_length]
theorem mF:∀ (n:Nat) (d:D),IsC n d->(clm n d).length<=1000->dJ n [d]=.ok (.v (.lst ((clm n d).map D.int)))
 | 0,d,h,_=>h.elim
 | n+1,d,h,hl=>by
  show fU (dJ n) [d]=_
  unfold fU
  walk_at "ev"
  rcases h with ⟨c,rfl⟩ | ⟨w,ws,ks,rfl,hw,k0,k1,w1,hy,hk⟩
  ·walk_at "ev"
   rfl
  ·walk_at "ev"
   rw [hw]
   walk_at "ev"
   refine lH (Q:=fun r=>r.bind fin=.ok (.v (.lst ((ks.flatMap (clm n)).map D.int)))) (fun i ρ=>∃ a,ρ=[.val (.tup [.str w,.tup (ws.map D.int),.tup ks]),.val (.lst (((ks.take i).flatMap (clm n)).map D.int)),a]) ⟨_,rfl⟩ ?_ ?_
   ·rintro i e ρ he ⟨a,rfl⟩
    have hm:=List.mem_of_getElem? he
    have hl':(ks.flatMap (clm n)).length<=1000:=hl
    have l1:=zGk (n:=n) hm
    have l2:=zEx (ks:=ks) (n:=n) (i:=i)
    walk_at "ev"
    rw [mF n e (hk e hm) (by omega)]
    walk_at "ev"
    rw [if_pos (by omega)]
    walk_at "ev"
    refine ⟨_,rfl,.val e,?_⟩
    rw [pR he,List.flatMap_append,List.map_append]
    simp [List.flatMap]
   ·rintro ρ' ⟨a,rfl⟩
    walk_at "ev"
    rw [List.take_length]
theorem uX:∀ (n:Nat) (d:D),IsC n d->fI n [d]=.ok (.v (.int (dpt n d)))
 | 0,d,h=>h.elim
 | n+1,d,h=>by
  show kF (fI n) [d]=_
  unfold kF
  walk_at "ev"
  rcases h with ⟨c,rfl⟩ | ⟨w,ws,ks,rfl,hw,k0,k1,w1,hy,hk⟩
  ·rw [zAo]
   walk_at "ev"
   rfl
  ·rw [iV hw]
   walk_at "ev"
   have e:=yN (u:=fun k=>k) (g:=fun k=>.int (dpt n k)) (l:=ks) (f:=bF (fI n) (aA (aH 1) aNil)) (ρ:=[.val (.tup [.str w,.tup (ws.map D.int),.tup ks])]) (by omega) (fun k hm=>by
    walk_at "ev"
    rw [uX n k (hk k hm)]
    walk_at "ev")
   rw [List.map_id'] at e
   rw [e]
   walk_at "ev"
   rw [zBb]
   walk_at "ev"
   rfl
def dOK:Nat->D->Prop
 | 0,_=>False
 | n+1,d=>(∃ i,d=.int i)∨(∃ x,d=.str x)∨∃ ds,d=.tup ds/\ds.length<=1000/\∀ e∈ds,dOK n e
theorem zEf:∀ {n m:Nat} {d:D},dOK n d->n<=m->dOK m d
 | 0,_,_,h,_=>h.elim
 | n+1,0,_,_,l=>absurd l (by omega)
 | n+1,m+1,d,h,l=>by
  rcases h with h | h | ⟨ds,rfl,hl,he⟩
  ·exact .inl h
  ·exact .inr (.inl h)
  ·exact .inr (.inr ⟨ds,rfl,hl,fun e h=>zEf (he e h) (by omega)⟩)
theorem zCK:∀ (n:Nat) (d:D),IsC n d->dOK (2 * n+1) d
 | 0,d,h=>h.elim
 | n+1,d,h=>by
  rcases h with ⟨c,rfl⟩ | ⟨w,ws,ks,rfl,hw,k0,k1,w1,hy,hk⟩
  ·refine .inr (.inr ⟨_,rfl,by simp,fun e he=>?_⟩)
   rcases List.mem_cons.mp he with rfl | he
   ·exact .inr (.inl ⟨_,rfl⟩)
   ·rw [List.mem_singleton.mp he];exact .inl ⟨_,rfl⟩
  ·refine .inr (.inr ⟨_,rfl,by simp,fun e he=>?_⟩)
   rcases List.mem_cons.mp he with rfl | he
   ·exact .inr (.inl ⟨_,rfl⟩)
   ·rcases List.mem_cons.mp he with rfl | he
    ·refine .inr (.inr ⟨_,rfl,by rw [List.length_map];omega,fun x hx=>?_⟩)
     obtain ⟨i,_,rfl⟩:=List.mem_map.mp hx
     exact .inl ⟨_,rfl⟩
    ·rw [List.mem_singleton.mp he]
     exact .inr (.inr ⟨_,rfl,by omega,fun x hx=>zCK n x (hk x hx)⟩)
theorem wE:∀ (n:Nat) (d:D),dOK n d->noL d=true
 | 0,d,h=>h.elim
 | n+1,d,h=>by
  rcases h with ⟨i,rfl⟩ | ⟨x,rfl⟩ | ⟨ds,rfl,hl,he⟩
  ·simp [noL]
  ·simp [noL]
  ·rw [noL]
   clear hl
   induction ds with
   | nil=>rfl
   | cons a r ih=>rw [noLs,wE n a (he a List.mem_cons_self),ih fun e h=>he e (List.mem_cons_of_mem _ h)];rfl
theorem fA:∀ {n m:Nat} {d:D},IsC n d->n<=m->IsC m d
 | 0,_,_,h,_=>h.elim
 | n+1,0,_,_,l=>absurd l (by omega)
 | n+1,m+1,d,h,l=>by
  rcases h with h | ⟨w,ws,ks,rfl,hw,k0,k1,w1,hy,hk⟩
  ·exact .inl h
  ·exact .inr ⟨w,ws,ks,rfl,hw,k0,k1,w1,hy,fun k h=>fA (hk k h) (by omega)⟩
theorem eG:∀ {n m:Nat} {d:D},IsC n d->n<=m->clm m d=clm n d
 | 0,_,_,h,_=>h.elim
 | n+1,0,_,_,l=>absurd l (by omega)
 | n+1,m+1,d,h,l=>by
  rcases h with ⟨c,rfl⟩ | ⟨w,ws,ks,rfl,hw,k0,k1,w1,hy,hk⟩
  ·rfl
  ·show ks.flatMap (clm m)=ks.flatMap (clm n)
   rw [List.flatMap_def,List.flatMap_def]
   congr 1
   exact List.map_congr_left fun k h=>eG (hk k h) (by omega)
theorem zB:∀ {n m:Nat} {d:D},IsC n d->n<=m->dpt m d=dpt n d
 | 0,_,_,h,_=>h.elim
 | n+1,0,_,_,l=>absurd l (by omega)
 | n+1,m+1,d,h,l=>by
  rcases h with ⟨c,rfl⟩ | ⟨w,ws,ks,rfl,hw,k0,k1,w1,hy,hk⟩
  ·rfl
  ·show 1+mx0 (ks.map (dpt m))=1+mx0 (ks.map (dpt n))
   rw [List.map_congr_left fun k h=>zB (hk k h) (by omega)]
theorem zJe:∀ {l:List Int} {b:Int},0<=b->(∀ x∈l,x<=b)->mx0 l<=b
 | [],b,h,_=>h
 | a::r,b,_,h=>by
  have key:∀ (r:List Int) (a:Int),a<=b->(∀ x∈r,x<=b)->qY a r<=b:=by
   intro r
   induction r with
   | nil=>intro a ha _;exact ha
   | cons c r ih=>
    intro a ha hr
    rw [qY]
    refine ih _ ?_ fun x hx=>hr x (List.mem_cons_of_mem _ hx)
    split
    ·exact hr c List.mem_cons_self
    ·exact ha
  exact key r a (h a List.mem_cons_self) fun x hx=>h x (List.mem_cons_of_mem _ hx)
theorem zIC:∀ {l:List Int} {x:Int},x∈l->x<=mx0 l
 | [],_,h=>by cases h
 | a::r,x,h=>by
  have key:∀ (r:List Int) (a:Int),a<=qY a r/\∀ x∈r,x<=qY a r:=by
   intro r
   induction r with
   | nil=>intro a;exact ⟨Int.le_refl _,fun x h=>by cases h⟩
   | cons c r ih=>
    intro a
    rw [qY]
    have h1:=ih (if c > a then c else a)
    refine ⟨Int.le_trans ?_ h1.1,fun x hx=>?_⟩
    ·split<;>omega
    ·rcases List.mem_cons.mp hx with rfl | hx
     ·refine Int.le_trans ?_ h1.1;split<;>omega
     ·exact h1.2 x hx
  rcases List.mem_cons.mp h with rfl | h
  ·exact (key r x).1
  ·exact (key r a).2 x h
theorem zCP:∀ {n:Nat} {d:D},IsC n d->1<=dpt n d/\dpt n d<=n
 | 0,_,h=>h.elim
 | n+1,d,h=>by
  rcases h with ⟨c,rfl⟩ | ⟨w,ws,ks,rfl,hw,k0,k1,w1,hy,hk⟩
  ·exact ⟨by show (1:Int)<=1;omega,by show (1:Int)<=_;omega⟩
  ·have h1:mx0 (ks.map (dpt n))<=n:=zJe (by omega) fun x hx=>by
    obtain ⟨k,hk',rfl⟩:=List.mem_map.mp hx
    exact (zCP (hk k hk')).2
   have h2:0<=mx0 (ks.map (dpt n)):=by
    cases ks with
    | nil=>cases k0
    | cons k r=>exact Int.le_trans (by have:=(zCP (hk k List.mem_cons_self)).1;omega) (zIC (x:=dpt n k) (by simp))
   exact ⟨by show 1<=1+mx0 (ks.map (dpt n));omega,by show 1+mx0 (ks.map (dpt n))<=((n+1:Nat):Int);omega⟩
theorem zBk {w:Str} (h:w∈wys):(cO.lookup w).isSome=true/\(w == "boat")=false:=by
 simp only [wys,List.mem_cons,List.not_mem_nil,or_false] at h
 rcases h with rfl | rfl | rfl | rfl | rfl | rfl<;>decide
theorem uQ {w:Str} (h:w∈wys):eM [.str w]=.ok (.v .non):=by
 unfold eM
 walk_at "ev"
 rw [(zBk h).1]
 walk_at "ev"
theorem zDN {w:Str}:oIn (.str w) (.tup [.str "even", .str "lack"])=.ok (.bl (decide (w = "even" ∨ w = "lack"))):=by
 show (if depS [D.str "even", D.str "lack"]<=50 then Res.ok (D.bl (((Str.ofString "even")==w) || (((Str.ofString "lack")==w) || false))) else .no)=_
 rw [if_pos (by decide),Bool.or_false]
 congr 2
 by_cases h1:w = "even"
 ·subst h1;decide
 ·by_cases h2:w = "lack"
  ·subst h2;decide
  ·rw [decide_eq_false (fun h=>h.elim h1 h2),beq_eq_false_iff_ne.mpr (Ne.symm h1),beq_eq_false_iff_ne.mpr (Ne.symm h2)];rfl
theorem mW {w:Str} {ws:List Int} {m:Nat} {d:D} (hd:d=.lst (ws.map D.int)∨d=.tup (ws.map D.int)) (h:wOK w ws m):cH [.str w,d,.int m]=.ok (.v .non):=by
 have sq:zJN d=.ok (ws.map D.int):=by rcases hd with rfl | rfl<;>rfl
 have ln:mS [d]=.ok (.int (ws.length:Int)):=by rcases hd with rfl | rfl<;>simp [bLen_l,bLen_t]
 have fine:∀ x∈ws,1<=x/\x<=10^6:=by
  rcases h with ⟨_,_,h⟩ | ⟨_,rfl⟩
  ·exact h
  ·intro x hx;cases hx
 have rest:∀ a:Sl,(dN [.val (.str w),.val d,.val (.int m),a,.un]).bind fin=.ok (.v .non):=by
  intro a
  walk_at "ev"
  rw [sq]
  walk_at "ev"
  refine zGG (Q:=fun r:Res Rt=>r=.ok (.v .non)) (fun ρ=>∃ b,ρ=[.val (.str w),.val d,.val (.int m),a,b]) ⟨_,rfl⟩ ?_ ?_
  ·rintro e ρ he ⟨b,rfl⟩
   obtain ⟨x,hx,rfl⟩:=List.mem_map.mp he
   have hf:=fine x hx
   walk_at "ev"
   rw [decide_eq_false (by omega)]
   walk_at "ev"
   rw [oPow_i (by decide)]
   walk_at "ev"
   rw [decide_eq_false (by omega)]
   walk_at "ev"
   exact ⟨_,rfl,_,rfl⟩
  ·rintro ρ' ⟨b,rfl⟩
   rfl
 unfold cH
 walk_at "ev"
 rw [zDN]
 unfold fT
 generalize (dN:Sv)=K at rest ⊢
 rcases h with ⟨hw,hl,_⟩ | ⟨hw,rfl⟩
 ·rw [decide_eq_true hw]
  walk_at "ev"
  rw [ln]
  walk_at "ev"
  rw [hl]
  walk_at "ev"
  exact rest _
 ·rw [decide_eq_false hw]
  walk_at "ev"
  rw [ln]
  walk_at "ev"
  rw [show decide (((0:Nat):Int)=0)=true from rfl]
  walk_at "ev"
  exact rest _
theorem zED {c:Int} (h0:0<=c) (h1:c<=10^9):kO [.int c]=.ok (.v (.tup [.str "boat", .int c])):=by
 unfold kO
 walk_at "ev"
 rw [decide_eq_false (by omega)]
 walk_at "ev"
 rw [decide_eq_false (by omega)]
 walk_at "ev"
theorem zES {w:Str} {ws:List Int} {ks:List D} {n:Nat} {wd:D} (hd:wd=.lst (ws.map D.int)∨wd=.tup (ws.map D.int)) (hw:w∈wys) (hs:wOK w ws ks.length) (l1:ws.length<=100) (k0:0 < ks.length) (k1:ks.length<=100) (hn:n<=7) (hk:∀ k∈ks,IsC n k) (hc:(ks.flatMap (clm n)).length<=12):
  kB [.str w,wd,.lst ks]=.ok (.v (.tup [.str w,.tup (ws.map D.int),.tup ks]))/\IsC (n+1) (.tup [.str w,.tup (ws.map D.int),.tup ks]):=by
 have bt:zEP [wd]=.ok (.tup (ws.map D.int)):=by rcases hd with rfl | rfl<;>rfl
 have ic:IsC (n+1) (.tup [.str w,.tup (ws.map D.int),.tup ks]):=.inr ⟨w,ws,ks,rfl,(zBk hw).2,k0,k1,l1,⟨hw,hs⟩,hk⟩
 have ic':=fA ic (show n+1<=10 by omega)
 have ec:=eG ic (show n+1<=10 by omega)
 have lc:(clm 10 (.tup [.str w,.tup (ws.map D.int),.tup ks])).length<=12:=by rw [ec];exact hc
 have dd:dpt 10 (.tup [.str w,.tup (ws.map D.int),.tup ks])<=8:=by
  rw [zB ic (show n+1<=10 by omega)]
  have:=(zCP ic).2
  omega
 refine ⟨?_,ic⟩
 unfold kB
 walk_at "ev"
 rw [uQ hw]
 walk_at "ev"
 rw [mW hd hs]
 walk_at "ev"
 rw [bt]
 walk_at "ev"
 rw [decide_eq_false (by omega)]
 walk_at "ev"
 rw [fK 10 _ ic' (by omega)]
 walk_at "ev"
 rw [decide_eq_false (by omega)]
 walk_at "ev"
 rw [uX 10 _ ic']
 walk_at "ev"
 rw [decide_eq_false (by omega)]
 walk_at "ev"
structure Pl (L:List (D×Int)) (boats:Int):Prop where
 each:∀ p∈L,1<=p.2/\p.2<=7/\IsC p.2.toNat p.1
 few:((L.flatMap fun p=>clm 7 p.1).length:Int)<=boats
 most:boats<=12
theorem zCO:∀ {l:List D},(∀ d∈l,noL d=true)->noLs l=true
 | [],_=>rfl
 | a::r,h=>by rw [noLs,h a List.mem_cons_self,zCO fun d hd=>h d (List.mem_cons_of_mem _ hd)];rfl
theorem Pl.noL {L:List (D×Int)} {b:Int} (h:Pl L b):∀ d∈L.map Prod.fst,noL d=true:=fun d hd=>by
 obtain ⟨p,hp,rfl⟩:=List.mem_map.mp hd
 exact wE _ _ (zCK _ _ (h.each p hp).2.2)
theorem zEF:∀ {n:Nat} {d:D},dOK n d->dep d<=n
 | 0,_,h=>h.elim
 | n+1,d,h=>by
  rcases h with ⟨i,rfl⟩ | ⟨x,rfl⟩ | ⟨ds,rfl,hl,he⟩
  ·simp [dep]
  ·simp [dep]
  ·rw [dep]
   clear hl
   have:depS ds<=n:=by
    induction ds with
    | nil=>simp [depS]
    | cons a r ih=>
     rw [depS]
     exact Nat.max_le.mpr ⟨zEF (he a List.mem_cons_self),ih fun e h=>he e (List.mem_cons_of_mem _ h)⟩
   omega
theorem zGJ {n:Nat}:∀ {ds:List D},(∀ d∈ds,dOK n d)->depS ds<=n
 | [],_=>by simp [depS]
 | a::r,h=>by rw [depS];exact Nat.max_le.mpr ⟨zEF (h a List.mem_cons_self),zGJ fun e he=>h e (List.mem_cons_of_mem _ he)⟩
def ctr (w:Str):Str:=(cO.lookup w).getD w
theorem zFX {w:Str} (h:w∈wys):ctr w∈wys/\ctr (ctr w)=w/\((ctr w = "even" ∨ ctr w = "lack") ↔ (w = "even" ∨ w = "lack"))/\cO.lookup w=some (ctr w):=by
 simp only [wys,List.mem_cons,List.not_mem_nil,or_false] at h
 rcases h with rfl | rfl | rfl | rfl | rfl | rfl<;>decide
theorem yO {a:D} {l:List D}:gT [.tup (a::l)]=.ok (.v a):=by
 unfold gT
 walk_at "ev"
theorem sU {a b:D} {l:List D}:dI [.tup (a::b::l)]=.ok (.v b):=by
 unfold dI
 walk_at "ev"
def con:Nat->D->D
 | 0,d=>d
 | n+1,d=>match d with
  | .tup [.str w,ws,.tup ks]=>.tup [.str (ctr w),ws,.tup (ks.map (con n))]
  | d=>d
theorem zFQ:∀ (n:Nat) (d:D),IsC n d->con n (con n d)=d
 | 0,_,h=>h.elim
 | n+1,d,h=>by
  rcases h with ⟨c,rfl⟩ | ⟨w,ws,ks,rfl,hw,k0,k1,w1,hy,hk⟩
  ·rfl
  ·show D.tup [.str (ctr (ctr w)),.tup (ws.map D.int),.tup ((ks.map (con n)).map (con n))]=_
   rw [(zFX hy.1).2.1,List.map_map]
   rw [List.map_congr_left (f:=con n ∘ con n) (g:=id) fun k h=>zFQ n k (hk k h),List.map_id]
theorem fB (ns:List Int) (k:Int) (h:0<=k):bM [.lst (ns.map D.int),.int k]=.ok (.v (.int (ns.getD k.toNat 0))):=by
 unfold bM
 walk_at "ev"
 by_cases c:k < (ns.length:Int)
 ·rw [decide_eq_true c]
  walk_at "ev"
  have hk:k.toNat < ns.length:=by omega
  rw [pZ h (List.getElem?_eq_getElem hk),List.getD_eq_getElem?_getD,List.getElem?_eq_getElem hk]
  rfl
 ·rw [decide_eq_false c]
  walk_at "ev"
  rw [List.getD_eq_getElem?_getD,List.getElem?_eq_none (by omega)]
  rfl
theorem nE {x y:Str} (hl:y.length<=1000):dG [.str x,.str y]=.ok (.v (.bl (y.cps.toList.all fun c=>inS ⟨#[c]⟩ x))):=by
 unfold dG
 walk_at "ev"
 rw [yN (u:=fun c=>.str ⟨#[c]⟩) (g:=fun c=>.bl (inS ⟨#[c]⟩ x)) (by rw [Array.length_toList];show y.length<=16777215;omega) (fun c _=>by walk_at "ev")]
 walk_at "ev"
 rw [zDK]
 walk_at "ev"
abbrev abc:Str:=Str.ofString "abcdefghijklmnopqrstuvwxyz"
def lts (x:Str):Bool:=x.cps.toList.all fun c=>inS ⟨#[c]⟩ abc
def isN (x:Str):Bool:=decide (1<=x.length/\x.length<=12) && lts x
theorem zAF {x:Str} (hl:x.length<=1000):iO [.str x]=.ok (.v (.bl (isN x))):=by
 have hz:x.length<=sizeLine:=Nat.le_trans hl (by decide)
 unfold iO isN
 walk_at "ev"
 rw [if_pos hz]
 walk_at "ev"
 by_cases c1:(1:Int)<=(x.length:Int)
 ·rw [decide_eq_true c1]
  walk_at "ev"
  by_cases c2:(x.length:Int)<=12
  ·rw [decide_eq_true c2,decide_eq_true (show 1<=x.length/\x.length<=12 by omega)]
   walk_at "ev"
   rw [nE hl]
   walk_at "ev"
   rfl
  ·rw [decide_eq_false c2,decide_eq_false (show ¬ (1<=x.length/\x.length<=12) by omega)]
   walk_at "ev"
 ·rw [decide_eq_false c1,decide_eq_false (show ¬ (1<=x.length/\x.length<=12) by omega)]
  walk_at "ev"
def mP (ns:List Str) (k:Nat):Bool:=!isN (ns.getD k Str.empty) || (ns.take k).any fun y=>y==ns.getD k Str.empty
theorem kJ {g:Gv} {b:Sv} {r0:Res Fl} (hr:(∃ c,r0=.err c)∨∃ r,r0=.ok (.ret r)) (P:Rho->Prop):∀ (ds:List D) (j:Nat) (bad:Nat->Bool) (ρ:Rho),P ρ->
  (∀ i d ρ,ds[i]?=some d->P ρ->(bad (j+i)=false->∃ ρ1 ρ2,g d ρ=.ok ρ1/\b ρ1=.ok (.nx ρ2)/\P ρ2)/\(bad (j+i)=true->∃ ρ1,g d ρ=.ok ρ1/\b ρ1=r0))->
  ((∃ i,i < ds.length/\bad (j+i)=true)->loop g b ds ρ=r0)/\((∀ i,i < ds.length->bad (j+i)=false)->∃ ρ',loop g b ds ρ=.ok (.nx ρ')/\P ρ')
 | [],j,bad,ρ,h0,st=>⟨fun ⟨i,h,_⟩=>absurd h (Nat.not_lt_zero _),fun _=>⟨ρ,rfl,h0⟩⟩
 | d::ds,j,bad,ρ,h0,st=>by
  obtain ⟨s1,s2⟩:=st 0 d ρ rfl h0
  rw [Nat.add_zero] at s1 s2
  cases hb:bad j with
  | true=>
   obtain ⟨ρ1,e1,e2⟩:=s2 hb
   refine ⟨fun _=>?_,fun h=>?_⟩
   ·rw [loop]
    simp only [e1,Res.bind,e2]
    rcases hr with ⟨c,rfl⟩ | ⟨r,rfl⟩<;>rfl
   ·have:=h 0 (Nat.succ_pos _)
    rw [Nat.add_zero,hb] at this;cases this
  | false=>
   obtain ⟨ρ1,ρ2,e1,e2,p2⟩:=s1 hb
   have ih:=kJ hr P ds (j+1) bad ρ2 p2 (fun i d ρ hd hp=>by
    have:=st (i+1) d ρ hd hp
    rw [show j+1+i=j+(i+1) by omega]
    exact this)
   rw [vD e1 e2]
   refine ⟨fun ⟨i,hi,hbi⟩=>ih.1 ?_,fun h=>ih.2 fun i hi=>?_⟩
   ·cases i with
    | zero=>rw [Nat.add_zero,hb] at hbi;cases hbi
    | succ i=>exact ⟨i,Nat.lt_of_succ_lt_succ hi,by rw [show j+1+i=j+(i+1) by omega];exact hbi⟩
   ·rw [show j+1+i=j+(i+1) by omega]
    exact h (i+1) (Nat.succ_lt_succ hi)
theorem yE:∀ {ds:List D} {n i:Nat} {d:D},(iB n ds)[i]?=some d->∃ a,ds[i]?=some a/\d=.tup [.int ((n+i:Nat):Int),a]
 | a::r,n,0,d,h=>by cases h;exact ⟨a,rfl,rfl⟩
 | a::r,n,i+1,d,h=>by
  obtain ⟨b,h1,h2⟩:=yE (ds:=r) (n:=n+1) (i:=i) h
  exact ⟨b,h1,by rw [h2];congr 4;omega⟩
 | [],n,i,d,h=>by cases i<;>cases h
theorem yA:∀ (ds:List D) (n:Nat),(iB n ds).length=ds.length
 | a::r,n=>by simp only [iB,List.length_cons,yA r (n+1)]
 | [],n=>rfl
def Nms (ns:List Str):Prop:=ns.length<=100/\∀ x∈ns,x.length<=1000
theorem yH:∀ ns:List Str,depS (ns.map D.str)<=0
 | []=>Nat.le_refl _
 | a::l=>by rw [List.map_cons];show max 0 (depS (l.map D.str))<=0;have:=yH l;omega
theorem zAZ {x:Str} {ns:List Str} {d:D} (hd:d=.lst (ns.map D.str)∨d=.tup (ns.map D.str)):oIn (.str x) d=.ok (.bl (ns.any fun y=>y==x)):=by
 have e:depS (ns.map D.str)<=50:=Nat.le_trans (yH ns) (by decide)
 rcases hd with rfl | rfl
 ·show (if depS (ns.map D.str)<=50 then Res.ok (D.bl ((ns.map D.str).any fun e=>eqD e (.str x))) else .no)=_
  rw [if_pos e,List.any_map]
  congr 2
 ·show (if depS (ns.map D.str)<=50 then Res.ok (D.bl ((ns.map D.str).any fun e=>eqD e (.str x))) else .no)=_
  rw [if_pos e,List.any_map]
  congr 2
def pO (ns:List Str):Prop:=∃ i,i < ns.length/\mP ns i=true
theorem zCb {ns:List Str} (h:¬ pO ns):∀ i,i < ns.length->mP ns i=false:=fun i hi=>by
 cases q:mP ns i with
 | false=>rfl
 | true=>exact absurd ⟨i,hi,q⟩ h
theorem zBI {ns:List Str} {i:Nat} {x:Str} (h:ns[i]?=some x):ns.getD i Str.empty=x:=by rw [List.getD_eq_getElem?_getD,h];rfl
theorem pK {d nd:D} {ns:List Str} (hd:nd=.lst (ns.map D.str)∨nd=.tup (ns.map D.str)) (hn:Nms ns) (ic:IsC 10 d) (hl:(clm 10 d).length<=1000):
  (ns.length≠(clm 10 d).length->aM [d,nd]=.err "Unlike")/\(ns.length=(clm 10 d).length->pO ns->aM [d,nd]=.err "NoText")/\(ns.length=(clm 10 d).length->¬ pO ns->aM [d,nd]=.ok (.v .non)):=by
 have ln:mS [nd]=.ok (.int ns.length):=by rcases hd with rfl | rfl<;>(walk_at "ev")
 have en:zDl nd=.ok (iB 0 (ns.map D.str)):=by rcases hd with rfl | rfl<;>rfl
 have sl:∀ k:Nat,k < ns.length->∃ sd,zGu nd none (some (k:Int))=.ok sd/\(sd=.lst ((ns.take k).map D.str)∨sd=.tup ((ns.take k).map D.str)):=by
  intro k hk
  have e:cV (ns.map D.str) none (some (k:Int))=(ns.take k).map D.str:=by rw [xE (by omega),<-List.map_take];rfl
  rcases hd with rfl | rfl
  ·exact ⟨_,by rw [slQG_l,e],.inl rfl⟩
  ·exact ⟨_,by rw [slQG_t,e],.inr rfl⟩
 have key:=kJ (g:=zDf (kG (gName 2) (kG (gName 3) zDc))) (b:=dB) (r0:=.err "NoText") (.inl ⟨_,rfl⟩) (fun ρ=>∃ a b,ρ=[.val d,.val nd,a,b]) (iB 0 (ns.map D.str)) 0 (mP ns) [.val d,.val nd,.un,.un] ⟨_,_,rfl⟩ (by
  rintro i e ρ he ⟨a,b,rfl⟩
  obtain ⟨x,hx,rfl⟩:=yE he
  rw [List.getElem?_map] at hx
  cases q:ns[i]? with
  | none=>rw [q] at hx;cases hx
  | some y=>
   rw [q] at hx
   cases hx
   have hi:=(List.getElem?_eq_some_iff.mp q).1
   have hy:=hn.2 y (List.mem_of_getElem? q)
   obtain ⟨sd,e1,e2⟩:=sl i hi
   rw [Nat.zero_add]
   have bd:mP ns i=(!isN y || (ns.take i).any fun z=>z==y):=by unfold mP;rw [zBI q]
   have run:dB [.val d,.val nd,.val (.int (i:Int)),.val (.str y)]=if mP ns i=true then .err "NoText" else .ok (.nx [.val d,.val nd,.val (.int (i:Int)),.val (.str y)]):=by
    rw [bd]
    walk_at "ev"
    rw [zAF hy]
    walk_at "ev"
    cases z:isN y with
    | false=>walk_at "ev"
    | true=>
     walk_at "ev"
     rw [e1]
     walk_at "ev"
     rw [zAZ e2]
     walk_at "ev"
     cases z2:(ns.take i).any fun z=>z==y with
     | true=>walk_at "ev"
     | false=>walk_at "ev"
   refine ⟨fun h=>⟨[.val d,.val nd,.val (.int (i:Int)),.val (.str y)],_,rfl,by rw [run,h];rfl,_,_,rfl⟩,fun h=>⟨[.val d,.val nd,.val (.int (i:Int)),.val (.str y)],rfl,by rw [run,h];rfl⟩⟩)
 simp only [Nat.zero_add,yA,List.length_map] at key
 have start:aM [d,nd]=if ns.length≠(clm 10 d).length then .err "Unlike" else ((loop (zDf (kG (gName 2) (kG (gName 3) zDc))) dB (iB 0 (ns.map D.str)) [.val d,.val nd,.un,.un]).bind fin):=by
  unfold aM
  walk_at "ev"
  rw [ln]
  walk_at "ev"
  rw [fK 10 d ic hl]
  walk_at "ev"
  by_cases c:ns.length=(clm 10 d).length
  ·rw [decide_eq_true (by omega),if_neg (fun z=>z c)]
   walk_at "ev"
   rw [en]
   walk_at "ev"
  ·rw [decide_eq_false (by omega),if_pos c]
   walk_at "ev"
 refine ⟨fun h=>by rw [start,if_pos h],fun h hb=>?_,fun h hb=>?_⟩
 ·rw [start,if_neg (fun z=>z h),key.1 hb];rfl
 ·obtain ⟨ρ',e,a,b,rfl⟩:=key.2 (zCb hb)
  rw [start,if_neg (fun z=>z h),e];rfl
theorem zGM (x:Str):Str.empty++x=x:=by
 show (⟨#[]++x.cps⟩:Str)=x
 rw [Array.empty_append]
abbrev glu (l:List Str):Str:=Builtin.Str.glued (Str.ofString ", ") l
theorem zGC (x:Str):glu [x]=x:=rfl
theorem zJB {l:List Str} (x:Str) (h:l≠[]):glu (l++[x])=glu l++Str.ofString ", " ++ x:=by
 cases l with
 | nil=>exact absurd rfl h
 | cons a r=>
  show (⟨(r++[x]).foldl (fun acc p=>acc++(Str.ofString ", ").cps++p.cps) a.cps⟩:Str)=⟨r.foldl (fun acc p=>acc++(Str.ofString ", ").cps++p.cps) a.cps++(Str.ofString ", ").cps++x.cps⟩
  rw [List.foldl_append]
  rfl
def oW (l:List Str):Nat:=(l.map fun x=>x.length+2).sum
theorem zJI (l m:List Str):oW (l++m)=oW l+oW m:=by unfold oW;rw [List.map_append,List.sum_append]
theorem xZ:∀ (l:List Str) (n:Nat),l.foldl (fun n x=>n+x.length+(Str.ofString ", ").length) n=n+oW l
 | [],n=>rfl
 | x::l,n=>by
  rw [List.foldl_cons,xZ l]
  show n+x.length+2+oW l=n+((x.length+2)+oW l)
  omega
theorem zBW:∀ l:List Str,(glu l).length<=oW l:=by
 intro l
 suffices h:∀ (r:List Str) (a:Array Nat),(r.foldl (fun acc p=>acc++(Str.ofString ", ").cps++p.cps) a).size<=a.size+oW r by
  cases l with
  | nil=>exact Nat.zero_le _
  | cons a r=>
   have:=h r a.cps
   show (r.foldl _ a.cps).size<=(a.cps.size+2)+oW r
   omega
 intro r
 induction r with
 | nil=>intro a;exact Nat.le_refl _
 | cons x r ih=>
  intro a
  refine Nat.le_trans (ih _) ?_
  rw [Array.size_append,Array.size_append]
  show a.size+2+x.length+oW r<=a.size+((x.length+2)+oW r)
  omega
def hU (f:D->List Str->Str) (m:D->Nat):List D->List Str->List Str
 | [],_=>[]
 | k::r,ns=>f k ns::hU f m r (ns.drop (m k))
theorem kT (f:D->List Str->Str) (m:D->Nat):∀ (ks:List D) (ns:List Str),(hU f m ks ns).length=ks.length
 | [],_=>rfl
 | k::r,ns=>by simp only [hU,List.length_cons,kT f m r]
def ofs (m:D->Nat) (ks:List D) (i:Nat):Nat:=((ks.take i).map m).sum
theorem zFj {f:D->List Str->Str} {m:D->Nat}:∀ {ks:List D} {ns:List Str} {i:Nat} {k:D},ks[i]?=some k->(hU f m ks ns)[i]?=some (f k (ns.drop (ofs m ks i)))
 | [],ns,i,k,h=>by cases i<;>cases h
 | a::r,ns,0,k,h=>by cases h;rfl
 | a::r,ns,i+1,k,h=>by
  have:=zFj (f:=f) (m:=m) (ks:=r) (ns:=ns.drop (m a)) (i:=i) h
  show (hU f m r (ns.drop (m a)))[i]?=some (f k (ns.drop (m a+ofs m r i)))
  rw [this,List.drop_drop]
def zIP:D->Str
 | .int i=>toString i
 | _=>Str.empty
def isW (w:Str):Prop:=w = "even" ∨ w = "lack"
instance (w:Str):Decidable (isW w):=inferInstanceAs (Decidable (_∨_))
def pts (w:Str) (ws:List D) (ts:List Str):List Str:=if isW w then List.zipWith (fun x t=>zIP x++Str.ofString " " ++ t) ws ts else ts
def txt:Nat->D->List Str->Str
 | 0,_,_=>Str.empty
 | n+1,d,ns=>match d with
  | .tup [_,.int c]=>ns.headD Str.empty++Str.ofString ":" ++ toString c
  | .tup [.str w,.tup ws,.tup ks]=>w++Str.ofString "(" ++ glu (pts w ws (hU (txt n) (fun k=>(clm n k).length) ks ns))++Str.ofString ")"
  | _=>Str.empty
theorem xH:∀ {n:Nat} {d:D},IsC n d->1<=(clm n d).length
 | 0,d,h=>h.elim
 | n+1,d,h=>by
  rcases h with ⟨c,rfl⟩ | ⟨w,ws,ks,rfl,hw,k0,k1,w1,hy,hk⟩
  ·exact Nat.le_refl 1
  ·show 1<=(ks.flatMap (clm n)).length
   cases ks with
   | nil=>cases k0
   | cons k r=>
    have:=xH (hk k List.mem_cons_self)
    rw [List.flatMap_cons,List.length_append]
    omega
theorem kZ:∀ {n:Nat} {ks:List D},(∀ k∈ks,IsC n k)->ks.length<=(ks.flatMap (clm n)).length
 | n,[],_=>Nat.le_refl _
 | n,k::r,h=>by
  have a:=xH (h k List.mem_cons_self)
  have b:=kZ (ks:=r) fun x hx=>h x (List.mem_cons_of_mem _ hx)
  rw [List.flatMap_cons,List.length_append,List.length_cons]
  omega
def Clm (cs:List Int):Prop:=∀ c∈cs,0<=c/\c<=10^9
theorem sI {c:Int} {k:Nat} (h0:0<=c) (hk:0 < k) (h:c < 10^k):(Str.ofString (toString c)).length<=k:=PyProof.Rows.toString_length_le h0 hk h
theorem zAX {c:Int} (h0:0<=c) (h:c<=10^9):c.natAbs.log2 < 1920:=by
 by_cases z:c.natAbs=0
 ·rw [z];decide
 ·refine (Nat.log2_lt z).mpr ?_
  have:c.natAbs < 2^64:=by omega
  exact Nat.lt_of_lt_of_le this (Nat.pow_le_pow_right (by decide) (by decide))
theorem zGp {ws:List Int}:∀ {ts:List Str},(∀ x∈ws,1<=x/\x<=10^6)->ws.length=ts.length->oW (List.zipWith (fun x t=>zIP x++Str.ofString " " ++ t) (ws.map D.int) ts)<=(ts.map (·.length)).sum+10 * ts.length:=by
 induction ws with
 | nil=>intro ts _ _;exact Nat.zero_le _
 | cons w ws ih=>
  intro ts h hl
  cases ts with
  | nil=>exact Nat.zero_le _
  | cons t ts=>
   have a:=ih (ts:=ts) (fun x hx=>h x (List.mem_cons_of_mem _ hx)) (by simpa using hl)
   have b:=h w List.mem_cons_self
   have c:(Str.ofString (toString w)).length<=7:=sI (by omega) (by decide) (by omega)
   show (zIP (.int w)++Str.ofString " " ++ t).length+2+oW _<=(t.length+(ts.map (·.length)).sum)+10 * (ts.length+1)
   rw [strLen_append,strLen_append]
   show (Str.ofString (toString w)).length+1+t.length+2+oW _<=_
   omega
theorem zAW {w:Str} {ws:List Int} {ts:List Str} (h:wOK w ws ts.length):oW (pts w (ws.map D.int) ts)<=(ts.map (·.length)).sum+10 * ts.length:=by
 unfold pts
 rcases h with ⟨h1,h2,h3⟩ | ⟨h1,h2⟩
 ·rw [if_pos (show isW w from h1)];exact zGp h3 h2
 ·rw [if_neg (show ¬ isW w from h1)]
  have:∀ l:List Str,oW l=(l.map (·.length)).sum+2 * l.length:=by
   intro l
   induction l with
   | nil=>rfl
   | cons a l ih=>show a.length+2+oW l=_;rw [ih,List.map_cons,List.sum_cons,List.length_cons];omega
  rw [this];omega
theorem zGA {w:Str} {ws:List Int} {ts:List Str} (h:wOK w ws ts.length):(pts w (ws.map D.int) ts).length=ts.length:=by
 unfold pts
 rcases h with ⟨h1,h2,h3⟩ | ⟨h1,h2⟩
 ·rw [if_pos (show isW w from h1),List.length_zipWith,List.length_map,h2];omega
 ·rw [if_neg (show ¬ isW w from h1)]
theorem zBQ {w:Str} (h:w∈wys):w.length<=4:=by
 simp only [wys,List.mem_cons,List.not_mem_nil,or_false] at h
 rcases h with rfl | rfl | rfl | rfl | rfl | rfl<;>decide
theorem wX:∀ (n:Nat) (d:D) (ns:List Str),IsC n d->Clm (clm n d)->(∀ x∈ns,x.length<=12)->(txt n d ns).length<=60 * n * (clm n d).length
 | 0,d,ns,h,_,_=>h.elim
 | n+1,d,ns,h,hc,hn=>by
  rcases h with ⟨c,rfl⟩ | ⟨w,ws,ks,rfl,hw,k0,k1,w1,⟨hy,hok⟩,hk⟩
  ·have b:=hc c (List.mem_singleton.mpr rfl)
   have l:=sI (c:=c) (k:=10) b.1 (by decide) (by omega)
   have hd:(ns.headD Str.empty).length<=12:=by
    cases ns with
    | nil=>exact Nat.zero_le _
    | cons a r=>exact hn a List.mem_cons_self
   show (ns.headD Str.empty++Str.ofString ":" ++ Str.ofString (toString c)).length<=60 * (n+1) * 1
   rw [strLen_append,strLen_append]
   have:(Str.ofString ":").length=1:=by decide
   omega
  ·have kl:=kT (txt n) (fun k=>(clm n k).length) ks ns
   have sp:=zAW (w:=w) (ws:=ws) (ts:=hU (txt n) (fun k=>(clm n k).length) ks ns) (by rw [kl];exact hok)
   have ll:=kZ hk
   have go:∀ (ks:List D) (ns:List Str),(∀ k∈ks,IsC n k)->Clm (ks.flatMap (clm n))->(∀ x∈ns,x.length<=12)->((hU (txt n) (fun k=>(clm n k).length) ks ns).map (·.length)).sum<=60 * n * (ks.flatMap (clm n)).length:=by
    intro ks
    induction ks with
    | nil=>intro ns _ _ _;exact Nat.zero_le _
    | cons k r ih=>
     intro ns h1 h2 h3
     have a:=wX n k ns (h1 k List.mem_cons_self) (fun c hc=>h2 c (by rw [List.flatMap_cons];exact List.mem_append_left _ hc)) h3
     have b:=ih (ns.drop (clm n k).length) (fun x hx=>h1 x (List.mem_cons_of_mem _ hx)) (fun c hc=>h2 c (by rw [List.flatMap_cons];exact List.mem_append_right _ hc)) (fun x hx=>h3 x (List.mem_of_mem_drop hx))
     rw [hU,List.map_cons,List.sum_cons,List.flatMap_cons,List.length_append,Nat.mul_add]
     omega
   have g:=go ks ns hk hc hn
   have gl:=zBW (pts w (ws.map D.int) (hU (txt n) (fun k=>(clm n k).length) ks ns))
   have wl:=zBQ hy
   show (w++Str.ofString "(" ++ glu (pts w (ws.map D.int) (hU (txt n) (fun k=>(clm n k).length) ks ns))++Str.ofString ")").length<=60 * (n+1) * (ks.flatMap (clm n)).length
   rw [strLen_append,strLen_append,strLen_append]
   have e1:(Str.ofString "(").length=1:=by decide
   have e2:(Str.ofString ")").length=1:=by decide
   rw [kl] at sp
   have e3:60 * (n+1) * (ks.flatMap (clm n)).length=60 * n * (ks.flatMap (clm n)).length+60 * (ks.flatMap (clm n)).length:=by rw [Nat.mul_add,Nat.add_mul]
   omega
theorem zAQ {n:Nat} (pre:∀ (d:D) (ns:List Str) (m:Nat),IsC n d->(clm n d).length<=m->txt n d (ns.take m)=txt n d ns):∀ (ks:List D) (ns:List Str) (m:Nat),(∀ k∈ks,IsC n k)->(ks.flatMap (clm n)).length<=m->
  hU (txt n) (fun k=>(clm n k).length) ks (ns.take m)=hU (txt n) (fun k=>(clm n k).length) ks ns
 | [],ns,m,_,_=>rfl
 | k::r,ns,m,h,hl=>by
  rw [List.flatMap_cons,List.length_append] at hl
  show txt n k (ns.take m)::hU _ _ r ((ns.take m).drop (clm n k).length)=txt n k ns::hU _ _ r (ns.drop (clm n k).length)
  rw [pre k ns m (h k List.mem_cons_self) (by omega),List.drop_take,zAQ pre r _ _ (fun x hx=>h x (List.mem_cons_of_mem _ hx)) (by omega)]
theorem zBy:∀ (n:Nat) (d:D) (ns:List Str) (m:Nat),IsC n d->(clm n d).length<=m->txt n d (ns.take m)=txt n d ns
 | 0,d,ns,m,h,_=>h.elim
 | n+1,d,ns,m,h,hl=>by
  rcases h with ⟨c,rfl⟩ | ⟨w,ws,ks,rfl,hw,k0,k1,w1,⟨hy,hok⟩,hk⟩
  ·have hm:1<=m:=hl
   show (ns.take m).headD Str.empty++_++_=ns.headD Str.empty++_++_
   cases ns with
   | nil=>rw [List.take_nil]
   | cons a r=>
    cases m with
    | zero=>omega
    | succ m=>rfl
  ·show w++_++glu (pts w (ws.map D.int) (hU (txt n) (fun k=>(clm n k).length) ks (ns.take m)))++_=_
   rw [zAQ (fun d ns m h hl=>zBy n d ns m h hl) ks ns m hk hl]
   rfl
theorem zIb {l:List Str} {i:Nat} {x:Str} (h:l[i]?=some x):l.take (i+1)=l.take i++[x]:=by
 rw [List.take_add_one,h];rfl
theorem zLk {a b:Nat} (ha:a<=30000) (hb:b<=30000):a+b<=sizeLine:=Nat.le_trans (Nat.add_le_add ha hb) (by decide)
theorem lap {x y:Str} {a b:Nat} (c:Nat) (hx:x.length<=a) (hy:y.length<=b) (h:a+b<=c):(x++y).length<=c:=by rw [strLen_append];exact Nat.le_trans (Nat.add_le_add hx hy) h
theorem fit {a b:Nat} (h:a+b<=100000):a+b<=sizeLine:=Nat.le_trans h (by decide)
theorem zBJ {n:Nat}:∀ (ks:List D) (ns:List Str),(∀ k∈ks,IsC n k)->Clm (ks.flatMap (clm n))->(∀ x∈ns,x.length<=12)->((hU (txt n) (fun k=>(clm n k).length) ks ns).map (·.length)).sum<=60 * n * (ks.flatMap (clm n)).length
 | [],ns,_,_,_=>Nat.zero_le _
 | k::r,ns,h1,h2,h3=>by
  have a:=wX n k ns (h1 k List.mem_cons_self) (fun c hc=>h2 c (by rw [List.flatMap_cons];exact List.mem_append_left _ hc)) h3
  have b:=zBJ r (ns.drop (clm n k).length) (fun x hx=>h1 x (List.mem_cons_of_mem _ hx)) (fun c hc=>h2 c (by rw [List.flatMap_cons];exact List.mem_append_right _ hc)) (fun x hx=>h3 x (List.mem_of_mem_drop hx))
  rw [hU,List.map_cons,List.sum_cons,List.flatMap_cons,List.length_append,Nat.mul_add]
  omega
def mkN (kd:Bool) (l:List Str):D:=if kd then .lst (l.map D.str) else .tup (l.map D.str)
def zDd (m:D->Nat):List D->List Str->List (List Str)
 | [],_=>[]
 | k::r,ns=>ns.take (m k)::zDd m r (ns.drop (m k))
theorem zKe {kd:Bool} {ns:List Str} {a b:Nat}:zGu (mkN kd ns) (some (a:Int)) (some ((a+b:Nat):Int))=.ok (mkN kd ((ns.drop a).take b)):=by
 have e:cV (ns.map D.str) (some (a:Int)) (some ((a+b:Nat):Int))=((ns.drop a).take b).map D.str:=by
  rw [zCY (by omega) (by omega),<-List.map_drop,<-List.map_take,Int.toNat_natCast,Int.toNat_natCast,Nat.add_sub_cancel_left]
 cases kd
 ·show zGu (.tup (ns.map D.str)) _ _=.ok (.tup _)
  rw [slQG_t,e]
 ·show zGu (.lst (ns.map D.str)) _ _=.ok (.lst _)
  rw [slQG_l,e]
theorem zCw {n:Nat} {d:D} {kd:Bool} {ns:List Str} (hn:n<=8):∀ (ks:List D) (st:Nat) (acc:List D) (a b:Sl),(∀ k∈ks,IsC n k)->(ks.flatMap (clm n)).length<=12->acc.length+ks.length<=1000->
  ∃ s' a' b',loop (gName 4) pY ks [.val d,.val (mkN kd ns),.own acc,.val (.int (st:Int)),a,b]=.ok (.nx [.val d,.val (mkN kd ns),.own (acc++(zDd (fun k=>(clm n k).length) ks (ns.drop st)).map (mkN kd)),s',a',b'])
 | [],st,acc,a,b,_,_,_=>⟨.val (.int (st:Int)),a,b,by rw [loop];simp [zDd]⟩
 | k::r,st,acc,a,b,h,hl,hz=>by
  rw [List.flatMap_cons,List.length_append] at hl
  rw [List.length_cons] at hz
  have ick:=h k List.mem_cons_self
  have cl:=fK 10 k (fA ick (by omega)) (by rw [eG ick (show n<=10 by omega)];omega)
  rw [eG ick (show n<=10 by omega)] at cl
  obtain ⟨s',a',b',e⟩:=zCw (d:=d) (kd:=kd) (ns:=ns) hn r (st+(clm n k).length) (acc++[mkN kd ((ns.drop st).take (clm n k).length)]) (.val k) (.val (.int ((st+(clm n k).length:Nat):Int))) (fun x hx=>h x (List.mem_cons_of_mem _ hx)) (by omega) (by rw [List.length_append,List.length_singleton];omega)
  refine ⟨s',a',b',?_⟩
  rw [vD (ρ1:=[.val d,.val (mkN kd ns),.own acc,.val (.int (st:Int)),.val k,b]) (ρ2:=[.val d,.val (mkN kd ns),.own (acc++[mkN kd ((ns.drop st).take (clm n k).length)]),.val (.int ((st+(clm n k).length:Nat):Int)),.val k,.val (.int ((st+(clm n k).length:Nat):Int))]) rfl,e]
  ·rw [zDd,List.map_cons,List.append_assoc,List.drop_drop];rfl
  ·walk_at "ev"
   rw [cl]
   walk_at "ev"
   rw [<-Int.natCast_add,zKe]
   walk_at "ev"
   rw [if_pos (by omega)]
   walk_at "ev"
theorem zDx {n:Nat} {w:Str} {x:D} {ks:List D} {kd:Bool} {ns:List Str} (hw:(w == "boat")=false) (hn:n<=8) (hk:∀ k∈ks,IsC n k) (hl:(ks.flatMap (clm n)).length<=12):
  iT [.tup [.str w,x,.tup ks],mkN kd ns]=.ok (.f ((zDd (fun k=>(clm n k).length) ks ns).map (mkN kd))):=by
 have kl:=kZ hk
 obtain ⟨s',a',b',e⟩:=zCw (d:=.tup [.str w,x,.tup ks]) (kd:=kd) (ns:=ns) hn ks 0 [] .un .un hk hl (by rw [List.length_nil];omega)
 unfold iT
 walk_at "ev"
 rw [iV hw]
 walk_at "ev"
 rw [show (0:Int)=((0:Nat):Int) from rfl,e]
 rfl
theorem zE {d:D} (h:IsC 10 d) (hl:(clm 10 d).length<=1000):fG [d]=.ok (.v (.int (clm 10 d).sum)):=by
 unfold fG
 walk_at "ev"
 rw [fK 10 d h hl]
 walk_at "ev"
theorem zBc {m:D->Nat}:∀ {ks:List D} {ns:List Str} {p:D×List Str},(ks.map m).sum<=ns.length->p∈ks.zip (zDd m ks ns)->p.1∈ks/\p.2.length=m p.1/\∀ x∈p.2,x∈ns
 | [],ns,p,_,h=>by cases h
 | k::r,ns,p,hl,h=>by
  rw [List.map_cons,List.sum_cons] at hl
  rw [zDd,List.zip_cons_cons] at h
  rcases List.mem_cons.mp h with rfl | h
  ·exact ⟨List.mem_cons_self,by show (ns.take (m k)).length=m k;rw [List.length_take];omega,fun x hx=>List.mem_of_mem_take hx⟩
  ·have:=zBc (ks:=r) (by rw [List.length_drop];omega) h
   exact ⟨List.mem_cons_of_mem _ this.1,this.2.1,fun x hx=>List.mem_of_mem_drop (this.2.2 x hx)⟩
theorem zCM {n:Nat}:∀ {ks:List D} {ns:List Str},(∀ k∈ks,IsC n k)->(ks.zip (zDd (fun k=>(clm n k).length) ks ns)).map (fun p=>D.str (txt n p.1 p.2))=(hU (txt n) (fun k=>(clm n k).length) ks ns).map D.str
 | [],ns,_=>rfl
 | k::r,ns,h=>by
  rw [zDd,List.zip_cons_cons,List.map_cons,hU,List.map_cons,zCM fun x hx=>h x (List.mem_cons_of_mem _ hx),zBy n k ns _ (h k List.mem_cons_self) (Nat.le_refl _)]
theorem zCR:∀ {ws:List Int} {ts:List Str},(ws.zip ts).map (fun p=>D.str (toString p.1++Str.ofString " " ++ p.2))=(List.zipWith (fun x t=>zIP x++Str.ofString " " ++ t) (ws.map D.int) ts).map D.str
 | [],ts=>by cases ts<;>rfl
 | w::ws,[]=>rfl
 | w::ws,t::ts=>by
  rw [List.zip_cons_cons,List.map_cons,List.map_cons,List.zipWith_cons_cons,List.map_cons,zCR]
  rfl
theorem zC:∀ l:List Str,mM (l.map D.str)=some l
 | []=>rfl
 | x::l=>by rw [List.map_cons,mM,zC l];rfl
theorem zEi {sep:Str} {ds:List D} {l:List Str} (h:mM ds=some l) (hz:l.foldl (fun n x=>n+x.length+sep.length) 0<=sizeLine):uO sep (.lst ds)=.ok (.str (Builtin.Str.glued sep l)):=by
 unfold uO
 simp only [h]
 rw [if_pos hz]
theorem zDE {l:List Str} (h:oW l<=100000):uO (Str.ofString ", ") (.lst (l.map D.str))=.ok (.str (glu l)):=
 zEi (zC l) (by rw [xZ];exact Nat.le_trans (show 0+oW l<=100000 by omega) (by decide))
theorem mB {a x:Str} {r:List D} {m:Nat} (ha:a.length<=30000) (hx:x.length<=m) (hm:m<=30000):sQ a (.str x::r)=sQ (a++x) r:=by
 have z:(30000:Nat)<=sizeLine:=by decide
 show (if x.length<=sizeLine/\(a++x).length<=sizeLine then sQ (a++x) r else none)=_
 rw [if_pos ⟨Nat.le_trans hx (Nat.le_trans hm z),by rw [strLen_append];exact zLk ha (Nat.le_trans hx hm)⟩]
theorem zIA {a:Str} {i:Int} {r:List D} (hl:i.natAbs.log2 < 1920) (ha:a.length<=30000) (hi:(Str.ofString (toString i)).length<=10):sQ a (.int i::r)=sQ (a++toString i) r:=by
 rw [sQ]
 simp only [zFk,hl,if_true]
 rw [if_pos]
 refine ⟨Nat.le_trans hi (by decide),?_⟩
 show (a++Str.ofString (toString i)).length<=sizeLine
 rw [strLen_append]
 exact zLk ha (Nat.le_trans hi (by decide))
theorem zCG {ds:List D} {x:Str} (h:sQ Str.empty ds=some x):zIz ds=.ok (.str x):=by unfold zIz;rw [h]
theorem zCD {t:Str}:∀ {ts:List Str},t∈ts->t.length<=(ts.map (·.length)).sum
 | [],h=>by cases h
 | a::r,h=>by
  rw [List.map_cons,List.sum_cons]
  rcases List.mem_cons.mp h with rfl | h
  ·omega
  ·have:=zCD h;omega
theorem tK:∀ (n m:Nat) (d:D) (kd:Bool) (ns:List Str),IsC n d->n<=m->n<=8->Clm (clm n d)->(clm n d).length<=12->(∀ x∈ns,x.length<=12)->ns.length=(clm n d).length->
  cW m [d,mkN kd ns]=.ok (.v (.str (txt n d ns)))
 | 0,m,d,kd,ns,h,_,_,_,_,_,_=>h.elim
 | n+1,0,d,kd,ns,h,hm,_,_,_,_,_=>absurd hm (Nat.not_succ_le_zero n)
 | n+1,m+1,d,kd,ns,h,hm,h8,hc,hl,hn,ha=>by
  have n8:n<=8:=Nat.le_of_succ_le h8
  have nm:n<=m:=Nat.le_of_succ_le_succ hm
  have ic10:=fA h (Nat.le_trans h8 (show 8<=10 by decide))
  rcases h with ⟨c,rfl⟩ | ⟨w,ws,ks,rfl,hw,k0,k1,w1,⟨hy,hok⟩,hk⟩
  ·have b:=hc c (List.mem_singleton.mpr rfl)
   have l:=sI (c:=c) (k:=10) b.1 (by decide) (Int.lt_of_le_of_lt b.2 (by decide))
   have co:=zE ic10 (by show 1<=1000;decide)
   rw [show (clm 10 (.tup [.str "boat", .int c])).sum=c from Int.add_zero c] at co
   cases ns with
   | nil=>cases ha
   | cons x r=>
    have lx:=hn x List.mem_cons_self
    have ix:oIx (mkN kd (x::r)) (.int 0)=.ok (.str x):=by cases kd<;>rfl
    have e1:(Str.ofString ":").length<=1:=by decide
    have e0:Str.empty.length<=30000:=by decide
    show gL (cW m) _=_
    unfold gL
    walk_at "ev"
    rw [lS]
    walk_at "ev"
    rw [ix]
    walk_at "ev"
    rw [co]
    walk_at "ev"
    rw [zCG (x:=x++Str.ofString ":" ++ toString c) (by rw [mB e0 lx (by decide),zGM,mB (Nat.le_trans lx (by decide)) e1 (by decide),zIA (zAX b.1 b.2) (lap 30000 lx e1 (by decide)) l];rfl)]
    walk_at "ev"
    rfl
  ·have cl:(clm (n+1) (.tup [.str w,.tup (ws.map D.int),.tup ks])).length=(ks.flatMap (clm n)).length:=rfl
   rw [cl] at ha hl
   have kl:=kT (txt n) (fun k=>(clm n k).length) ks ns
   have ksum:=zBJ ks ns hk hc hn
   have zc:=zCM (n:=n) (ks:=ks) (ns:=ns) hk
   have te:txt (n+1) (.tup [.str w,.tup (ws.map D.int),.tup ks]) ns=w++Str.ofString "(" ++ glu (pts w (ws.map D.int) (hU (txt n) (fun k=>(clm n k).length) ks ns))++Str.ofString ")" := rfl
   rw [te]
   generalize hU (txt n) (fun k=>(clm n k).length) ks ns=ts at kl ksum zc
   have hok':wOK w ws ts.length:=by rw [kl];exact hok
   have ll:=kZ hk
   have gsum:oW (pts w (ws.map D.int) ts)<=6000:=by
    have a:=zAW hok'
    have:60 * n * (ks.flatMap (clm n)).length<=60 * 8 * 12:=Nat.mul_le_mul (Nat.mul_le_mul_left 60 n8) hl
    omega
   have tsl:∀ t∈ts,t.length<=6000:=fun t ht=>by
    have a:t.length<=(ts.map (·.length)).sum:=zCD ht
    have:60 * n * (ks.flatMap (clm n)).length<=60 * 8 * 12:=Nat.mul_le_mul (Nat.mul_le_mul_left 60 n8) hl
    omega
   have sml:(ks.map fun k=>(clm n k).length).sum=(ks.flatMap (clm n)).length:=by rw [List.length_flatMap]
   have c1:=uJ (u:=fun k:D=>k) (v:=mkN kd) (l:=ks) (m:=zDd (fun k=>(clm n k).length) ks ns) (f:=bF (cW m) (aA (aH 7) (aA (aH 8) aNil))) (ρ:=[.val (.tup [.str w,.tup (ws.map D.int),.tup ks]),.val (mkN kd ns),.un,.un,.un,.un,.un]) (g:=fun k o=>.str (txt n k o)) (Nat.le_trans k1 (by decide)) (fun p hp=>by
    obtain ⟨p1,p2,p3⟩:=zBc (by rw [sml];exact Nat.le_of_eq ha.symm) hp
    have ih:=tK n m p.1 kd p.2 (hk _ p1) nm n8 (fun c h=>hc c (List.mem_flatMap.mpr ⟨p.1,p1,h⟩)) (Nat.le_trans (zGk (n:=n) p1) hl) (fun x hx=>hn x (p3 x hx)) p2
    walk_at "ev"
    rw [ih]
    walk_at "ev")
   rw [zc,List.map_id'] at c1
   have wl:=zBQ hy
   have gl:=Nat.le_trans (zBW (pts w (ws.map D.int) ts)) gsum
   have e1:(Str.ofString "(").length<=1:=by decide
   have e2:(Str.ofString ")").length<=1:=by decide
   have e3:(Str.ofString " ").length<=1:=by decide
   have e0:Str.empty.length<=30000:=by decide
   have last:∀ a:Sl,jJ (cW m) [.val (.tup [.str w,.tup (ws.map D.int),.tup ks]),.val (mkN kd ns),.un,.un,.val (.lst ((pts w (ws.map D.int) ts).map D.str)),.un,.un]=.ok (.ret (.v (.str (w++Str.ofString "(" ++ glu (pts w (ws.map D.int) ts)++Str.ofString ")")))):=by
    intro a
    walk_at "ev"
    rw [yO]
    walk_at "ev"
    rw [zDE (Nat.le_trans gsum (by decide))]
    walk_at "ev"
    rw [zCG (x:=w++Str.ofString "(" ++ glu (pts w (ws.map D.int) ts)++Str.ofString ")") (by rw [mB e0 wl (by decide),zGM,mB (Nat.le_trans wl (by decide)) e1 (by decide),mB (lap 30000 wl e1 (by decide)) gl (by decide),mB (lap 30000 (lap 5 wl e1 (by decide)) gl (by decide)) e2 (by decide)];rfl)]
    walk_at "ev"
   show gL (cW m) _=_
   unfold gL nO nP
   generalize hK:(jJ (cW m):Sv)=K at last
   walk_at "ev"
   rw [lB hw]
   walk_at "ev"
   rw [iV hw]
   walk_at "ev"
   rw [zDx hw n8 hk hl]
   walk_at "ev"
   rw [zAK rfl rfl]
   walk_at "ev"
   rw [c1]
   walk_at "ev"
   rw [yO]
   walk_at "ev"
   rw [zDN]
   by_cases iw:w = "even" ∨ w = "lack"
   ·have iw':isW w:=iw
    have wk:∀ x∈ws,1<=x/\x<=10^6:=by
     rcases hok' with ⟨_,_,h3⟩ | ⟨h1,_⟩
     ·exact h3
     ·exact absurd iw h1
    have c2:=uJ (u:=D.int) (v:=D.str) (l:=ws) (m:=ts) (f:=zHa (aA (aH 7) (aA (eC (.str " ")) (aA (aH 8) aNil)))) (ρ:=[.val (.tup [.str w,.tup (ws.map D.int),.tup ks]),.val (mkN kd ns),.un,.un,.val (.lst (ts.map D.str)),.un,.un]) (g:=fun x t=>.str (toString x++Str.ofString " " ++ t)) (Nat.le_trans w1 (by decide)) (fun p hp=>by
     have b:=wk _ (List.of_mem_zip hp).1
     have tl:=tsl _ (List.of_mem_zip hp).2
     have p0:(0:Int)<=p.1:=Int.le_trans (by decide) b.1
     have lx:(Str.ofString (toString p.1)).length<=7:=sI p0 (by decide) (Int.lt_of_le_of_lt b.2 (by decide))
     walk_at "ev"
     rw [zCG (x:=toString p.1++Str.ofString " " ++ p.2) (by
      rw [zIA (zAX p0 (Int.le_trans b.2 (by decide))) e0 (Nat.le_trans lx (by decide)),zGM,mB (show (Str.ofString (toString p.1)).length<=30000 from Nat.le_trans lx (by decide)) e3 (by decide),mB (lap (x:=Str.ofString (toString p.1)) 30000 lx e3 (by decide)) tl (by decide)];rfl)])
    rw [zCR] at c2
    have ep:pts w (ws.map D.int) ts=List.zipWith (fun x t=>zIP x++Str.ofString " " ++ t) (ws.map D.int) ts:=by unfold pts;rw [if_pos iw']
    rw [decide_eq_true iw]
    walk_at "ev"
    rw [sU]
    walk_at "ev"
    rw [zAK rfl rfl]
    walk_at "ev"
    rw [c2,<-ep]
    walk_at "ev"
    rw [last .un]
    walk_at "ev"
   ·have ep:pts w (ws.map D.int) ts=ts:=by unfold pts;rw [if_neg (show ¬ isW w from iw)]
    rw [decide_eq_false iw]
    walk_at "ev"
    rw [ep] at last ⊢
    rw [last .un]
    walk_at "ev"
theorem zIh {ns:List Str} (hb:¬ pO ns):∀ x∈ns,x.length<=12:=fun x hx=>by
 obtain ⟨i,hi,rfl⟩:=List.getElem_of_mem hx
 have:=zCb hb i hi
 unfold mP at this
 rw [zBI (List.getElem?_eq_getElem hi),Bool.or_eq_false_iff] at this
 have h1:=this.1
 unfold isN at h1
 simp only [Bool.not_eq_false',Bool.and_eq_true,decide_eq_true_eq] at h1
 exact h1.1.2
theorem zT {ds:List D} {m:Nat} (h0:0 < m) (h:m<=ds.length):cV ds none (some (-(m:Int)))=ds.take (ds.length - m):=by
 unfold cV cut
 simp only [show ¬ (0<=-(m:Int)) by omega,if_false,List.drop_zero,Nat.sub_zero]
 rw [show ((ds.length:Int)+-(m:Int)).toNat=ds.length - m by omega]
theorem zAg {ds:List D} {m:Nat} (h0:0 < m) (h:m<=ds.length):cV ds (some (-(m:Int))) none=ds.drop (ds.length - m):=by
 unfold cV cut
 simp only [show ¬ (0<=-(m:Int)) by omega,if_false]
 rw [show ((ds.length:Int)+-(m:Int)).toNat=ds.length - m by omega,List.take_of_length_le (by rw [List.length_drop];omega)]
theorem zFI {x m:Int} (h:0 < m) (hm:m<=10^9+1):0<=x % m/\x % m<=10^9:=by
 have a:=Int.emod_nonneg x (Int.ne_of_gt h)
 have b:=Int.emod_lt_of_pos x h
 omega
theorem vR {cell kind:Int} (h:0<=cell) (hk:0<=kind):∃ c:Int,fR [.int cell,.int kind]=.ok (.v (.int c))/\0<=c/\c<=10^9:=by
 have d0:0<=cell / 91 % 60 * 10^6/\cell / 91 % 60 * 10^6<=10^9:=by
  have a:=Int.emod_nonneg (cell / 91) (show (60:Int)≠0 by decide)
  have b:=Int.emod_lt_of_pos (cell / 91) (show (0:Int) < 60 by decide)
  omega
 have i0:0<=(kind+cell % 7 / 5) % 4:=Int.emod_nonneg _ (by decide)
 have i1:(kind+cell % 7 / 5) % 4 < 4:=Int.emod_lt_of_pos _ (by decide)
 have hi:((kind+cell % 7 / 5) % 4).toNat < [cell / 7 % 13,cell / 7 % 4,cell / 7 % (10^9+1),cell / 91 % 60 * 10^6].length:=(Int.toNat_lt i0).mpr i1
 have all:∀ x∈[cell / 7 % 13,cell / 7 % 4,cell / 7 % (10^9+1),cell / 91 % 60 * 10^6],0<=x/\x<=10^9:=fun x hx=>by
  simp only [List.mem_cons,List.not_mem_nil,or_false] at hx
  rcases hx with rfl | rfl | rfl | rfl
  ·exact zFI (by decide) (by decide)
  ·exact zFI (by decide) (by decide)
  ·exact zFI (by decide) (by decide)
  ·exact d0
 have ix:=pZ (f:=D.int) i0 (List.getElem?_eq_getElem hi)
 have bd:=all _ (List.getElem_mem hi)
 generalize ([cell / 7 % 13,cell / 7 % 4,cell / 7 % (10^9+1),cell / 91 % 60 * 10^6])[((kind+cell % 7 / 5) % 4).toNat]=c at ix bd
 unfold fR
 walk_at "ev"
 rw [oMod_i (by decide),fmod_pos _ (by decide)]
 walk_at "ev"
 rw [oPow_i (by decide)]
 walk_at "ev"
 rw [oMul_i (okMul_litr (by decide) (by decide))]
 walk_at "ev"
 refine ⟨c,?_,bd⟩
 rw [show oIx (.lst [.int (cell / 7 % 13),.int (cell / 7 % 4),.int (cell / 7 % (10^9+1)),.int (cell / 91 % 60 * 10^6)]) (.int ((kind+cell % 7 / 5) % 4))=.ok (.int c) from ix]
 walk_at "ev"
def zJv:List Str:=[Str.ofString "even", Str.ofString "row", Str.ofString "lack", Str.ofString "half", Str.ofString "part", Str.ofString "back"]
theorem zIp {k:Int} (h0:0<=k) (h1:k < 6):∃ w∈wys,oIx (.lst [.str "even", .str "row", .str "lack", .str "half", .str "part", .str "back"]) (.int k)=.ok (.str w):=by
 have hk:k.toNat < zJv.length:=(Int.toNat_lt h0).mpr h1
 have all:∀ x∈zJv,x∈wys:=by decide
 exact ⟨zJv[k.toNat],all _ (List.getElem_mem hk),pZ (f:=D.str) (l:=zJv) h0 (List.getElem?_eq_getElem hk)⟩
theorem fm8 {n:Nat} {ks:List D} (hk:∀ k∈ks,IsC n k) (hn:n<=8):ks.flatMap (clm 8)=ks.flatMap (clm n):=by
 rw [List.flatMap_def,List.map_congr_left fun p hp=>eG (hk p hp) hn,<-List.flatMap_def]
theorem qO {cell:Int} {ks:List D} {n:Nat} (h0:0<=cell) (k0:0 < ks.length) (hn:n<=7) (hk:∀ k∈ks,IsC n k) (hc:(ks.flatMap (clm 8)).length<=12):
  ∃ d,dZ [.int cell,.lst ks]=.ok (.v d)/\IsC (n+1) d/\clm 8 d=ks.flatMap (clm 8):=by
 rw [fm8 hk (by omega)] at hc ⊢
 have kl:=kZ hk
 obtain ⟨w,hw,ew⟩:=zIp (k:=cell % 6) (Int.emod_nonneg _ (by decide)) (Int.emod_lt_of_pos _ (by decide))
 have fin':∀ (ws:List Int) (a4 a5 a6:Sl),wOK w ws ks.length->ws.length<=100->∃ d,(hV [.val (.int cell),.val (.lst ks),.val (.str w),.own (ws.map D.int),a4,a5,a6]).bind fin=.ok (.v d)/\IsC (n+1) d/\clm 8 d=ks.flatMap (clm n):=by
  intro ws a4 a5 a6 hs hl
  obtain ⟨e,ic⟩:=zES (wd:=.lst (ws.map D.int)) (.inl rfl) hw hs hl k0 (by omega) hn hk hc
  refine ⟨_,?_,ic,?_⟩
  rotate_left
  ·rw [eG ic (by omega)];rfl
  ·walk_at "ev"
   rw [e]
   walk_at "ev"
 unfold dZ mG mI
 generalize hK:(hV:Sv)=K at fin'
 walk_at "ev"
 rw [ew]
 walk_at "ev"
 rw [zDN]
 by_cases iw:w = "even" ∨ w = "lack"
 ·rw [decide_eq_true iw]
  walk_at "ev"
  have q0:0<=cell / 6 % 4:=Int.emod_nonneg _ (by decide)
  have q1:cell / 6 % 4 < 4:=Int.emod_lt_of_pos _ (by decide)
  rw [oPow_i (by decide)]
  walk_at "ev"
  obtain ⟨most,em,m0,m1⟩:∃ most:Int,oIx (.lst [.int 3,.int 3,.int 3,.int (10^6)]) (.int (cell / 6 % 4))=.ok (.int most)/\1<=most/\most<=10^6:=by
   generalize cell / 6 % 4=k at q0 q1
   rcases (show k=0∨k=1∨k=2∨k=3 by omega) with rfl | rfl | rfl | rfl<;>exact ⟨_,rfl,by decide,by decide⟩
  rw [em]
  walk_at "ev"
  refine lH (Q:=fun r=>∃ d,r.bind fin=.ok (.v d)/\IsC (n+1) d/\clm 8 d=ks.flatMap (clm n)) (k:=zGO K)
   (fun i ρ=>∃ (ws:List Int) (rest:Int) (a:Sl),ρ=[.val (.int cell),.val (.lst ks),.val (.str w),.own (ws.map D.int),.val (.int most),.val (.int rest),a]/\ws.length=i/\(∀ x∈ws,1<=x/\x<=10^6)/\0<=rest) ⟨[],cell / 24,.un,rfl,rfl,(fun x h=>by cases h),Int.ediv_nonneg h0 (by decide)⟩ ?_ ?_
  ·rintro i d ρ hd ⟨ws,rest,a,rfl,hl,hx,r0⟩
   have hi:=(List.getElem?_eq_some_iff.mp hd).1
   have b0:=Int.emod_nonneg rest (show most≠0 by omega)
   have b1:=Int.emod_lt_of_pos rest (show 0 < most by omega)
   refine ⟨_,?_,ws++[1+rest % most],rest / 3,.val d,rfl,by rw [List.length_append,hl];rfl,fun x hx'=>?_,Int.ediv_nonneg r0 (by decide)⟩
   ·walk_at "ev"
    rw [oMod_i (show most≠0 by omega),fmod_pos _ (show 0 < most by omega)]
    walk_at "ev"
    rw [if_pos (by omega)]
    walk_at "ev"
    rw [List.map_append]
    rfl
   ·rcases List.mem_append.mp hx' with h | h
    ·exact hx x h
    ·rw [List.mem_singleton.mp h];omega
  ·rintro ρ ⟨ws,rest,a,rfl,hl,hx,r0⟩
   exact fin' ws _ _ _ (.inl ⟨iw,hl,hx⟩) (by omega)
 ·rw [decide_eq_false iw]
  walk_at "ev"
  exact fin' [] _ _ _ (.inr ⟨iw,rfl⟩) (by decide)
theorem zGL {q:Nat} {c:Int} (h:0<=c/\c<=10^9):IsC (q+1) (.tup [.str "boat", .int c])/\Clm (clm 8 (.tup [.str "boat", .int c])):=⟨.inl ⟨c,rfl⟩,fun x hx=>by rw [List.mem_singleton.mp (show x∈[c] from hx)];exact h⟩
def zAa (L:List D) (q i:Nat):Prop:=q<=5/\(∀ d∈L,IsC (q+1) d/\Clm (clm 8 d))/\(L.flatMap (clm 8)).length=i
theorem zAa.len {L:List D} {q i:Nat} (h:zAa L q i):L.length<=i:=by
 have:=kZ (n:=q+1) (fun d hd=>(h.2.1 d hd).1)
 rw [<-fm8 (fun d hd=>(h.2.1 d hd).1) (by have:=h.1;omega),h.2.2] at this
 exact this
theorem zAa.boat {L:List D} {q i:Nat} {c:Int} (h:zAa L q i) (hc:0<=c/\c<=10^9):zAa (L++[.tup [.str "boat", .int c]]) q (i+1):=by
 refine ⟨h.1,fun d hd=>?_,?_⟩
 ·rcases List.mem_append.mp hd with hd | hd
  ·exact h.2.1 d hd
  ·rw [List.mem_singleton.mp hd];exact zGL hc
 ·rw [List.flatMap_append,List.length_append,h.2.2];rfl
theorem zAa.noL {L:List D} {q i:Nat} (h:zAa L q i):∀ d∈L,noL d=true:=fun d hd=>wE _ _ (zCK _ _ (h.2.1 d hd).1)
theorem zAa.knot {L:List D} {q i m:Nat} {d:D} (h:zAa L q i) (hq:q < 5) (hd:IsC (q+2) d) (hc:clm 8 d=(L.drop m).flatMap (clm 8)):zAa (L.take m++[d]) (q+1) i:=by
 refine ⟨by omega,fun e he=>?_,?_⟩
 ·rcases List.mem_append.mp he with he | he
  ·have:=h.2.1 e (List.mem_of_mem_take he)
   exact ⟨fA this.1 (by omega),this.2⟩
  ·rw [List.mem_singleton.mp he]
   refine ⟨hd,fun c hx=>?_⟩
   rw [hc] at hx
   obtain ⟨k,hk,hx⟩:=List.mem_flatMap.mp hx
   exact (h.2.1 k (List.mem_of_mem_drop hk)).2 c hx
 ·have e:=h.2.2
  rw [<-List.take_append_drop m L,List.flatMap_append,List.length_append] at e
  rw [List.flatMap_append,List.length_append,show [d].flatMap (clm 8)=clm 8 d by simp [List.flatMap],hc]
  exact e
theorem zDO {n:Nat} (h:0 < n):(0:Int) < min 4 (n:Int):=by omega
theorem zGK {n:Nat} {x:Int} (mp:(0:Int) < min 4 (n:Int)):∃ m:Nat,1+x % min 4 (n:Int)=(m:Int)/\0 < m/\m<=n:=by
 have a:=Int.emod_nonneg x (Int.ne_of_gt mp)
 have b:=Int.emod_lt_of_pos x mp
 exact ⟨(1+x % min 4 (n:Int)).toNat,by omega,by omega,by omega⟩
theorem uH (ns:List Int):∃ d:D,eH [.lst (ns.map D.int)]=.ok (.v d)/\IsC 8 d/\Clm (clm 8 d)/\(clm 8 d).length<=12:=by
 have h0:0<=ns.getD 0 0 % 10^30:=Int.emod_nonneg _ (by decide)
 have turn:∀ (head boats:Int) (L:List D) (q i:Nat) (a6 a7 a8:Sl),0<=head->i < 12->zAa L q i->∃ (L':List D) (q':Nat) (b6 b7 b8:Sl),zAa L' q' (i+1)/\
   gA [.val (.lst (ns.map D.int)),.val (.int head),.own L,.val (.int (q:Int)),.val (.int boats),.val (.int (i:Int)),a6,a7,a8]=.ok (.nx [.val (.lst (ns.map D.int)),.val (.int head),.own L',.val (.int (q':Int)),.val (.int boats),.val (.int (i:Int)),b6,b7,b8]):=by
  intro head boats L q i a6 a7 a8 hh hi pl
  have c0:0<=ns.getD (1+(i:Int)).toNat 0 % 10^30:=Int.emod_nonneg _ (by decide)
  have t0:0<=ns.getD (7+(i:Int)).toNat 0 % 10^30:=Int.emod_nonneg _ (by decide)
  obtain ⟨c,ec,c1⟩:=vR (cell:=ns.getD (1+(i:Int)).toNat 0 % 10^30) (kind:=head / 6 % 3) c0 (Int.emod_nonneg _ (by decide))
  have pb:=pl.boat c1
  have ll:=pl.len
  have lb:=pb.len
  have ln:(L++[D.tup [.str "boat", .int c]]).length=L.length+1:=by rw [List.length_append];rfl
  walk_at "ev"
  rw [fB ns (1+(i:Int)) (Int.add_nonneg (by decide) (Int.natCast_nonneg _))]
  walk_at "ev"
  rw [ec]
  walk_at "ev"
  rw [zED c1.1 c1.2]
  walk_at "ev"
  rw [if_pos (Nat.lt_of_le_of_lt ll (Nat.lt_trans hi (by decide)))]
  walk_at "ev"
  rw [fB ns (7+(i:Int)) (Int.add_nonneg (by decide) (Int.natCast_nonneg _))]
  walk_at "ev"
  generalize ns.getD (7+(i:Int)).toNat 0 % 10^30=tn at t0
  generalize hL:L++[D.tup [.str "boat", .int c]]=L1 at pb lb ln
  by_cases z1:tn % 3=1
  ·rw [decide_eq_true z1]
   walk_at "ev"
   by_cases z2:(q:Int) < 5
   ·rw [decide_eq_true z2]
    walk_at "ev"
    have mp:=zDO (n:=L1.length) (by rw [ln];exact Nat.succ_pos _)
    rw [oMod_i (Int.ne_of_gt mp),fmod_pos _ mp]
    walk_at "ev"
    obtain ⟨m,em,k0,k1⟩:=zGK (x:=tn / 3) mp
    rw [em]
    have q4:q < 5:=Int.ofNat_lt.mp z2
    obtain ⟨d,ed,icd,ecd⟩:=qO (cell:=tn / 12) (ks:=L1.drop (L1.length - m)) (n:=q+1) (Int.ediv_nonneg t0 (by decide)) (by rw [List.length_drop,Nat.sub_sub_self k1];exact k0) (Nat.le_trans (Nat.succ_le_of_lt q4) (show 5<=7 by decide)) (fun k hk=>(pb.2.1 k (List.mem_of_mem_drop hk)).1) (by
     have e:=pb.2.2
     rw [<-List.take_append_drop (L1.length - m) L1,List.flatMap_append,List.length_append] at e
     exact Nat.le_trans (Nat.le_add_left _ _) (Nat.le_trans (Nat.le_of_eq e) hi))
    have pk:=pb.knot q4 icd ecd
    have nl:noLs (L1.take (L1.length - m)++[d])=true:=zCO pk.noL
    rw [zT k0 k1,zAg k0 k1,ed]
    walk_at "ev"
    rw [if_pos (Nat.le_trans (by rw [List.length_take];exact Nat.min_le_right _ _) (Nat.le_trans lb (Nat.le_trans hi (show 12<=16777215 by decide))))]
    walk_at "ev"
    rw [nl]
    walk_at "ev"
    exact ⟨_,q+1,_,_,_,pk,rfl⟩
   ·rw [decide_eq_false z2]
    walk_at "ev"
    exact ⟨L1,q,_,_,_,pb,rfl⟩
  ·rw [decide_eq_false z1]
   walk_at "ev"
   exact ⟨L1,q,_,_,_,pb,rfl⟩
 have rest:∀ (head:Int) (b:Nat),0<=head->0 < b->b<=12->∃ d:D,(eE [.val (.lst (ns.map D.int)),.val (.int head),.own [],.val (.int 0),.val (.int (b:Int)),.un,.un,.un,.un]).bind fin=.ok (.v d)/\IsC 8 d/\Clm (clm 8 d)/\(clm 8 d).length<=12:=by
  intro head b hh b0 b1
  unfold eE
  generalize hK:(gA:Sv)=K at turn
  walk_at "ev"
  rw [lG (Int.le_trans (by decide) (Int.natCast_nonneg b)) (Int.lt_of_le_of_lt (Int.ofNat_le.mpr b1) (by decide))]
  walk_at "ev"
  refine lH (Q:=fun r=>∃ d:D,r.bind fin=.ok (.v d)/\IsC 8 d/\Clm (clm 8 d)/\(clm 8 d).length<=12) (k:=zGO iD)
   (fun i ρ=>∃ (L:List D) (q:Nat) (a5 a6 a7 a8:Sl),ρ=[.val (.lst (ns.map D.int)),.val (.int head),.own L,.val (.int (q:Int)),.val (.int (b:Int)),a5,a6,a7,a8]/\zAa L q i) ⟨[],0,_,_,_,_,rfl,Nat.zero_le _,(fun d hd=>by cases hd),rfl⟩ ?_ ?_
  ·rintro i d ρ hd ⟨L,q,a5,a6,a7,a8,rfl,pl⟩
   obtain ⟨hi,rfl⟩:=tX hd
   rw [show (0+(i:Int) * 1)=(i:Int) by rw [Int.zero_add,Int.mul_one]]
   obtain ⟨L',q',b6,b7,b8,pl',e⟩:=turn head b L q i a6 a7 a8 hh (by rw [Int.toNat_natCast] at hi;exact Nat.lt_of_lt_of_le hi b1) pl
   exact ⟨_,e,L',q',_,_,_,_,rfl,pl'⟩
  ·rintro ρ ⟨L,q,a5,a6,a7,a8,rfl,pl⟩
   rw [yX,Int.toNat_natCast] at pl
   have q5:=pl.1
   have lf:=pl.2.2
   have cs:Clm (L.flatMap (clm 8)):=fun c hc=>by
    obtain ⟨k,hk,hx⟩:=List.mem_flatMap.mp hc
    exact (pl.2.1 k hk).2 c hx
   have L0:0 < L.length:=by
    cases L with
    | nil=>simp at lf;omega
    | cons a r=>exact Nat.succ_pos _
   obtain ⟨d,ed,icd,ecd⟩:=qO (cell:=head / 72) (ks:=L) (n:=q+1) (Int.ediv_nonneg hh (by decide)) L0 (Nat.le_trans (Nat.succ_le_succ q5) (by decide)) (fun k hk=>(pl.2.1 k hk).1) (Nat.le_trans (Nat.le_of_eq lf) b1)
   have isk:∃ d:D,((dZ [.int (head / 72),.lst L]).bind rtF).bind retF=.ok (.ret (.v d))/\IsC 8 d/\Clm (clm 8 d)/\(clm 8 d).length<=12:=⟨d,by rw [ed];rfl,fA icd (Nat.le_trans (Nat.succ_le_succ (Nat.succ_le_succ q5)) (by decide)),by rw [ecd];exact cs,by rw [ecd];exact Nat.le_trans (Nat.le_of_eq lf) b1⟩
   obtain ⟨d',ed',r'⟩:=isk
   walk_at "ev"
   by_cases z1:(1:Int) < (L.length:Int)
   ·rw [decide_eq_true z1]
    walk_at "ev"
    rw [ed']
    walk_at "ev"
    exact ⟨d',rfl,r'⟩
   ·rw [decide_eq_false z1]
    walk_at "ev"
    by_cases z2:(0:Int) < head / 18 % 4
    ·rw [decide_eq_true z2]
     walk_at "ev"
     rw [ed']
     walk_at "ev"
     exact ⟨d',rfl,r'⟩
    ·rw [decide_eq_false z2]
     walk_at "ev"
     match L,L0,z1,pl,lf with
     | [p],_,_,pl,lf=>
      rw [show oIx (.lst [p]) (.int 0)=.ok p from rfl]
      walk_at "ev"
      have h:=pl.2.1 p List.mem_cons_self
      refine ⟨p,rfl,fA h.1 (Nat.le_trans (Nat.succ_le_succ q5) (by decide)),h.2,?_⟩
      simp [List.flatMap] at lf
      omega
     | p::p'::r,_,z1,_,_=>exact absurd (by simp only [List.length_cons];omega) z1
 unfold eH jA jG jD jE
 generalize hK:(eE:Sv)=K at rest
 walk_at "ev"
 rw [fB ns 0 (by decide)]
 walk_at "ev"
 generalize ns.getD 0 0 % 10^30=head at h0
 have e0:0<=head % 6:=Int.emod_nonneg _ (by decide)
 have e1:head % 6 < 6:=Int.emod_lt_of_pos _ (by decide)
 obtain ⟨b,eb⟩:∃ b:Nat,1+head % 6=(b:Int):=⟨(1+head % 6).toNat,by omega⟩
 rw [eb]
 by_cases z:head / 90 % 8=1
 ·rw [decide_eq_true z]
  walk_at "ev"
  have:=rest head (b+6) h0 (by omega) (by omega)
  rw [Int.natCast_add] at this
  exact this
 ·rw [decide_eq_false z]
  walk_at "ev"
  exact rest head b h0 (by omega) (by omega)
theorem zJq {i:Int} (h0:0<=i) (h1:i < 26):∃ c,uZ (.str (Str.ofString "abcdefghijklmnopqrstuvwxyz")) (.int i)=.ok (.str ⟨#[c]⟩)/\inS ⟨#[c]⟩ abc=true:=by
 have hs:abc.cps.size=26:=by decide
 have hi:i.toNat < abc.cps.size:=by rw [hs];omega
 exact ⟨abc.cps[i.toNat],by rw [zBZ,if_pos ⟨h0,by omega⟩,Array.getElem?_eq_getElem hi,chO_s],by rw [show inS ⟨#[abc.cps[i.toNat]]⟩ abc=decide (abc.cps[i.toNat]∈abc.cps.toList) from PySem.StrLaws.found_one _ _];exact decide_eq_true (Array.mem_toList_iff.mpr (Array.getElem_mem hi))⟩
def zJF:List Str:=[Str.ofString "even", Str.ofString "ask", Str.ofString "row", Str.ofString "gets", Str.ofString "lack", Str.ofString "kept", Str.ofString "half", Str.ofString "land", Str.ofString "part", Str.ofString "custom", Str.ofString "basket", Str.ofString "refused"]
theorem zEo {x:Str} {c:Nat} (h:lts x=true) (hc:inS ⟨#[c]⟩ abc=true):lts (x++⟨#[c]⟩)=true:=by
 unfold lts at h ⊢
 have e:(x++(⟨#[c]⟩:Str)).cps.toList=x.cps.toList++[c]:=by
  show (x.cps++#[c]).toList=_
  rw [Array.toList_append]
 rw [e,List.all_append,h]
 simp only [List.all_cons,List.all_nil,Bool.and_true,Bool.true_and]
 exact hc
theorem zIH {k:Int} (h0:0<=k) (h1:k < 12):∃ x:Str,oIx (.lst [.str "even", .str "ask", .str "row", .str "gets", .str "lack", .str "kept", .str "half", .str "land", .str "part", .str "custom", .str "basket", .str "refused"]) (.int k)=.ok (.str x)/\isN x=true:=by
 have hk:k.toNat < zJF.length:=(Int.toNat_lt h0).mpr h1
 have all:∀ x∈zJF,isN x=true:=by decide +kernel
 exact ⟨zJF[k.toNat],pZ (f:=D.str) (l:=zJF) h0 (List.getElem?_eq_getElem hk),all _ (List.getElem_mem hk)⟩
theorem vW (ns:List Int) (m:Nat) (hm:m<=12):∃ xs:List Str,fP [.lst (ns.map D.int),.int (m:Int)]=.ok (.f (xs.map D.str))/\xs.length=m/\∀ x∈xs,isN x=true:=by
 have c0:0<=ns.getD 13 0 % 10^30:=Int.emod_nonneg _ (by decide)
 have c1:ns.getD 13 0 % 10^30 < 10^30:=Int.emod_lt_of_pos _ (by decide)
 have turn:∀ (cell:Int) (k:Nat) (xs:List Str) (a6 a7 a8 a9:Sl),0<=cell->k < 12->xs.length<=100->∃ (x:Str) (b6 b7 b8 b9:Sl),isN x=true/\fD [.val (.lst (ns.map D.int)),.val (.int (m:Int)),.val (.str (Str.ofString "abcdefghijklmnopqrstuvwxyz")),.val (.int cell),.own (xs.map D.str),.val (.int (k:Int)),a6,a7,a8,a9]
   = .ok (.nx [.val (.lst (ns.map D.int)),.val (.int (m:Int)),.val (.str (Str.ofString "abcdefghijklmnopqrstuvwxyz")),.val (.int cell),.own ((xs++[x]).map D.str),.val (.int (k:Int)),b6,b7,b8,b9]):=by
  intro cell k xs a6 a7 a8 a9 hc hk hx
  obtain ⟨c,ec,ic⟩:=zJq (i:=(cell+(k:Int)) % 26) (Int.emod_nonneg _ (by decide)) (Int.emod_lt_of_pos _ (by decide))
  have r0:0<=cell / ((k:Int)+1):=Int.ediv_nonneg hc (by omega)
  have s0:0<=cell / 26 % 12:=Int.emod_nonneg _ (by decide)
  have s1:cell / 26 % 12 < 12:=Int.emod_lt_of_pos _ (by decide)
  have last:∀ (x:Str) (b6 b8 b9:Sl),isN x=true->∃ (x':Str) (c6 c7 c8 c9:Sl),isN x'=true/\eD [.val (.lst (ns.map D.int)),.val (.int (m:Int)),.val (.str (Str.ofString "abcdefghijklmnopqrstuvwxyz")),.val (.int cell),.own (xs.map D.str),.val (.int (k:Int)),b6,.val (.str x),b8,b9]
    = .ok (.nx [.val (.lst (ns.map D.int)),.val (.int (m:Int)),.val (.str (Str.ofString "abcdefghijklmnopqrstuvwxyz")),.val (.int cell),.own ((xs++[x']).map D.str),.val (.int (k:Int)),c6,c7,c8,c9]):=by
   intro x b6 b8 b9 hx'
   have app:∀ (y:Str) (b6 b8 b9:Sl),fZ [.val (.lst (ns.map D.int)),.val (.int (m:Int)),.val (.str (Str.ofString "abcdefghijklmnopqrstuvwxyz")),.val (.int cell),.own (xs.map D.str),.val (.int (k:Int)),b6,.val (.str y),b8,b9]
     = .ok (.nx [.val (.lst (ns.map D.int)),.val (.int (m:Int)),.val (.str (Str.ofString "abcdefghijklmnopqrstuvwxyz")),.val (.int cell),.own ((xs++[y]).map D.str),.val (.int (k:Int)),b6,.val (.str y),b8,b9]):=by
    intro y b6 b8 b9
    walk_at "ev"
    rw [if_pos (by omega),List.map_append]
    rfl
   unfold eD
   generalize hK:(fZ:Sv)=K at app
   walk_at "ev"
   by_cases z:cell / 286 % 5=(k:Int)
   ·rw [decide_eq_true z]
    obtain ⟨y,ey,ly⟩:=zIH (k:=cell / 1430 % 12) (Int.emod_nonneg _ (by decide)) (Int.emod_lt_of_pos _ (by decide))
    walk_at "ev"
    rw [ey]
    walk_at "ev"
    exact ⟨y,_,_,_,_,ly,app y _ _ _⟩
   ·rw [decide_eq_false z]
    walk_at "ev"
    exact ⟨x,_,_,_,_,hx',app x _ _ _⟩
  unfold fD kR kA
  generalize hK:(eD:Sv)=K at last
  walk_at "ev"
  rw [oDiv_i (okDiv_lit (by omega) (by omega)),fdiv_pos _ (by omega)]
  walk_at "ev"
  rw [ec]
  walk_at "ev"
  rw [lG (by omega) (by omega)]
  walk_at "ev"
  refine lH (Q:=fun r=>∃ (x:Str) (b6 b7 b8 b9:Sl),isN x=true/\r=.ok (.nx [.val (.lst (ns.map D.int)),.val (.int (m:Int)),.val (.str (Str.ofString "abcdefghijklmnopqrstuvwxyz")),.val (.int cell),.own ((xs++[x]).map D.str),.val (.int (k:Int)),b6,b7,b8,b9])) (k:=zGO K)
   (fun i ρ=>∃ (rest:Int) (x:Str) (b8 b9:Sl),ρ=[.val (.lst (ns.map D.int)),.val (.int (m:Int)),.val (.str (Str.ofString "abcdefghijklmnopqrstuvwxyz")),.val (.int cell),.own (xs.map D.str),.val (.int (k:Int)),.val (.int rest),.val (.str x),b8,b9]/\0<=rest/\x.length=1+i/\lts x=true) ⟨_,_,_,_,rfl,r0,rfl,by unfold lts;simp only [List.all_cons,List.all_nil,Bool.and_true];exact ic⟩ ?_ ?_
  ·rintro i d ρ hd ⟨rest,x,b8,b9,rfl,h0,hl,ll⟩
   obtain ⟨hi,rfl⟩:=tX hd
   obtain ⟨c',ec',ic'⟩:=zJq (i:=rest % 26) (Int.emod_nonneg _ (by decide)) (Int.emod_lt_of_pos _ (by decide))
   have l1:(⟨#[c']⟩:Str).length=1:=rfl
   refine ⟨_,?_,rest / 26,x++⟨#[c']⟩,.val (.int (0+(i:Int) * 1)),b9,rfl,Int.ediv_nonneg h0 (by decide),by rw [strLen_append,l1,hl];omega,zEo ll ic'⟩
   walk_at "ev"
   rw [ec']
   walk_at "ev"
   rw [if_pos (fit (by omega))]
   walk_at "ev"
  ·rintro ρ ⟨rest,x,b8,b9,rfl,h0,hl,ll⟩
   rw [yX] at hl
   obtain ⟨x',b6,b7,b8',b9',h1,h2⟩:=last x (.val (.int rest)) b8 b9 (by unfold isN;rw [ll,Bool.and_true];exact decide_eq_true (by omega))
   exact ⟨x',b6,b7,b8',b9',h1,h2⟩
 unfold fP jX kH kN
 generalize hK:(fD:Sv)=K at turn
 walk_at "ev"
 rw [fB ns 13 (by decide)]
 walk_at "ev"
 rw [lG (by omega) (by omega)]
 walk_at "ev"
 generalize hcl:ns.getD 13 0 % 10^30=cell at c0 c1 ⊢
 refine lH (Q:=fun r=>∃ xs:List Str,r.bind fin=.ok (.f (xs.map D.str))/\xs.length=m/\∀ x∈xs,isN x=true) (k:=zGO jC)
  (fun i ρ=>∃ (xs:List Str) (a5 a6 a7 a8 a9:Sl),ρ=[.val (.lst (ns.map D.int)),.val (.int (m:Int)),.val (.str (Str.ofString "abcdefghijklmnopqrstuvwxyz")),.val (.int cell),.own (xs.map D.str),a5,a6,a7,a8,a9]/\xs.length=i/\∀ x∈xs,isN x=true) ⟨[],_,_,_,_,_,rfl,rfl,fun x h=>by cases h⟩ ?_ ?_
 ·rintro i d ρ hd ⟨xs,a5,a6,a7,a8,a9,rfl,hl,hx⟩
  obtain ⟨hi,rfl⟩:=tX hd
  rw [show (0+(i:Int) * 1)=(i:Int) by omega]
  obtain ⟨x,b6,b7,b8,b9,lx,e⟩:=turn cell i xs a6 a7 a8 a9 c0 (by omega) (by omega)
  refine ⟨_,e,xs++[x],_,_,_,_,_,rfl,by rw [List.length_append,hl];rfl,fun y hy=>?_⟩
  rcases List.mem_append.mp hy with h | h
  ·exact hx y h
  ·rw [List.mem_singleton.mp h];exact lx
 ·rintro ρ ⟨xs,a5,a6,a7,a8,a9,rfl,hl,hx⟩
  rw [yX,Int.toNat_natCast] at hl
  exact ⟨xs,rfl,hl,hx⟩
theorem zEV {T y:Str} {i:Nat} (h:i<=T.length):Txt.startswith3 T y (i:Int)=((T.cps.toList.drop i).take y.length==y.cps.toList):=by
 have e:fromIndex T.length (i:Int)=i:=by
  unfold fromIndex
  rw [if_neg (by omega),Int.max_eq_right (by omega)]
  rfl
 have l:T.cps.toList.length=T.length:=Array.length_toList
 have ly:y.cps.toList.length=y.length:=Array.length_toList
 unfold Txt.startswith3
 rw [e,StrLaws.subAt_eq]
 by_cases w:i+y.length<=T.length
 ·rw [decide_eq_true w,Bool.true_and]
 ·rw [decide_eq_false w,Bool.false_and]
  symm
  refine beq_eq_false_iff_ne.mpr fun z=>?_
  have:=congrArg List.length z
  rw [List.length_take,List.length_drop,l,ly] at this
  omega
theorem zLt {T y:Str} {i:Nat} {q:List Nat} (h:i<=T.length) (e:T.cps.toList.drop i=y.cps.toList++q):Txt.startswith3 T y (i:Int)=true:=by
 rw [zEV h,e,List.take_left' (show y.cps.toList.length=y.length from Array.length_toList)]
 exact beq_self_eq_true _
theorem zLH {T y:Str} {i:Nat} {c:Nat} {u:List Nat} (h:i<=T.length) (hy:y.cps.toList=c::u) (e:(T.cps.toList.drop i).head?≠some c):Txt.startswith3 T y (i:Int)=false:=by
 rw [zEV h,hy]
 have ly:y.cps.toList.length=y.length:=Array.length_toList
 rw [hy,List.length_cons] at ly
 refine beq_eq_false_iff_ne.mpr fun z=>?_
 cases d:T.cps.toList.drop i with
 | nil=>rw [d,List.take_nil] at z;cases z
 | cons x r=>
  rw [d,<-ly,List.take_succ_cons] at z
  injection z with z1 z2
  rw [d,z1] at e
  exact e rfl
abbrev cR:Str:=Str.ofString "Reader"
abbrev cC:Str:=Str.ofString "called"
def fsR (T:Str) (i:Int):List (Str×D):=[(Str.ofString "text", .str T),(Str.ofString "spot", .int i),(cC,.non)]
abbrev oR (ao:Option Addr) (T:Str) (i:Int) (ds:List D):Sl:=.obj ao cR cC (fsR T i) ds
section
variable {a:Addr} {ao:Option Addr} {T:Str} {i j:Int} {ds es:List D} {r:Rho}
theorem rT:cB 0 cR (Str.ofString "text") (oR ao T i ds::r)=.ok (.str T):=rfl
theorem rS:cB 0 cR (Str.ofString "spot") (oR ao T i ds::r)=.ok (.int i):=rfl
theorem zKT {e:Ev} {k:Int} (hl:r.all nob=true) (he:e (oR ao T i ds::r)=.ok (.int k)):wQ 0 cR (Str.ofString "spot") e (oR ao T i ds::r)=.ok (.nx (oR ao T (i+k) ds::r)):=by
 show zLg 0 cR (Str.ofString "spot") (oR ao T i ds::r) (e (oR ao T i ds::r)) (some (oR ao T i ds))=_
 rw [he]
 show (if cR=cR/\Str.ofString "spot" ≠ cC then zKa 0 cR (Str.ofString "spot") (oR ao T i ds::r) (.ok (.int k)) ao cC (fsR T i) ds ((fsR T i).lookup (Str.ofString "spot")) else .no)=_
 rw [if_pos ⟨rfl,by decide⟩]
 show (if Str.ofString "spot" ≠ cC/\(fsR T i).length < 900/\kW 0 (oR ao T i ds::r)=true then Res.ok (Fl.nx ((oR ao T i ds::r).set 0 (.obj ao cR cC (zHj (Str.ofString "spot") (.int (i+k)) (fsR T i)) ds))) else .no)=_
 rw [if_pos ⟨by decide,by show 3 < 900;decide,hl⟩]
 rfl
theorem zLT {e:Ev} {d:D} (hl:r.all nob=true) (hd:ds.length < 100000) (he:e (.un::r)=.ok d):zBu 0 cR cC e (oR ao T i ds::r)=.ok (.nx (oR ao T i (ds++[d])::r)):=by
 show zKW 0 cR cC (oR ao T i ds::r) (e (.un::r)) (some (oR ao T i ds))=_
 rw [he]
 show (if cR=cR/\cC=cC/\ds.length < 100000/\kW 0 (oR ao T i ds::r)=true then Res.ok (Fl.nx (oR ao T i (ds++[d])::r)) else .no)=_
 rw [if_pos ⟨rfl,rfl,hd,hl⟩]
theorem zIQ {e:Ev} {d:D} (he:e (oR (some a) T i ds::r)=.ok d):nD e (oR (some a) T i ds::r)=.ok (.ret (.w a d cR cC (fsR T i) ds)):=by
 unfold nD
 rw [he]
 rfl
theorem zCT {F:Mv} {d:D} {r':Rho} (he:F (oR (some a) T i ds::r)=.ok (d,oR (some a) T j es::r')):mH F (oR (some a) T i ds::r)=.ok (.ret (.w a d cR cC (fsR T j) es)):=by
 unfold mH
 rw [he]
 rfl
theorem kM {m:Str} {kX:gH} {fs:Fv} {as:List D} {d:D} (hl:r.all nob=true) (hm:((fsR T i).lookup m).isNone=true) (hc:m≠cC) (ha:fs (oR (some a) T i ds::r)=.ok as) (h:kX a (fsR T i) ds as=.ok (d,fsR T j,es)):bD 0 cR cC m kX fs (oR (some a) T i ds::r)=.ok (d,oR (some a) T j es::r):=by
 show zJC 0 cR cC m kX (oR (some a) T i ds::r) (fs (oR (some a) T i ds::r)) (some (oR (some a) T i ds))=_
 rw [ha]
 show (if cR=cR/\cC=cC/\kW 0 (oR (some a) T i ds::r)=true/\((fsR T i).lookup m).isNone=true/\m≠cC then (kX a (fsR T i) ds as).bind (fun q=>.ok (q.1,(oR (some a) T i ds::r).set 0 (.obj (some a) cR cC q.2.1 q.2.2))) else .no)=_
 rw [if_pos ⟨rfl,rfl,hl,hm,hc⟩,h]
 rfl
theorem rX {np nl:Nat} {b:Sv} {as:List D} {d:D} (hn:as.length=np) (h:b (oR (some a) T i ds::L3.start (nl - 1) as)=.ok (.ret (.w a d cR cC (fsR T j) es))):fnX cR cC np nl b a (fsR T i) ds as=.ok (d,fsR T j,es):=by
 unfold fnX
 rw [if_pos hn,h]
 show (if a=a/\cR=cR/\cC=cC then Res.ok (d,fsR T j,es) else .no)=_
 rw [if_pos ⟨rfl,rfl,rfl⟩]
theorem rXn {np nl:Nat} {b:Sv} {as:List D} {r':Rho} (hn:as.length=np) (h:b (oR (some a) T i ds::L3.start (nl - 1) as)=.ok (.nx (oR (some a) T j es::r'))):fnX cR cC np nl b a (fsR T i) ds as=.ok (.non,fsR T j,es):=by
 unfold fnX
 rw [if_pos hn,h]
 show (if a=a/\cR=cR/\cC=cC then Res.ok (D.non,fsR T j,es) else .no)=_
 rw [if_pos ⟨rfl,rfl,rfl⟩]
end
theorem zEW {a:Addr} {T:Str} {i:Int} {ds:List D} (hT:T.length<=100000):aP a (fsR T i) ds []=.ok (.bl (decide (i=(T.length:Int))),fsR T i,ds):=by
 refine rX rfl (zIQ ?_)
 have line:sizeLine=16777216:=sizeLine_eq
 show (eOp oEq (cB 0 cR (Str.ofString "spot")) (eB mO (aA (cB 0 cR (Str.ofString "text")) aNil))) _=_
 rw [eOp_at,rS]
 show ((eB mO (aA (cB 0 cR (Str.ofString "text")) aNil)) _).bind _=_
 unfold eB
 rw [aCons_at,rT]
 walk_at "ev"
 rw [if_pos (by omega)]
 walk_at "ev"
theorem oP {a:Addr} {T y:Str} {i:Nat} {ds:List D} {q:List Nat} (hy:y.length<=100000) (h:i<=T.length) (e:T.cps.toList.drop i=y.cps.toList++q):aK a (fsR T i) ds [.str y]=.ok (.bl true,fsR T ((i+y.length:Nat):Int),ds):=by
 have line:sizeLine=16777216:=sizeLine_eq
 have e1:eSw (cB 0 cR (Str.ofString "text")) (aH 1) (cB 0 cR (Str.ofString "spot")) [oR (some a) T i ds,.val (.str y)]=.ok (.bl true):=by
  unfold eSw
  rw [rT]
  show (cB 0 cR (Str.ofString "spot") [oR (some a) T i ds,.val (.str y)]).bind (fun i'=>swD T (.str y) i')=_
  rw [rS]
  show Res.ok (D.bl (Txt.startswith3 T y (i:Int)))=_
  rw [zLt h e]
 refine rX rfl ?_
 show (bI (sIf (lO (cM (eSw (cB 0 cR (Str.ofString "text")) (aH 1) (cB 0 cR (Str.ofString "spot"))))) (nD (eC (.bl false))) sNext) eU) [oR (some a) T i ds,.val (.str y)]=_
 rw [sSeq_at,sIf_at,tNotB_at,tVal_at,e1]
 walk_at "ev"
 rw [show wQ 0 (Str.ofString "Reader") (Str.ofString "spot") (eB mO (aA (aH 1) aNil)) [oR (some a) T i ds,.val (.str y)]=.ok (.nx [oR (some a) T ((i:Int)+(y.length:Int)) ds,.val (.str y)]) from zKT rfl (by walk_at "ev"; rw [if_pos (by omega)])]
 walk_at "ev"
 show nD (eC (.bl true)) _=_
 rw [zIQ (d:=.bl true) rfl]
 rfl
theorem vE {a:Addr} {T y:Str} {i:Nat} {ds:List D} {c:Nat} {u:List Nat} (h:i<=T.length) (hy:y.cps.toList=c::u) (e:(T.cps.toList.drop i).head?≠some c):aK a (fsR T i) ds [.str y]=.ok (.bl false,fsR T i,ds):=by
 have e1:eSw (cB 0 cR (Str.ofString "text")) (aH 1) (cB 0 cR (Str.ofString "spot")) [oR (some a) T i ds,.val (.str y)]=.ok (.bl false):=by
  unfold eSw
  rw [rT]
  show (cB 0 cR (Str.ofString "spot") [oR (some a) T i ds,.val (.str y)]).bind (fun i'=>swD T (.str y) i')=_
  rw [rS]
  show Res.ok (D.bl (Txt.startswith3 T y (i:Int)))=_
  rw [zLH h hy e]
 refine rX rfl ?_
 show (bI (sIf (lO (cM (eSw (cB 0 cR (Str.ofString "text")) (aH 1) (cB 0 cR (Str.ofString "spot"))))) (nD (eC (.bl false))) sNext) eU) [oR (some a) T i ds,.val (.str y)]=_
 rw [sSeq_at,sIf_at,tNotB_at,tVal_at,e1]
 walk_at "ev"
 rw [zIQ (d:=.bl false) rfl]
 rfl
theorem wC {a:Addr} {T y:Str} {i:Nat} {ds:List D} {q:List Nat} (hy:y.length<=100000) (h:i<=T.length) (e:T.cps.toList.drop i=y.cps.toList++q):aQ a (fsR T i) ds [.str y]=.ok (.non,fsR T ((i+y.length:Nat):Int),ds):=by
 refine rXn (r':=[.val (.str y)]) rfl ?_
 show (zAL (lK (tmV (bD 0 cR cC (Str.ofString "takes") aK (aA (aH 1) aNil)))) sNo sNext) [oR (some a) T i ds,.val (.str y)]=_
 unfold zAL lK tmV
 rw [kM (as:=[.str y]) rfl rfl (by decide) rfl (oP hy h e)]
 rfl
theorem dQ {T:Str} {i:Nat} {q:List Nat} (h:i<=T.length) (e:T.cps.toList.drop i=q):T.length=i+q.length:=by
 have l:T.cps.toList.length=T.length:=Array.length_toList
 have:=congrArg List.length e
 rw [List.length_drop,l] at this
 omega
theorem dA {T:Str} {i:Nat} {p q:List Nat} (e:T.cps.toList.drop i=p++q):T.cps.toList.drop (i+p.length)=q:=by
 rw [<-List.drop_drop,e,List.drop_left]
theorem zIa {T:Str} {i:Nat} {c:Nat} {q:List Nat} (h:T.length<=100000) (hi:i<=T.length) (e:T.cps.toList.drop i=c::q):uZ (.str T) (.int (i:Int))=.ok (.str ⟨#[c]⟩):=by
 have l:=dQ hi e
 rw [List.length_cons] at l
 have g:T.cps[i]?=some c:=by
  have:T.cps.toList[i]?=some c:=by
   have:=congrArg List.head? e
   rw [List.head?_drop] at this
   exact this
  rw [Array.getElem?_toList] at this
  exact this
 rw [zBZ,if_pos ⟨by omega,by omega⟩,Int.toNat_natCast,g,chO_s]
abbrev zJD:TMv:=(qR (lK (tmV (bD 0 cR cC (Str.ofString "is_done") aP aNil))) (tmD (cM (eOp zDH (eOp uZ (cB 0 cR (Str.ofString "text")) (cB 0 cR (Str.ofString "spot"))) (aH 1)))))
theorem zKy {a:Addr} {T:Str} {i:Int} {ds:List D} {r:Rho} (hT:T.length<=100000) (hn:r.all nob=true):bD 0 cR cC (Str.ofString "is_done") aP aNil (oR (some a) T i ds::r)=.ok (.bl (decide (i=(T.length:Int))),oR (some a) T i ds::r):=kM hn rfl (by decide) rfl (zEW hT)
theorem rIx {a:Addr} {T:Str} {i c:Nat} {ds:List D} {r:Rho} {q:List Nat} (hT:T.length<=100000) (hi:i<=T.length) (e:T.cps.toList.drop i=c::q):eOp uZ (cB 0 cR (Str.ofString "text")) (cB 0 cR (Str.ofString "spot")) (oR (some a) T i ds::r)=.ok (.str ⟨#[c]⟩):=by
 unfold eOp
 rw [rT,rS,Res.ok_bind,Res.ok_bind]
 exact zIa hT hi e
theorem rIn {a:Addr} {T s:Str} {i c:Nat} {ds:List D} {x:Sl} {q:List Nat} (hT:T.length<=100000) (hi:i<=T.length) (e:T.cps.toList.drop i=c::q):cM (eOp zDH (eOp uZ (cB 0 cR (Str.ofString "text")) (cB 0 cR (Str.ofString "spot"))) (aH 1)) [oR (some a) T i ds,.val (.str s),x]=.ok (inS ⟨#[c]⟩ s):=by
 have e1:=rIx (a:=a) (ds:=ds) (r:=[.val (.str s),x]) hT hi e
 generalize eOp uZ (cB 0 cR (Str.ofString "text")) (cB 0 cR (Str.ofString "spot"))=f at e1
 unfold cM eOp
 rw [e1]
 rfl
theorem zDv {T U:TMv} {ρ ρ':Rho} (h:T ρ=.ok (false,ρ')):qR T U ρ=.ok (false,ρ'):=by
 unfold qR
 rw [h]
 rfl
theorem zDX {T U:TMv} {ρ ρ':Rho} (h:T ρ=.ok (true,ρ')):qR T U ρ=U ρ':=by
 unfold qR
 rw [h]
 rfl
theorem zIl {F:Mv} {ρ ρ':Rho} {b:Bool} (h:F ρ=.ok (.bl b,ρ')):lK (tmV F) ρ=.ok (!b,ρ'):=by
 unfold lK tmV
 rw [h]
 rfl
theorem zKd {t:Tv} {ρ:Rho} {b:Bool} (h:t ρ=.ok b):tmD t ρ=.ok (b,ρ):=by
 unfold tmD
 rw [h]
 rfl
theorem zCs {a:Addr} {T s:Str} {i:Nat} {ds:List D} {x:Sl} (hT:T.length<=100000) (hi:i<=T.length) (hx:nob x=true):
  (T.cps.toList.drop i=[]->zJD [oR (some a) T i ds,.val (.str s),x]=.ok (false,[oR (some a) T i ds,.val (.str s),x]))/\
  ∀ c q,T.cps.toList.drop i=c::q->zJD [oR (some a) T i ds,.val (.str s),x]=.ok (inS ⟨#[c]⟩ s,[oR (some a) T i ds,.val (.str s),x]):=by
 have hn:[Sl.val (.str s),x].all nob=true:=by simp only [List.all_cons,List.all_nil,hx];rfl
 have c1:=zIl (zKy (a:=a) (i:=(i:Int)) (ds:=ds) hT hn)
 refine ⟨fun e=>?_,fun c q e=>?_⟩
 ·have l:=dQ hi e
  rw [List.length_nil] at l
  rw [decide_eq_true (by omega)] at c1
  exact zDv c1
 ·have l:=dQ hi e
  rw [List.length_cons] at l
  rw [decide_eq_false (by omega)] at c1
  exact (zDX c1).trans (zKd (rIn hT hi e))
theorem xD {a:Addr} {T s:Str} {ds:List D} {x:Sl} {v:List Nat} (hT:T.length<=100000) (hx:nob x=true) (hv:∀ c q,v=c::q->inS ⟨#[c]⟩ s=false):∀ (u:List Nat) (i n:Nat),i<=T.length->T.cps.toList.drop i=u++v->(∀ c∈u,inS ⟨#[c]⟩ s=true)->u.length < n->
  whT zJD cP n [oR (some a) T i ds,.val (.str s),x]=.ok (.nx [oR (some a) T ((i+u.length:Nat):Int) ds,.val (.str s),x])
 | [],i,n+1,hi,e,_,_=>by
  rw [whT]
  have t:=zCs (a:=a) (s:=s) (ds:=ds) hT hi hx
  rw [List.nil_append] at e
  cases v with
  | nil=>rw [t.1 e];rfl
  | cons c q=>
   rw [t.2 c q e,hv c q rfl]
   rfl
 | c::u,i,n+1,hi,e,hu,hn=>by
  rw [whT]
  have t:=zCs (a:=a) (s:=s) (ds:=ds) hT hi hx
  have l:=dQ hi e
  rw [List.cons_append,List.length_cons] at l
  rw [t.2 c (u++v) e,hu c List.mem_cons_self]
  have hn2:[Sl.val (.str s),x].all nob=true:=by simp only [List.all_cons,List.all_nil,hx];rfl
  show whB (whT zJD cP n) (wQ 0 cR (Str.ofString "spot") (eC (.int 1)) [oR (some a) T i ds,.val (.str s),x])=_
  rw [zKT hn2 (k:=1) rfl]
  have ih:=xD (a:=a) (ds:=ds) hT hx hv u (i+1) n (by omega) (by rw [<-List.drop_drop,e];rfl) (fun c hc=>hu c (List.mem_cons_of_mem _ hc)) (by rw [List.length_cons] at hn;omega)
  rw [show i+1+u.length=i+(c::u).length by rw [List.length_cons];omega] at ih
  exact ih
 | _,_,0,_,_,_,h=>absurd h (Nat.not_lt_zero _)
theorem zDp {T:Str} {i:Nat} {u v:List Nat} (hi:i<=T.length) (e:T.cps.toList.drop i=u++v):Txt.slice T (some (i:Int)) (some ((i+u.length:Nat):Int))=⟨u.toArray⟩:=by
 have l:=dQ hi e
 rw [List.length_append] at l
 have h:=PyProof.Rows.slice_closesL (x:=T) (i:=(i:Int)) (j:=((i+u.length:Nat):Int)) (by omega) (by omega) (by omega)
 rw [eq_of_beq h,Int.toNat_natCast,e,show (((i+u.length:Nat):Int) - (i:Int)).toNat=u.length by omega,List.take_left]
theorem xF {a:Addr} {T s:Str} {ds:List D} {i:Nat} {u v:List Nat} (hT:T.length<=90000) (hi:i<=T.length) (e:T.cps.toList.drop i=u++v) (hu:∀ c∈u,inS ⟨#[c]⟩ s=true) (hv:∀ c q,v=c::q->inS ⟨#[c]⟩ s=false):
  aW a (fsR T i) ds [.str s]=.ok (.str ⟨u.toArray⟩,fsR T ((i+u.length:Nat):Int),ds):=by
 have line:sizeLine=16777216:=sizeLine_eq
 have l:=dQ hi e
 rw [List.length_append] at l
 refine rX rfl ?_
 show (bI (fV 2 (cB 0 cR (Str.ofString "spot"))) gI) [oR (some a) T i ds,.val (.str s),.un]=_
 rw [sSeq_at,sSet_at,rS]
 walk_at "ev"
 have lp:=xD (a:=a) (ds:=ds) (x:=.val (.int (i:Int))) (by omega) rfl hv u i 100000 hi e hu (by omega)
 rw [show whT (qR (lK (tmV (bD 0 (Str.ofString "Reader") (Str.ofString "called") (Str.ofString "is_done") aP aNil))) (tmD (cM (eOp zDH (eOp uZ (cB 0 (Str.ofString "Reader") (Str.ofString "text")) (cB 0 (Str.ofString "Reader") (Str.ofString "spot"))) (aH 1))))) cP 100000 [oR (some a) T i ds,.val (.str s),.val (.int (i:Int))]=_ from lp]
 walk_at "ev"
 refine zIQ ?_
 show zJL (cB 0 cR (Str.ofString "text")) (oS (aH 2)) (oS (cB 0 cR (Str.ofString "spot"))) _=_
 rw [eSlS_at,rT]
 walk_at "ev"
 rw [show cB 0 (Str.ofString "Reader") (Str.ofString "spot") [oR (some a) T ((i+u.length:Nat):Int) ds,Sl.val (.str s),Sl.val (.int (i:Int))]=.ok (.int ((i+u.length:Nat):Int)) from rS]
 walk_at "ev"
 rw [if_pos (by omega),zDp hi e]
def dig (x:Str):Bool:=x.cps.toList.all fun c=>inS ⟨#[c]⟩ "0123456789"
theorem zJQ {c:Nat} (h:inS ⟨#[c]⟩ "0123456789" = true):48<=c/\c<=57:=by
 have e:inS ⟨#[c]⟩ "0123456789" = decide (c∈(Str.ofString "0123456789").cps.toList):=PySem.StrLaws.found_one _ _
 rw [e] at h
 have h:=of_decide_eq_true h
 have e2:(Str.ofString "0123456789").cps.toList=[48,49,50,51,52,53,54,55,56,57]:=by decide
 rw [e2] at h
 simp only [List.mem_cons,List.not_mem_nil,or_false] at h
 omega
def zJy (x:Str):Prop:=1<=x.length/\x.length<=13/\dig x=true/\¬ (x.cps[0]?=some 48/\1 < x.length)
theorem zDW {x:Str} (h:1<=x.length):∃ c,x.cps[0]?=some c:=⟨x.cps[0]'h,Array.getElem?_eq_getElem h⟩
theorem zG (c:Nat):((⟨#[c]⟩:Str) == "0")=decide (c=48):=by
 have e:(Str.ofString "0")=⟨#[48]⟩:=by decide
 rw [e]
 by_cases h:c=48
 ·subst h;rfl
 ·rw [decide_eq_false h]
  refine beq_eq_false_iff_ne.mpr fun z=>?_
  injection z with z
  injection z with z
  injection z with z
  exact h z
theorem wD {x:Str} (hl:x.length<=1000):(∀ n,zJy x->intText? x=some n->dE [.str x]=.ok (.v (.int n)))/\(¬ zJy x->dE [.str x]=.err "NoText"):=by
 have line:sizeLine=16777216:=sizeLine_eq
 unfold dE
 walk_at "ev"
 rw [if_pos (by omega)]
 walk_at "ev"
 by_cases c1:x.length=0
 ·rw [decide_eq_true (by omega)]
  walk_at "ev"
  exact ⟨fun n g=>absurd g.1 (by omega),fun _=>by first | rfl | trivial⟩
 ·rw [decide_eq_false (by omega)]
  walk_at "ev"
  rw [if_pos (by omega)]
  walk_at "ev"
  by_cases c2:13 < x.length
  ·rw [decide_eq_true (by omega)]
   walk_at "ev"
   exact ⟨fun n g=>absurd g.2.1 (by omega),fun _=>by first | rfl | trivial⟩
  ·rw [decide_eq_false (by omega)]
   walk_at "ev"
   rw [nE hl]
   walk_at "ev"
   rw [show (x.cps.toList.all fun c=>inS ⟨#[c]⟩ "0123456789")=dig x from rfl]
   cases hd:dig x with
   | false=>
    walk_at "ev"
    exact ⟨fun n g=>(by rw [g.2.2.1] at hd;cases hd),fun _=>by first | rfl | trivial⟩
   | true=>
    walk_at "ev"
    obtain ⟨c,hc⟩:=zDW (show 1<=x.length by omega)
    rw [hc]
    walk_at "ev"
    rw [zG]
    have good':¬ (c=48/\1 < x.length)->zJy x:=fun h0=>⟨by omega,by omega,hd,fun z=>h0 ⟨by rw [hc] at z;exact Option.some.inj z.1,z.2⟩⟩
    by_cases c3:c=48
    ·rw [decide_eq_true c3]
     walk_at "ev"
     by_cases c4:1 < x.length
     ·rw [show (x==(Str.ofString "0"))=false from beq_eq_false_iff_ne.mpr fun z=>(by rw [z] at c4;exact absurd c4 (by decide))]
      walk_at "ev"
      exact ⟨fun n g=>absurd ⟨by rw [hc,c3],c4⟩ g.2.2.2,fun _=>by first | rfl | trivial⟩
     ·have e:x=Str.ofString "0" := by
       have e0:(Str.ofString "0")=⟨#[48]⟩:=by decide
       rw [e0]
       obtain ⟨⟨l⟩⟩:=x
       have hl1:l.length=1:=by
        have a1:¬ l.length=0:=c1
        have a2:¬ 1 < l.length:=c4
        omega
       have hc':l[0]?=some c:=by simpa using hc
       match l,hl1,hc' with
       | [a],_,h=>cases h;rw [c3]
      rw [show (x==(Str.ofString "0"))=true from beq_iff_eq.mpr e]
      walk_at "ev"
      refine ⟨fun n _ hn=>?_,fun g=>absurd (good' fun z=>c4 z.2) g⟩
      rw [zAV (by omega) hn]
      walk_at "ev"
    ·rw [decide_eq_false c3]
     walk_at "ev"
     refine ⟨fun n _ hn=>?_,fun g=>absurd (good' fun z=>c3 z.1) g⟩
     rw [zAV (by omega) hn]
     walk_at "ev"
theorem zGt:∀ (m:Nat),0 < m->∃ c r,Nat.toDigits 10 m=c::r/\c ≠ '0'
 | m,h=>by
  by_cases w:m < 10
  ·rw [Nat.toDigits_of_lt_base w]
   refine ⟨_,_,rfl,?_⟩
   have:∀ k:Nat,k < 10->0 < k->k.digitChar ≠ '0' := by decide
   exact this m w h
  ·obtain ⟨c,r,e,hc⟩:=zGt (m / 10) (by omega)
   have e2:=Nat.toDigits_append_toDigits (b:=10) (n:=m / 10) (d:=m % 10) (by decide) (by omega) (Nat.mod_lt _ (by decide))
   rw [show 10 * (m / 10)+m % 10=m by omega,e] at e2
   exact ⟨c,r++Nat.toDigits 10 (m % 10),e2.symm,hc⟩
theorem yR {n:Int} (h0:0<=n) (h1:n < 10^10):zJy (Str.ofString (toString n))/\∀ c∈(Str.ofString (toString n)).cps.toList,inS ⟨#[c]⟩ (Str.ofString "0123456789")=true:=by
 obtain ⟨m,rfl⟩:=Int.eq_ofNat_of_zero_le h0
 have s:=PySem.W.KIN.signs_num m
 have figs:∀ c∈(Str.ofString (toString (m:Int))).cps.toList,inS ⟨#[c]⟩ (Str.ofString "0123456789")=true:=by
  intro c hc
  rw [s] at hc
  obtain ⟨ch,hm,rfl⟩:=List.mem_map.mp hc
  have hd:=Nat.isDigit_of_mem_toDigits (b:=10) (by decide) (by decide) hm
  have e:inS ⟨#[ch.toNat]⟩ (Str.ofString "0123456789")=decide (ch.toNat∈(Str.ofString "0123456789").cps.toList):=PySem.StrLaws.found_one _ _
  rw [e]
  refine decide_eq_true ?_
  have e2:(Str.ofString "0123456789").cps.toList=[48,49,50,51,52,53,54,55,56,57]:=by decide
  rw [e2]
  have hb:48<=ch.toNat/\ch.toNat<=57:=by
   simp only [Char.isDigit,Bool.and_eq_true,decide_eq_true_eq] at hd
   exact ⟨hd.1,hd.2⟩
  simp only [List.mem_cons,List.not_mem_nil,or_false]
  omega
 have len1:1<=(Str.ofString (toString (m:Int))).length:=by
  have l:(Str.ofString (toString (m:Int))).cps.toList.length=(Str.ofString (toString (m:Int))).length:=Array.length_toList
  rw [<-l,s,List.length_map]
  cases z:Nat.toDigits 10 m with
  | nil=>
   exfalso
   by_cases w:0 < m
   ·obtain ⟨c,r,e,_⟩:=zGt m w
    rw [e] at z;cases z
   ·have:m=0:=by omega
    subst this
    cases z
  | cons c r=>rw [List.length_cons];omega
 have len10:=PySem.W.KT.len_num h0 h1
 refine ⟨⟨len1,by omega,List.all_eq_true.mpr figs,fun ⟨z,l⟩=>?_⟩,figs⟩
 have z2:(Str.ofString (toString (m:Int))).cps.toList[0]?=some 48:=by rw [Array.getElem?_toList];exact z
 rw [s] at z2
 by_cases w:0 < m
 ·obtain ⟨c,r,e,hc⟩:=zGt m w
  rw [e,List.map_cons,List.getElem?_cons_zero] at z2
  refine hc ?_
  have:c.toNat=48:=Option.some.inj z2
  exact Char.toNat_inj.mp this
 ·have:m=0:=by omega
  subst this
  have:(Str.ofString (toString ((0:Nat):Int))).length=1:=by decide
  omega
theorem zJW {n:Int} (h0:0<=n) (h1:n < 10^10):dE [.str (Str.ofString (toString n))]=.ok (.v (.int n)):=
 (wD (Nat.le_trans (PySem.W.KT.len_num h0 h1) (by decide))).1 n (yR h0 h1).1 (PySem.W.KIN.num_reads h0 h1)
theorem zBz (x:Str):(⟨x.cps.toList.toArray⟩:Str)=x:=by rw [Array.toArray_toList]
theorem kE {a:Addr} {T:Str} {ds:List D} {i:Nat} {n:Int} {v:List Nat} (hT:T.length<=90000) (hi:i<=T.length) (h0:0<=n) (h1:n < 10^10) (e:T.cps.toList.drop i=(Str.ofString (toString n)).cps.toList++v) (hv:∀ c q,v=c::q->inS ⟨#[c]⟩ (Str.ofString "0123456789")=false):
  aJ a (fsR T i) ds []=.ok (.int n,fsR T ((i+(Str.ofString (toString n)).length:Nat):Int),ds):=by
 refine rX rfl (zCT (r':=[]) ?_)
 have r1:=xF (a:=a) (ds:=ds) hT hi e (yR h0 h1).2 hv
 rw [zBz] at r1
 have l:(Str.ofString (toString n)).cps.toList.length=(Str.ofString (toString n)).length:=Array.length_toList
 rw [l] at r1
 unfold fnM
 rw [show bD 0 (Str.ofString "Reader") (Str.ofString "called") (Str.ofString "run_of") aW (aA (eC d_FIGURES) aNil) (oR (some a) T (i:Int) ds::L3.start (1 - 1) [])=_ from kM (r:=[]) rfl rfl (by decide) rfl r1,Res.ok_bind,zJW h0 h1]
 rfl
theorem zFc {j:Nat} {F:Mv} {ρ ρ':Rho} {d:D} {xs ys:List D} (hF:F ρ=.ok (d,ρ')) (h1:ρ[j]?=some (.own xs)) (h2:ρ'[j]?=some (.own ys)) (hl:ys.length < 1000):lX j F ρ=.ok (.nx (ρ'.set j (.own (ys++[d])))):=by
 unfold lX
 rw [h1]
 show (F ρ).bind (fun r=>zHD j r r.2[j]?)=_
 rw [hF,Res.ok_bind]
 show zHD j (d,ρ') ρ'[j]?=_
 rw [h2]
 show (if ys.length < 16777216 then _ else _)=_
 rw [if_pos (Nat.lt_trans hl (by decide))]
theorem xA {F:Mv} {ρ ρ':Rho} {d:D} (hF:F ρ=.ok (d,ρ')):iE F ρ=.ok (.nx ρ'):=by
 unfold iE
 rw [hF]
 rfl
theorem zGn {j:Nat} {F:Mv} {ρ ρ':Rho} {d:D} (hF:F ρ=.ok (d,ρ')):pD j F ρ=.ok (.nx (ρ'.set j (.val d))):=by
 unfold pD
 rw [hF]
 rfl
theorem xY {t:Tv} {b:Sv} {ρ ρ2:Rho} (ht:t ρ=.ok true) (hb:b ρ=.ok (.nx ρ2)):cZ t b ρ=cZ t b ρ2:=by
 rw [vB,ht,Res.ok_bind,if_pos rfl,hb]
 rfl
theorem zCr {t:Tv} {b:Sv} {ρ:Rho} (ht:t ρ=.ok false):cZ t b ρ=.ok (.nx ρ):=by
 rw [vB,ht]
 rfl
abbrev ls (x:Str):List Nat:=x.cps.toList
theorem nV (x y:Str):ls (x++y)=ls x++ls y:=by
 show (x.cps++y.cps).toList=_
 rw [Array.toList_append]
theorem eL (x:Str):(ls x).length=x.length:=Array.length_toList
theorem yF (s:Array Nat):∀ (r:List Str) (a b:Array Nat),r.foldl (fun acc p=>acc++s++p.cps) (a++b)=a++r.foldl (fun acc p=>acc++s++p.cps) b
 | [],a,b=>rfl
 | p::r,a,b=>by
  rw [List.foldl_cons,List.foldl_cons,Array.append_assoc,Array.append_assoc,yF s r a (b++(s++p.cps)),Array.append_assoc]
theorem xW (x y:Str) (r:List Str):ls (glu (x::y::r))=ls x++([44,32]++ls (glu (y::r))):=by
 have e:glu (x::y::r)=⟨(x.cps++(Str.ofString ", ").cps)++(glu (y::r)).cps⟩:=by
  show Builtin.Str.glued _ _=_
  unfold Builtin.Str.glued
  congr 1
  show (y::r).foldl (fun acc p=>acc++(Str.ofString ", ").cps++p.cps) x.cps=_
  rw [List.foldl_cons]
  exact yF (Str.ofString ", ").cps r (x.cps++(Str.ofString ", ").cps) y.cps
 rw [e]
 show (x.cps++(Str.ofString ", ").cps++(glu (y::r)).cps).toList=_
 rw [Array.toList_append,Array.toList_append,List.append_assoc]
 rfl
theorem zJi (c:Nat):inS ⟨#[c]⟩ abc=decide (c∈ls abc):=PySem.StrLaws.found_one _ _
theorem zEz (c:Nat):inS ⟨#[c]⟩ (Str.ofString "0123456789")=decide (c∈ls (Str.ofString "0123456789")):=PySem.StrLaws.found_one _ _
theorem zHl {x:Str} (h:lts x=true):∀ c∈ls x,inS ⟨#[c]⟩ abc=true:=List.all_eq_true.mp h
theorem zGa {x:Str} (h:isN x=true):lts x=true/\1<=x.length/\x.length<=12:=by
 unfold isN at h
 rw [Bool.and_eq_true] at h
 exact ⟨h.2,of_decide_eq_true h.1⟩
theorem zKN {w:Str} (h:w∈wys):lts w=true:=by
 have all:∀ w∈wys,lts w=true:=by decide +kernel
 exact all w h
def Stp (v:List Nat):Prop:=∀ c q,v=c::q->c=44∨c=41
theorem Stp.fig {v:List Nat} (h:Stp v):∀ c q,v=c::q->inS ⟨#[c]⟩ (Str.ofString "0123456789")=false:=fun c q e=>by
 rw [zEz]
 rcases h c q e with rfl | rfl<;>exact decide_eq_false (by decide)
def Rds (a:Addr) (T:Str) (n:Nat) (r:gH):Prop:=∀ (d:D) (ns:List Str) (deep i:Nat) (ds:List D) (v:List Nat),IsC n d->Clm (clm n d)->(clm n d).length<=12->(clm n d).length<=ns.length->(∀ x∈ns,isN x=true)->1<=deep->deep+n<=9->ds.length+(clm n d).length<=1000->i<=T.length->(T.cps.toList.drop i=ls (txt n d ns)++v)->Stp v->
 r a (fsR T i) ds [.int (deep:Int)]=.ok (d,fsR T ((i+(txt n d ns).length:Nat):Int),ds++(ns.take (clm n d).length).map D.str)
theorem zKA {w:Str} {r:Rho} {s:Sl}:cM (eOp oIn (aH 1) (eC d_WEIGHTED)) (s::.val (.str w)::r)=.ok (decide (isW w)):=by
 show (oIn (.str w) (.tup [.str "even", .str "lack"])).bind _=_
 rw [zDN]
 rfl
theorem zHT {w:Str} {x:Int} {ws:List Int} {m:Nat} (h:wOK w (x::ws) (m+1)):isW w/\1<=x/\x<=10^6/\wOK w ws m:=by
 rcases h with ⟨h1,h2,h3⟩ | ⟨_,h⟩
 ·exact ⟨h1,(h3 x List.mem_cons_self).1,(h3 x List.mem_cons_self).2,.inl ⟨h1,by rw [List.length_cons] at h2;omega,fun y hy=>h3 y (List.mem_cons_of_mem _ hy)⟩⟩
 ·cases h
section
variable {a:Addr} {T w:Str} {n:Nat} {r:gH}
theorem yS {k:D} {ns:List Str} {deep i:Nat} {ds wacc kacc:List D} {q:List Nat} {a5:Sl} (hT:T.length<=90000) (hr:Rds a T n r) (ic:IsC n k) (hc:Clm (clm n k)) (h12:(clm n k).length<=12) (hn:(clm n k).length<=ns.length) (hN:∀ x∈ns,isN x=true) (hd:deep+1+n<=9) (hds:ds.length+(clm n k).length<=1000) (h5:nob a5=true)
  (hk:kacc.length < 1000) (hi:i<=T.length) (e:T.cps.toList.drop i=ls (txt n k ns)++q) (more:Bool) (hq:if more=true then ∃ q',q=[44,32]++q' else ∃ q',q=41::q'):
  cQ r [oR (some a) T i ds,.val (.str w),.val (.int (deep:Int)),.own wacc,.own kacc,a5]=
   .ok (.nx [oR (some a) T ((i+(txt n k ns).length+(if more=true then 2 else 0):Nat):Int) (ds++(ns.take (clm n k).length).map D.str),.val (.str w),.val (.int (deep:Int)),.own wacc,.own (kacc++[k]),.val (.bl more)]):=by
 have st:Stp q:=by
  intro c q' e'
  cases more with
  | true=>rw [if_pos rfl] at hq;obtain ⟨q2,e2⟩:=hq;rw [e2] at e';cases e';exact .inl rfl
  | false=>rw [if_neg (by decide)] at hq;obtain ⟨q2,e2⟩:=hq;rw [e2] at e';cases e';exact .inr rfl
 have h1:=hr k ns (deep+1) i ds q ic hc h12 hn hN (by omega) (by omega) hds hi e st
 have l1:=dQ hi e
 rw [List.length_append,eL] at l1
 have nb:[Sl.val (.str w),.val (.int (deep:Int)),.own wacc,.own kacc,a5].all nob=true:=by simp only [List.all_cons,List.all_nil,h5];rfl
 have c1:bD 0 cR cC (Str.ofString "next_custom") r (aA (eOp qK (aH 2) (eC (.int 1))) aNil) [oR (some a) T i ds,.val (.str w),.val (.int (deep:Int)),.own wacc,.own kacc,a5]=_:=kM nb rfl (by decide) (as:=[.int ((deep+1:Nat):Int)]) rfl h1
 have a1:=zFc (j:=4) (xs:=kacc) (ys:=kacc) c1 rfl rfl hk
 unfold cQ eZ
 rw [sSeq_at,show lX 4 (bD 0 (Str.ofString "Reader") (Str.ofString "called") (Str.ofString "next_custom") r (aA (eOp qK (aH 2) (eC (.int 1))) aNil)) [oR (some a) T i ds,.val (.str w),.val (.int (deep:Int)),.own wacc,.own kacc,a5]=_ from a1,okb,seqF_nx]
 have e2:T.cps.toList.drop (i+(txt n k ns).length)=q:=by
  have:=dA e
  rw [eL] at this
  exact this
 have nb2:[Sl.val (.str w),.val (.int (deep:Int)),.own wacc,.own (kacc++[k]),a5].all nob=true:=by simp only [List.all_cons,List.all_nil,h5];rfl
 have go:bD 0 cR cC (Str.ofString "takes") aK (aA (eC (.str (Str.ofString ", "))) aNil) [oR (some a) T ((i+(txt n k ns).length:Nat):Int) (ds++(ns.take (clm n k).length).map D.str),.val (.str w),.val (.int (deep:Int)),.own wacc,.own (kacc++[k]),a5]=.ok (.bl more,[oR (some a) T ((i+(txt n k ns).length+(if more=true then 2 else 0):Nat):Int) (ds++(ns.take (clm n k).length).map D.str),.val (.str w),.val (.int (deep:Int)),.own wacc,.own (kacc++[k]),a5]):=by
  refine kM nb2 rfl (by decide) rfl ?_
  cases more with
  | true=>
   rw [if_pos rfl] at hq
   obtain ⟨q2,eq2⟩:=hq
   exact oP (y:=Str.ofString ", ") (q:=q2) (by decide) (by omega) (by rw [e2,eq2];rfl)
  | false=>
   rw [if_neg (by decide)] at hq
   obtain ⟨q2,eq2⟩:=hq
   exact vE (y:=Str.ofString ", ") (c:=44) (u:=[32]) (by omega) rfl (by rw [e2,eq2];exact fun z=>by cases z)
 exact zGn (j:=5) go
end
section
variable {a:Addr} {T w:Str} {n:Nat} {r:gH}
theorem sX {k:D} {ns:List Str} {deep i:Nat} {ds wacc kacc wx:List D} {q:List Nat} {a5:Sl} {p:Str} (hT:T.length<=90000) (hr:Rds a T n r) (ic:IsC n k) (hc:Clm (clm n k)) (h12:(clm n k).length<=12) (hn:(clm n k).length<=ns.length) (hN:∀ x∈ns,isN x=true) (hd:deep+1+n<=9) (hds:ds.length+(clm n k).length<=1000) (h5:nob a5=true)
  (hw:wacc.length < 1000) (hk:kacc.length < 1000) (hi:i<=T.length) (hp:(isW w/\∃ x:Int,1<=x/\x<=10^6/\wx=[.int x]/\p=toString x++Str.ofString " " ++ txt n k ns)∨(¬ isW w/\wx=[]/\p=txt n k ns)) (e:T.cps.toList.drop i=ls p++q) (more:Bool) (hq:if more=true then ∃ q',q=[44,32]++q' else ∃ q',q=41::q'):
  bL r [oR (some a) T i ds,.val (.str w),.val (.int (deep:Int)),.own wacc,.own kacc,a5]=
   .ok (.nx [oR (some a) T ((i+p.length+(if more=true then 2 else 0):Nat):Int) (ds++(ns.take (clm n k).length).map D.str),.val (.str w),.val (.int (deep:Int)),.own (wacc++wx),.own (kacc++[k]),.val (.bl more)]):=by
 unfold bL
 rw [sSeq_at,sIf_at,zKA,okb]
 rcases hp with ⟨h1,x,x1,x2,rfl,rfl⟩ | ⟨h1,rfl,rfl⟩
 ·rw [decide_eq_true h1,ifF_t,sSeq_at]
  have e1:T.cps.toList.drop i=ls (Str.ofString (toString x))++(32::(ls (txt n k ns)++q)):=by
   rw [e,nV,nV,List.append_assoc,List.append_assoc]
   rfl
  have nb:[Sl.val (.str w),.val (.int (deep:Int)),.own wacc,.own kacc,a5].all nob=true:=by simp only [List.all_cons,List.all_nil,h5];rfl
  have nn:=kE (a:=a) (ds:=ds) (n:=x) hT hi (by omega) (by omega) e1 (fun c q' e'=>by cases e';rw [zEz];exact decide_eq_false (by decide))
  have c1:bD 0 cR cC (Str.ofString "next_number") aJ aNil [oR (some a) T i ds,.val (.str w),.val (.int (deep:Int)),.own wacc,.own kacc,a5]=_:=kM nb rfl (by decide) rfl nn
  have a1:=zFc (j:=3) (xs:=wacc) (ys:=wacc) c1 rfl rfl hw
  rw [show lX 3 (bD 0 (Str.ofString "Reader") (Str.ofString "called") (Str.ofString "next_number") aJ aNil) [oR (some a) T i ds,.val (.str w),.val (.int (deep:Int)),.own wacc,.own kacc,a5]=_ from a1,okb,seqF_nx]
  have l1:=dQ hi e1
  rw [List.length_append,eL,List.length_cons] at l1
  have e2:T.cps.toList.drop (i+(Str.ofString (toString x)).length)=ls (Str.ofString " ")++(ls (txt n k ns)++q):=by
   have:=dA e1
   rw [eL] at this
   exact this
  have nb2:[Sl.val (.str w),.val (.int (deep:Int)),.own (wacc++[.int x]),.own kacc,a5].all nob=true:=by simp only [List.all_cons,List.all_nil,h5];rfl
  have c2:bD 0 cR cC (Str.ofString "needs") aQ (aA (eC (.str (Str.ofString " "))) aNil) [oR (some a) T ((i+(Str.ofString (toString x)).length:Nat):Int) ds,.val (.str w),.val (.int (deep:Int)),.own (wacc++[.int x]),.own kacc,a5]=_:=kM nb2 rfl (by decide) rfl (wC (y:=Str.ofString " ") (by decide) (by omega) e2)
  have d2:cS r [oR (some a) T ((i+(Str.ofString (toString x)).length:Nat):Int) ds,.val (.str w),.val (.int (deep:Int)),.own (wacc++[.int x]),.own kacc,a5]=_:=xA c2
  rw [show cS r ([oR (some a) T ((i+(Str.ofString (toString x)).length:Nat):Int) ds,Sl.val (.str w),.val (.int (deep:Int)),.own wacc,.own kacc,a5].set 3 (.own (wacc++[.int x])))=_ from d2,okb,seqF_nx]
  have e3:T.cps.toList.drop (i+(Str.ofString (toString x)).length+(Str.ofString " ").length)=ls (txt n k ns)++q:=dA e2
  have kt:=yS (a:=a) (T:=T) (w:=w) (n:=n) (r:=r) (wacc:=wacc++[.int x]) (a5:=a5) hT hr ic hc h12 hn hN hd hds h5 hk (by have:(Str.ofString " ").length=1:=rfl;omega) e3 more hq
  rw [kt]
  have len:(Str.ofString (toString x)++Str.ofString " " ++ txt n k ns).length=(Str.ofString (toString x)).length+(Str.ofString " ").length+(txt n k ns).length:=by rw [strLen_append,strLen_append]
  show _=Res.ok (Fl.nx [oR (some a) T ((i+(Str.ofString (toString x)++Str.ofString " " ++ txt n k ns).length+(if more=true then 2 else 0):Nat):Int) _,_,_,_,_,_])
  rw [len,show i+((Str.ofString (toString x)).length+(Str.ofString " ").length+(txt n k ns).length)=i+(Str.ofString (toString x)).length+(Str.ofString " ").length+(txt n k ns).length by omega]
 ·rw [decide_eq_false h1,ifF_f]
  rw [show sNext [oR (some a) T i ds,Sl.val (.str w),.val (.int (deep:Int)),.own wacc,.own kacc,a5]=.ok (.nx [oR (some a) T i ds,Sl.val (.str w),.val (.int (deep:Int)),.own wacc,.own kacc,a5]) from rfl,okb,seqF_nx,List.append_nil]
  exact yS (a:=a) (T:=T) (w:=w) (n:=n) (r:=r) hT hr ic hc h12 hn hN hd hds h5 hk hi e more hq
theorem zDo {x:Int} {ws:List Int} {t:Str} {ts:List Str} (h:isW w):pts w ((x::ws).map D.int) (t::ts)=(toString x++Str.ofString " " ++ t)::pts w (ws.map D.int) ts:=by
 unfold pts
 rw [if_pos h,if_pos h]
 rfl
theorem uK {ws ts:List _} (h:¬ isW w):pts w ws ts=ts:=if_neg h
theorem tR {deep:Nat} {v:List Nat} (hT:T.length<=90000) (hr:Rds a T n r) (hd:deep+1+n<=9):∀ (ks:List D) (ws:List Int) (ns:List Str) (i:Nat) (ds wacc kacc:List D),ks≠[]->wOK w ws ks.length->(∀ k∈ks,IsC n k)->Clm (ks.flatMap (clm n))->(ks.flatMap (clm n)).length<=12->(ks.flatMap (clm n)).length<=ns.length->(∀ x∈ns,isN x=true)->
  ds.length+(ks.flatMap (clm n)).length<=1000->wacc.length+ks.length<=1000->kacc.length+ks.length<=1000->i<=T.length->T.cps.toList.drop i=ls (glu (pts w (ws.map D.int) (hU (txt n) (fun k=>(clm n k).length) ks ns)))++41::v->
  cZ (cM (aH 5)) (bL r) [oR (some a) T i ds,.val (.str w),.val (.int (deep:Int)),.own wacc,.own kacc,.val (.bl true)]=
   .ok (.nx [oR (some a) T ((i+(glu (pts w (ws.map D.int) (hU (txt n) (fun k=>(clm n k).length) ks ns))).length:Nat):Int) (ds++(ns.take (ks.flatMap (clm n)).length).map D.str),.val (.str w),.val (.int (deep:Int)),.own (wacc++ws.map D.int),.own (kacc++ks),.val (.bl false)])
 | [],_,_,_,_,_,_,h,_,_,_,_,_,_,_,_,_,_,_=>absurd rfl h
 | k::ks,ws,ns,i,ds,wacc,kacc,_,hw,hk,hc,h12,hn,hN,hds,lw,lk,hi,e=>by
  rw [List.flatMap_cons] at hc h12 hn hds ⊢
  rw [List.length_append] at h12 hn hds
  rw [List.length_cons] at hw lw lk
  have ck:Clm (clm n k):=fun c hm=>hc c (List.mem_append_left _ hm)
  have cks:Clm (ks.flatMap (clm n)):=fun c hm=>hc c (List.mem_append_right _ hm)
  have ic:=hk k List.mem_cons_self
  obtain ⟨wx,ws',p,hwx,hws,hwo,hp,hpt⟩:∃ (wx:List Int) (ws':List Int) (p:Str),ws=wx++ws'/\wx.length<=1/\wOK w ws' ks.length/\((isW w/\∃ x:Int,1<=x/\x<=10^6/\wx.map D.int=[.int x]/\p=toString x++Str.ofString " " ++ txt n k ns)∨(¬ isW w/\wx.map D.int=[]/\p=txt n k ns))/\
    pts w (ws.map D.int) (hU (txt n) (fun k=>(clm n k).length) (k::ks) ns)=p::pts w (ws'.map D.int) (hU (txt n) (fun k=>(clm n k).length) ks (ns.drop (clm n k).length)):=by
   by_cases z:isW w
   ·cases ws with
    | nil=>
     rcases hw with ⟨_,h2,_⟩ | ⟨h,_⟩
     ·rw [List.length_nil] at h2;omega
     ·exact absurd z h
    | cons x ws'=>
     obtain ⟨_,x1,x2,h4⟩:=zHT hw
     exact ⟨[x],ws',_,rfl,Nat.le_refl _,h4,.inl ⟨z,x,x1,x2,rfl,rfl⟩,by rw [hU,zDo z]⟩
   ·rcases hw with ⟨h,_,_⟩ | ⟨_,h⟩
    ·exact absurd h z
    ·subst h
     exact ⟨[],[],txt n k ns,rfl,by decide,.inr ⟨z,rfl⟩,.inr ⟨z,rfl,rfl⟩,by rw [uK z,uK z,hU]⟩
  subst hwx
  rw [hpt] at e ⊢
  have tv:∀ {s0 s1 s2 s3 s4:Sl} {b:Bool},cM (aH 5) [s0,s1,s2,s3,s4,.val (.bl b)]=.ok b:=rfl
  have ln1:(clm n k).length<=ns.length:=by omega
  cases ks with
  | nil=>
   have en:pts w (ws'.map D.int) (hU (txt n) (fun k=>(clm n k).length) [] (ns.drop (clm n k).length))=[]:=by
    unfold pts hU
    by_cases z:isW w
    ·rw [if_pos z,List.zipWith_nil_right]
    ·rw [if_neg z]
   have ew:ws'=[]:=by
    rcases hwo with ⟨_,h2,_⟩ | ⟨_,h⟩
    ·exact List.eq_nil_of_length_eq_zero h2
    ·exact h
   rw [en,zGC] at e ⊢
   subst ew
   have t1:=sX (a:=a) (T:=T) (w:=w) (n:=n) (r:=r) (deep:=deep) (ds:=ds) (wacc:=wacc) (kacc:=kacc) (a5:=.val (.bl true)) hT hr ic ck (by omega) ln1 hN hd (by omega) rfl (by omega) (by omega) hi hp e false ⟨v,rfl⟩
   rw [xY tv t1,zCr tv,List.flatMap_nil,List.append_nil,List.append_nil]
   rfl
  | cons k2 ks=>
   obtain ⟨p2,rest,e2⟩:∃ p2 rest,pts w (ws'.map D.int) (hU (txt n) (fun k=>(clm n k).length) (k2::ks) (ns.drop (clm n k).length))=p2::rest:=by
    have l:=zGA (w:=w) (ws:=ws') (ts:=hU (txt n) (fun k=>(clm n k).length) (k2::ks) (ns.drop (clm n k).length)) (by rw [kT];exact hwo)
    rw [kT] at l
    cases z:pts w (ws'.map D.int) (hU (txt n) (fun k=>(clm n k).length) (k2::ks) (ns.drop (clm n k).length)) with
    | nil=>rw [z] at l;cases l
    | cons p2 rest=>exact ⟨p2,rest,rfl⟩
   rw [e2,xW,List.append_assoc,List.append_assoc] at e
   have t1:=sX (a:=a) (T:=T) (w:=w) (n:=n) (r:=r) (deep:=deep) (ds:=ds) (wacc:=wacc) (kacc:=kacc) (a5:=.val (.bl true)) hT hr ic ck (by omega) ln1 hN hd (by omega) rfl (by omega) (by omega) hi hp e true ⟨_,rfl⟩
   have l1:=dQ hi e
   simp only [List.length_append,eL,List.length_cons,List.length_nil] at l1
   have e3:T.cps.toList.drop (i+p.length+2)=ls (glu (p2::rest))++41::v:=by
    have:=dA e
    rw [eL] at this
    exact dA (p:=[44,32]) this
   rw [<-e2] at e3
   have lt1:((ns.take (clm n k).length).map D.str).length=(clm n k).length:=by rw [List.length_map,List.length_take,Nat.min_eq_left ln1]
   have lwx:(wx.map D.int).length<=1:=by rw [List.length_map];exact hws
   have ih:=tR hT hr hd (k2::ks) ws' (ns.drop (clm n k).length) (i+p.length+2) (ds++(ns.take (clm n k).length).map D.str) (wacc++wx.map D.int) (kacc++[k]) (fun z=>by cases z) hwo (fun x hx=>hk x (List.mem_cons_of_mem _ hx)) cks (by omega) (by rw [List.length_drop];omega) (fun x hx=>hN x (List.mem_of_mem_drop hx)) (by rw [List.length_append,lt1];omega) (by rw [List.length_append];omega) (by rw [List.length_append];show kacc.length+1+_<=_;omega) (by omega) e3
   rw [if_pos rfl] at t1
   rw [xY tv t1,ih]
   have e4:(ds++(ns.take (clm n k).length).map D.str)++((ns.drop (clm n k).length).take ((k2::ks).flatMap (clm n)).length).map D.str=ds++(ns.take (clm n k++(k2::ks).flatMap (clm n)).length).map D.str:=by
    rw [List.append_assoc,<-List.map_append,List.length_append,List.take_add]
   have e5:(glu (p::p2::rest)).length=p.length+2+(glu (p2::rest)).length:=by
    rw [<-eL,xW,List.length_append,List.length_append,eL,eL]
    show p.length+(2+_)=_
    omega
   rw [e4,e2,e5,List.map_append,List.append_assoc,List.append_assoc,show i+(p.length+2+(glu (p2::rest)).length)=i+p.length+2+(glu (p2::rest)).length by omega]
   rfl
end
section
variable {a:Addr} {T:Str} {r:gH}
theorem uW {word:Str} {deep i:Nat} {ds:List D} {c:Nat} {q:List Nat} (hT:T.length<=90000) (hd:deep<=8) (hi:i<=T.length) (hw:lts word=true) (hc:c∉ls abc) (e:T.cps.toList.drop i=ls word++c::q):
  (bI (sIf (cM (eOp oGt (aH 1) (eC d_DEEPEST))) sNo sNext) (bV r)) [oR (some a) T i ds,.val (.int (deep:Int)),.un]=bT r [oR (some a) T ((i+word.length:Nat):Int) ds,.val (.int (deep:Int)),.val (.str word)]:=by
 have h1:cM (eOp oGt (aH 1) (eC d_DEEPEST)) [oR (some a) T i ds,.val (.int (deep:Int)),.un]=.ok false:=by
  show Res.ok (decide ((8:Int) < (deep:Int)))=_
  rw [decide_eq_false (by omega)]
 rw [sSeq_at,sIf_at,h1,okb,ifF_f]
 show bV r [oR (some a) T i ds,.val (.int (deep:Int)),.un]=_
 have r1:=xF (a:=a) (ds:=ds) hT hi e (zHl hw) (fun c' q' e'=>by cases e';rw [zJi];exact decide_eq_false hc)
 rw [zBz,eL] at r1
 have c1:bD 0 cR cC (Str.ofString "run_of") aW (aA (eC d_LETTERS) aNil) [oR (some a) T i ds,.val (.int (deep:Int)),.un]=_:=kM (r:=[.val (.int (deep:Int)),.un]) rfl rfl (by decide) rfl r1
 unfold bV
 rw [sSeq_at,show pD 2 (bD 0 (Str.ofString "Reader") (Str.ofString "called") (Str.ofString "run_of") aW (aA (eC d_LETTERS) aNil)) [oR (some a) T i ds,.val (.int (deep:Int)),.un]=_ from zGn (j:=2) c1,okb,seqF_nx]
 rfl
theorem zBG {c:Int} {x:Str} {deep i:Nat} {ds:List D} {v:List Nat} (hT:T.length<=90000) (hd:deep<=8) (hi:i<=T.length) (hx:isN x=true) (h0:0<=c) (h1:c<=10^9) (hds:ds.length<=1000) (st:Stp v) (e:T.cps.toList.drop i=ls (x++Str.ofString ":" ++ toString c)++v):
  bJ r a (fsR T i) ds [.int (deep:Int)]=.ok (.tup [.str "boat", .int c],fsR T ((i+(x++Str.ofString ":" ++ toString c).length:Nat):Int),ds++[.str x]):=by
 obtain ⟨hl,_,_⟩:=zGa hx
 have e0:T.cps.toList.drop i=ls x++58::(ls (Str.ofString (toString c))++v):=by
  rw [e,nV,nV,List.append_assoc,List.append_assoc]
  rfl
 have l0:=dQ hi e0
 rw [List.length_append,eL,List.length_cons,List.length_append,eL] at l0
 have e1:T.cps.toList.drop (i+x.length)=58::(ls (Str.ofString (toString c))++v):=by
  have:=dA e0
  rw [eL] at this
  exact this
 refine rX rfl ?_
 refine (uW (r:=r) hT hd hi hl (by decide) e0).trans ?_
 have nb:∀ s:Str,[Sl.val (.int (deep:Int)),.val (.str s)].all nob=true:=fun _=>rfl
 have c1:bD 0 cR cC (Str.ofString "takes") aK (aA (eC (.str (Str.ofString "("))) aNil) [oR (some a) T ((i+x.length:Nat):Int) ds,.val (.int (deep:Int)),.val (.str x)]=_:=kM (nb x) rfl (by decide) rfl (vE (y:=Str.ofString "(") (c:=40) (u:=[]) (by omega) rfl (by rw [e1];exact fun z=>by cases z))
 have t1:tmV (bD 0 cR cC (Str.ofString "takes") aK (aA (eC (.str (Str.ofString "("))) aNil)) [oR (some a) T ((i+x.length:Nat):Int) ds,.val (.int (deep:Int)),.val (.str x)]=.ok (false,[oR (some a) T ((i+x.length:Nat):Int) ds,.val (.int (deep:Int)),.val (.str x)]):=by
  unfold tmV
  rw [c1]
  rfl
 unfold bT
 rw [sSeq_at]
 unfold zAL
 rw [show tmV (bD 0 (Str.ofString "Reader") (Str.ofString "called") (Str.ofString "takes") aK (aA (eC (.str (Str.ofString "("))) aNil)) [oR (some a) T ((i+x.length:Nat):Int) ds,.val (.int (deep:Int)),.val (.str x)]=_ from t1,Res.ok_bind,if_neg (fun z=>by cases z)]
 show cJ r [oR (some a) T ((i+x.length:Nat):Int) ds,.val (.int (deep:Int)),.val (.str x)]=_
 have c2:bD 0 cR cC (Str.ofString "needs") aQ (aA (eC (.str (Str.ofString ":"))) aNil) [oR (some a) T ((i+x.length:Nat):Int) ds,.val (.int (deep:Int)),.val (.str x)]=_:=kM (nb x) rfl (by decide) rfl (wC (y:=Str.ofString ":") (q:=ls (Str.ofString (toString c))++v) (by decide) (by omega) e1)
 unfold cJ
 rw [sSeq_at,show iE (bD 0 (Str.ofString "Reader") (Str.ofString "called") (Str.ofString "needs") aQ (aA (eC (.str (Str.ofString ":"))) aNil)) [oR (some a) T ((i+x.length:Nat):Int) ds,.val (.int (deep:Int)),.val (.str x)]=_ from xA c2,okb,seqF_nx]
 unfold dX
 rw [sSeq_at,show zBu 0 (Str.ofString "Reader") (Str.ofString "called") (aH 2) [oR (some a) T ((i+x.length+(Str.ofString ":").length:Nat):Int) ds,.val (.int (deep:Int)),.val (.str x)]=_ from zLT (d:=.str x) (nb x) (by omega) rfl,okb,seqF_nx]
 have e2:T.cps.toList.drop (i+x.length+(Str.ofString ":").length)=ls (Str.ofString (toString c))++v:=dA (p:=[58]) e1
 have nn:=kE (a:=a) (ds:=ds++[.str x]) (n:=c) hT (by have:(Str.ofString ":").length=1:=rfl;omega) h0 (by omega) e2 st.fig
 have c3:bD 0 cR cC (Str.ofString "next_number") aJ aNil [oR (some a) T ((i+x.length+(Str.ofString ":").length:Nat):Int) (ds++[.str x]),.val (.int (deep:Int)),.val (.str x)]=_:=kM (nb x) rfl (by decide) rfl nn
 have c4:fnM kO (bD 0 (Str.ofString "Reader") (Str.ofString "called") (Str.ofString "next_number") aJ aNil) [oR (some a) T ((i+x.length+(Str.ofString ":").length:Nat):Int) (ds++[.str x]),.val (.int (deep:Int)),.val (.str x)]=.ok (.tup [.str "boat", .int c],[oR (some a) T ((i+x.length+(Str.ofString ":").length+(Str.ofString (toString c)).length:Nat):Int) (ds++[.str x]),.val (.int (deep:Int)),.val (.str x)]):=by
  unfold fnM
  rw [show bD 0 (Str.ofString "Reader") (Str.ofString "called") (Str.ofString "next_number") aJ aNil [oR (some a) T ((i+x.length+(Str.ofString ":").length:Nat):Int) (ds++[.str x]),.val (.int (deep:Int)),.val (.str x)]=_ from c3,Res.ok_bind,zED h0 h1]
  rfl
 have len:(x++Str.ofString ":" ++ Str.ofString (toString c)).length=x.length+(Str.ofString ":").length+(Str.ofString (toString c)).length:=by rw [strLen_append,strLen_append]
 refine (zCT c4).trans ?_
 show _=Res.ok (Fl.ret (.w a _ cR cC (fsR T ((i+(x++Str.ofString ":" ++ Str.ofString (toString c)).length:Nat):Int)) _))
 rw [len,show i+(x.length+(Str.ofString ":").length+(Str.ofString (toString c)).length)=i+x.length+(Str.ofString ":").length+(Str.ofString (toString c)).length by omega]
theorem next_knot {w:Str} {ws:List Int} {ks:List D} {ns:List Str} {n deep i:Nat} {ds:List D} {v:List Nat} (hT:T.length<=90000) (hr:Rds a T n r) (h1d:1<=deep) (hd:deep+1+n<=9) (hi:i<=T.length) (hw:w∈wys) (hwo:wOK w ws ks.length) (k0:0 < ks.length) (k1:ks.length<=100) (l1:ws.length<=100) (hk:∀ k∈ks,IsC n k) (hc:Clm (ks.flatMap (clm n))) (h12:(ks.flatMap (clm n)).length<=12) (hn:(ks.flatMap (clm n)).length<=ns.length) (hN:∀ x∈ns,isN x=true) (hds:ds.length+(ks.flatMap (clm n)).length<=1000)
  (e:T.cps.toList.drop i=ls (w++Str.ofString "(" ++ glu (pts w (ws.map D.int) (hU (txt n) (fun k=>(clm n k).length) ks ns))++Str.ofString ")")++v):
  bJ r a (fsR T i) ds [.int (deep:Int)]=.ok (.tup [.str w,.tup (ws.map D.int),.tup ks],fsR T ((i+(w++Str.ofString "(" ++ glu (pts w (ws.map D.int) (hU (txt n) (fun k=>(clm n k).length) ks ns))++Str.ofString ")").length:Nat):Int),ds++(ns.take (ks.flatMap (clm n)).length).map D.str):=by
 generalize hg:glu (pts w (ws.map D.int) (hU (txt n) (fun k=>(clm n k).length) ks ns))=g at e ⊢
 have e0:T.cps.toList.drop i=ls w++40::(ls g++41::v):=by
  rw [e,nV,nV,nV]
  simp only [List.append_assoc]
  rfl
 have l0:=dQ hi e0
 simp only [List.length_append,List.length_cons] at l0
 rw [eL,eL] at l0
 have e1:T.cps.toList.drop (i+w.length)=ls (Str.ofString "(")++(ls g++41::v):=by
  have:=dA e0
  rw [eL] at this
  exact this
 have e2:T.cps.toList.drop (i+w.length+(Str.ofString "(").length)=ls g++41::v:=dA e1
 have one:(Str.ofString "(").length=1:=rfl
 have one':(Str.ofString ")").length=1:=rfl
 refine rX rfl ?_
 refine (uW (r:=r) hT (by omega) hi (zKN hw) (by decide) e0).trans ?_
 have nb:[Sl.val (.int (deep:Int)),.val (.str w)].all nob=true:=rfl
 have c1:bD 0 cR cC (Str.ofString "takes") aK (aA (eC (.str (Str.ofString "("))) aNil) [oR (some a) T ((i+w.length:Nat):Int) ds,.val (.int (deep:Int)),.val (.str w)]=_:=kM nb rfl (by decide) rfl (oP (y:=Str.ofString "(") (by decide) (by omega) e1)
 have t1:tmV (bD 0 cR cC (Str.ofString "takes") aK (aA (eC (.str (Str.ofString "("))) aNil)) [oR (some a) T ((i+w.length:Nat):Int) ds,.val (.int (deep:Int)),.val (.str w)]=.ok (true,[oR (some a) T ((i+w.length+(Str.ofString "(").length:Nat):Int) ds,.val (.int (deep:Int)),.val (.str w)]):=by
  unfold tmV
  rw [c1]
  rfl
 have kn:bG r a (fsR T ((i+w.length+(Str.ofString "(").length:Nat):Int)) ds [.str w,.int (deep:Int)]=.ok (.tup [.str w,.tup (ws.map D.int),.tup ks],fsR T ((i+w.length+(Str.ofString "(").length+g.length+(Str.ofString ")").length:Nat):Int),ds++(ns.take (ks.flatMap (clm n)).length).map D.str):=by
  refine rX rfl ?_
  show (bI (zCy 3 (pS aNil)) (eW r)) [oR (some a) T ((i+w.length+(Str.ofString "(").length:Nat):Int) ds,.val (.str w),.val (.int (deep:Int)),.un,.un,.un]=_
  show (cZ (cM (aH 5)) (bL r) [oR (some a) T ((i+w.length+(Str.ofString "(").length:Nat):Int) ds,.val (.str w),.val (.int (deep:Int)),.own [],.own [],.val (.bl true)]).bind _=_
  rw [<-hg] at e2
  have lp:=tR (a:=a) (T:=T) (w:=w) (n:=n) (r:=r) (deep:=deep) (v:=v) hT hr hd ks ws ns (i+w.length+(Str.ofString "(").length) ds [] [] (fun z=>by rw [z] at k0;cases k0) hwo hk hc h12 hn hN (by omega) (by rw [List.length_nil];omega) (by rw [List.length_nil];omega) (by omega) e2
  rw [hg] at lp e2
  rw [lp,List.nil_append,List.nil_append,Res.ok_bind]
  show (eN r) [oR (some a) T ((i+w.length+(Str.ofString "(").length+g.length:Nat):Int) (ds++(ns.take (ks.flatMap (clm n)).length).map D.str),.val (.str w),.val (.int (deep:Int)),.own (ws.map D.int),.own ks,.val (.bl false)]=_
  show (bI (iE (bD 0 (Str.ofString "Reader") (Str.ofString "called") (Str.ofString "needs") aQ (aA (eC (.str (Str.ofString ")"))) aNil))) (eJ r)) [oR (some a) T ((i+w.length+(Str.ofString "(").length+g.length:Nat):Int) (ds++(ns.take (ks.flatMap (clm n)).length).map D.str),.val (.str w),.val (.int (deep:Int)),.val (.lst (ws.map D.int)),.val (.lst ks),.val (.bl false)]=_
  have e3:T.cps.toList.drop (i+w.length+(Str.ofString "(").length+g.length)=ls (Str.ofString ")")++v:=by
   have:=dA e2
   rw [eL] at this
   exact this
  have c3:bD 0 cR cC (Str.ofString "needs") aQ (aA (eC (.str (Str.ofString ")"))) aNil) [oR (some a) T ((i+w.length+(Str.ofString "(").length+g.length:Nat):Int) (ds++(ns.take (ks.flatMap (clm n)).length).map D.str),.val (.str w),.val (.int (deep:Int)),.val (.lst (ws.map D.int)),.val (.lst ks),.val (.bl false)]=_:=kM (r:=[.val (.str w),.val (.int (deep:Int)),.val (.lst (ws.map D.int)),.val (.lst ks),.val (.bl false)]) rfl rfl (by decide) rfl (wC (y:=Str.ofString ")") (by decide) (by omega) e3)
  rw [sSeq_at,show iE (bD 0 (Str.ofString "Reader") (Str.ofString "called") (Str.ofString "needs") aQ (aA (eC (.str (Str.ofString ")"))) aNil)) _=_ from xA c3,okb,seqF_nx]
  refine zIQ ?_
  have fk:=(zES (w:=w) (ws:=ws) (ks:=ks) (n:=n) (.inl rfl) hw hwo l1 k0 k1 (by omega) hk h12).1
  show (kB [.str w,.lst (ws.map D.int),.lst ks]).bind (fun x=>Res.ok x.d)=_
  rw [fk]
  rfl
 have c2:bD 0 cR cC (Str.ofString "next_knot") (bG r) (aA (aH 2) (aA (aH 1) aNil)) [oR (some a) T ((i+w.length+(Str.ofString "(").length:Nat):Int) ds,.val (.int (deep:Int)),.val (.str w)]=_:=kM nb rfl (by decide) rfl kn
 unfold bT
 rw [sSeq_at]
 unfold zAL
 rw [show tmV (bD 0 (Str.ofString "Reader") (Str.ofString "called") (Str.ofString "takes") aK (aA (eC (.str (Str.ofString "("))) aNil)) [oR (some a) T ((i+w.length:Nat):Int) ds,.val (.int (deep:Int)),.val (.str w)]=_ from t1,Res.ok_bind,if_pos rfl]
 have len:(w++Str.ofString "(" ++ g++Str.ofString ")").length=w.length+(Str.ofString "(").length+g.length+(Str.ofString ")").length:=by rw [strLen_append,strLen_append,strLen_append]
 rw [show mH (bD 0 (Str.ofString "Reader") (Str.ofString "called") (Str.ofString "next_knot") (bG r) (aA (aH 2) (aA (aH 1) aNil))) [oR (some a) T ((i+w.length+(Str.ofString "(").length:Nat):Int) ds,.val (.int (deep:Int)),.val (.str w)]=_ from zCT c2,okb,seqF_ret,len,show i+(w.length+(Str.ofString "(").length+g.length+(Str.ofString ")").length)=i+w.length+(Str.ofString "(").length+g.length+(Str.ofString ")").length by omega]
end
theorem zEN {a:Addr} {T:Str} (hT:T.length<=90000):∀ (n N:Nat),n<=N->n<=8->Rds a T n (aO N)
 | 0,_,_,_=>fun d ns deep i ds v ic=>ic.elim
 | n+1,N+1,hN,h8=>fun d ns deep i ds v ic hc h12 hn hg h1d hd hds hi e st=>by
  have ih:=zEN (a:=a) hT n N (by omega) (by omega)
  show bJ (aO N) a (fsR T i) ds [.int (deep:Int)]=_
  rcases ic with ⟨c,rfl⟩ | ⟨w,ws,ks,rfl,hb,k0,k1,l1,⟨hw,hwo⟩,hk⟩
  ·have ec:clm (n+1) (.tup [.str "boat", .int c])=[c]:=rfl
   rw [ec] at hc hn hds ⊢
   cases ns with
   | nil=>cases hn
   | cons x ns=>
    have h01:=hc c List.mem_cons_self
    exact zBG (x:=x) hT (by omega) hi (hg x List.mem_cons_self) h01.1 h01.2 (by rw [List.length_singleton] at hds;omega) st e
  ·have ec:clm (n+1) (.tup [.str w,.tup (ws.map D.int),.tup ks])=ks.flatMap (clm n):=rfl
   rw [ec] at hc hn h12 hds ⊢
   exact next_knot hT ih h1d (by omega) hi hw hwo k0 k1 l1 hk hc h12 hn hg hds e
 | _+1,0,h,_=>absurd h (by omega)
section
variable {T:Str} {i j:Int} {ds es:List D} {s0 s2:Sl}
theorem zEC {m:Str} {kX:gH} {fs:Fv} {as:List D} {d:D} (h0:nob s0=true) (h2:nob s2=true) (hm:((fsR T i).lookup m).isNone=true) (hc:m≠cC) (ha:fs [s0,oR none T i ds,s2]=.ok as) (h:∀ a,kX a (fsR T i) ds as=.ok (d,fsR T j,es)):bD 1 cR cC m kX fs [s0,oR none T i ds,s2]=.ok (d,[s0,oR none T j es,s2]):=by
 have lo:kW 1 [s0,oR none T i ds,s2]=true:=by
  show (nob s0 && [s2].all nob)=true
  rw [h0,List.all_cons,h2]
  rfl
 show zJC 1 cR cC m kX [s0,oR none T i ds,s2] (fs [s0,oR none T i ds,s2]) (some (oR none T i ds))=_
 rw [ha]
 show (if cR=cR/\cC=cC/\kW 1 [s0,oR none T i ds,s2]=true/\((fsR T i).lookup m).isNone=true/\m≠cC then (atA (fun a=>kX a (fsR T i) ds as) none).bind (fun q=>.ok (q.1,[s0,oR none T i ds,s2].set 1 (.obj none cR cC q.2.1 q.2.2))) else .no)=_
 rw [if_pos ⟨rfl,rfl,lo,hm,hc⟩,zIq h]
 rfl
end
theorem zIx {d:D} {ns:List Str} (ic:IsC 8 d) (hc:Clm (clm 8 d)) (hl:(clm 8 d).length<=12) (hn:ns.length=(clm 8 d).length) (hN:∀ x∈ns,isN x=true) (hr:aM [d,.lst (ns.map D.str)]=.ok (.v .non)):
  jZ [.str (txt 8 d ns)]=.ok (d,ns.map D.str):=by
 have lT:=wX 8 d ns ic hc (fun x hx=>(zGa (hN x hx)).2.2)
 have hT:(txt 8 d ns).length<=90000:=by omega
 generalize hg:txt 8 d ns=T at hT
 have e0:T.cps.toList.drop 0=ls (txt 8 d ns)++[]:=by rw [hg,List.drop_zero,List.append_nil]
 have nx:=fun a=>zEN (a:=a) hT 8 10 (by decide) (by decide) d ns 1 0 [] [] ic hc hl (by omega) hN (by decide) (by decide) (by rw [List.length_nil];omega) (Nat.zero_le _) e0 (fun c q z=>by cases z)
 have et:ns.take (clm 8 d).length=ns:=by rw [<-hn,List.take_length]
 rw [hg,et,Nat.zero_add,List.nil_append] at nx
 unfold jZ kPr
 rw [if_pos (show [D.str T].length=1 from rfl)]
 have c1:bD 1 cR cC (Str.ofString "next_custom") (aO 10) (aA (eC (.int 1)) aNil) [.val (.str T),oR none T 0 [],.un]=.ok (d,[.val (.str T),oR none T (T.length:Int) (ns.map D.str),.un]):=zEC rfl rfl rfl (by decide) rfl nx
 have s1:zDQ (pD 2 (bD 1 (Str.ofString "Reader") (Str.ofString "called") (Str.ofString "next_custom") (aO 10) (aA (eC (.int 1)) aNil))) [.val (.str T),oR none T 0 [],.un]=.ok (.nx [.val (.str T),oR none T (T.length:Int) (ns.map D.str),.val d]):=by
  unfold zDQ
  rw [show pD 2 (bD 1 (Str.ofString "Reader") (Str.ofString "called") (Str.ofString "next_custom") (aO 10) (aA (eC (.int 1)) aNil)) [.val (.str T),oR none T 0 [],.un]=_ from zGn c1]
  rfl
 have c2:bD 1 cR cC (Str.ofString "is_done") aP aNil [.val (.str T),oR none T (T.length:Int) (ns.map D.str),.val d]=.ok (.bl true,[.val (.str T),oR none T (T.length:Int) (ns.map D.str),.val d]):=zEC rfl rfl rfl (by decide) rfl fun a=>by
  rw [zEW (by omega),decide_eq_true rfl]
 have s2:zAL (lK (tmV (bD 1 (Str.ofString "Reader") (Str.ofString "called") (Str.ofString "is_done") aP aNil))) sNo sNext [.val (.str T),oR none T (T.length:Int) (ns.map D.str),.val d]=.ok (.nx [.val (.str T),oR none T (T.length:Int) (ns.map D.str),.val d]):=by
  unfold zAL
  rw [show lK (tmV (bD 1 (Str.ofString "Reader") (Str.ofString "called") (Str.ofString "is_done") aP aNil)) [.val (.str T),oR none T (T.length:Int) (ns.map D.str),.val d]=_ from zIl c2]
  rfl
 have ll:(ns.map D.str).length < 100000:=by rw [List.length_map];omega
 have fz:zIV 1 (bF aM (aA (aH 2) (aA (zGZ 1 (Str.ofString "Reader") (Str.ofString "called")) aNil))) [.val (.str T),oR none T (T.length:Int) (ns.map D.str),.val d]=.ok (.non,[.val (.str T),oR none T (T.length:Int) (ns.map D.str),.val d]):=by
  unfold zIV
  have z:zJJ 1 [.val (.str T),oR none T (T.length:Int) (ns.map D.str),.val d] ([Sl.val (.str T),oR none T (T.length:Int) (ns.map D.str),.val d][1]?)=some [.val (.str T),.ins cR (mrg cC (ns.map D.str) (fsR T (T.length:Int))),.val d]:=by
   show (if kW 1 [Sl.val (.str T),oR none T (T.length:Int) (ns.map D.str),.val d]=true/\(ns.map D.str).length < 100000 then _ else _)=_
   rw [if_pos ⟨rfl,ll⟩]
   rfl
  rw [z]
  show ((bF aM (aA (aH 2) (aA (zGZ 1 (Str.ofString "Reader") (Str.ofString "called")) aNil))) [.val (.str T),.ins cR (mrg cC (ns.map D.str) (fsR T (T.length:Int))),.val d]).bind _=_
  have ef:bF aM (aA (aH 2) (aA (zGZ 1 (Str.ofString "Reader") (Str.ofString "called")) aNil)) [.val (.str T),.ins cR (mrg cC (ns.map D.str) (fsR T (T.length:Int))),.val d]=.ok .non:=by
   show (aM [d,.lst (ns.map D.str)]).bind (fun r=>Res.ok r.d)=_
   rw [hr]
   rfl
  rw [ef]
  rfl
 show zKZ cR cC 1 2 (mX [.val (.str T),oR none T 0 [],.un])=_
 have all:mX [.val (.str T),oR none T 0 [],.un]=.ok (.nx [.val (.str T),oR none T (T.length:Int) (ns.map D.str),.val d]):=by
  unfold mX
  rw [sSeq_at,s1,okb,seqF_nx]
  unfold yQ
  rw [sSeq_at,s2,okb,seqF_nx]
  unfold xK
  rw [sSeq_at,xA fz,okb,seqF_nx]
  rfl
 rw [all]
 show (if cR=cR/\cC=cC/\(ns.map D.str).length < 100000 then Res.ok (d,ns.map D.str) else .no)=_
 rw [if_pos ⟨rfl,rfl,ll⟩]
theorem zCj {N:Nat} (a:Int):aL (N+1) [.int a,.int a]=.ok (.v (.bl true)):=by
 show bY (aL N) _=_
 unfold bY
 walk_at "ev"
 unfold fM
 walk_at "ev"
theorem wN {N:Nat} (a:Str):aL (N+1) [.str a,.str a]=.ok (.v (.bl true)):=by
 show bY (aL N) _=_
 unfold bY
 walk_at "ev"
theorem qP {N:Nat} {x:D} {xs:List D} (hl:xs.length<=1000) (ix:∀ (i:Nat) (d:D),xs[i]?=some d->oIx x (.int (i:Int))=.ok d) (h:∀ d∈xs,aL N [d,d]=.ok (.v (.bl true))):∃ a,loop (gName 2) (gD (aL N)) (rng 0 xs.length 1) [.val x,.val x,.un]=.ok (.nx [.val x,.val x,a]):=by
 obtain ⟨ρ',e,b',rfl⟩:=zDU (g:=gName 2) (b:=gD (aL N)) (ds:=rng 0 xs.length 1) (ρ:=[.val x,.val x,.un]) (fun ρ=>∃ b:Sl,ρ=[.val x,.val x,b]) ⟨_,rfl⟩ (by
  rintro d ρ hd ⟨b,rfl⟩
  obtain ⟨j,hjd⟩:=List.mem_iff_getElem?.mp hd
  obtain ⟨hj,rfl⟩:=tX hjd
  rw [show (0:Int)+(j:Int) * 1=(j:Int) by omega]
  have e:=ix j _ (List.getElem?_eq_getElem hj)
  have hh:=h _ (List.getElem_mem hj)
  generalize aL N=r at hh ⊢
  refine ⟨_,_,rfl,.inl ?_,.val (.int (j:Int)),rfl⟩
  walk_at "ev"
  rw [e]
  walk_at "ev"
  rw [e]
  walk_at "ev"
  rw [hh]
  walk_at "ev")
 exact ⟨b',e⟩
theorem oE {N:Nat} {xs:List D} (hl:xs.length<=1000) (h:∀ d∈xs,aL N [d,d]=.ok (.v (.bl true))):aL (N+1) [.tup xs,.tup xs]=.ok (.v (.bl true)):=by
 obtain ⟨a,e⟩:=qP (x:=.tup xs) hl (fun i d hd=>by
  have:=zFs (f:=fun d:D=>d) (l:=xs) (i:=(i:Int)) (a:=d) (Int.natCast_nonneg i) (by rw [Int.toNat_natCast];exact hd)
  rwa [List.map_id'] at this) h
 show bY (aL N) _=_
 unfold bY
 generalize aL N=r at e ⊢
 walk_at "ev"
 rw [lG (by omega) (by omega),Int.toNat_natCast]
 walk_at "ev"
 rw [e]
 rfl
theorem zFC {N:Nat} {xs:List D} (hl:xs.length<=1000) (h:∀ d∈xs,aL N [d,d]=.ok (.v (.bl true))):aL (N+1) [.lst xs,.lst xs]=.ok (.v (.bl true)):=by
 obtain ⟨a,e⟩:=qP (x:=.lst xs) hl (fun i d hd=>by
  have:=pZ (f:=fun d:D=>d) (l:=xs) (i:=(i:Int)) (a:=d) (Int.natCast_nonneg i) (by rw [Int.toNat_natCast];exact hd)
  rwa [List.map_id'] at this) h
 show bY (aL N) _=_
 unfold bY
 generalize aL N=r at e ⊢
 walk_at "ev"
 rw [lG (by omega) (by omega),Int.toNat_natCast]
 walk_at "ev"
 rw [e]
 rfl
theorem zBN:∀ (n N:Nat) (d:D),IsC n d->2 * n<=N->aL N [d,d]=.ok (.v (.bl true))
 | 0,_,_,h,_=>h.elim
 | n+1,N,d,h,hN=>by
  obtain ⟨M,rfl⟩:∃ M,N=M+1+1:=⟨N - 2,by omega⟩
  rcases h with ⟨c,rfl⟩ | ⟨w,ws,ks,rfl,hw,k0,k1,w1,hy,hk⟩
  ·refine oE (Nat.le_of_ble_eq_true rfl) fun x hx=>?_
   rcases List.mem_cons.mp hx with rfl | hx
   ·exact wN _
   ·rw [List.mem_singleton.mp hx];exact zCj _
  ·refine oE (Nat.le_of_ble_eq_true rfl) fun x hx=>?_
   rcases List.mem_cons.mp hx with rfl | hx
   ·exact wN _
   ·rcases List.mem_cons.mp hx with rfl | hx
    ·refine oE (by rw [List.length_map];omega) fun y hy=>?_
     obtain ⟨i,_,rfl⟩:=List.mem_map.mp hy
     cases M with
     | zero=>cases n with
      | zero=>exact absurd (hk _ (List.getElem_mem k0)) id
      | succ n=>omega
     | succ M=>exact zCj _
    ·rw [List.mem_singleton.mp hx]
     exact oE (by omega) fun y hy=>zBN n M y (hk y hy) (by omega)
theorem uF {d:D} {kd:Bool} {ns:List Str} (hn:Nms ns) (ic:IsC 8 d) (hc:Clm (clm 8 d)) (hl:(clm 8 d).length<=12) (h:ns.length=(clm 8 d).length) (hb:¬ pO ns):
  aM [d,mkN kd ns]=.ok (.v .non)/\dP [d,mkN kd ns]=.ok (.v (.str (txt 8 d ns))):=by
 have rn:=pK (d:=d) (nd:=mkN kd ns) (ns:=ns) (by cases kd;exact .inr rfl;exact .inl rfl) hn (fA ic (by decide)) (by rw [eG ic (by decide)];omega)
 rw [eG ic (show 8<=10 by decide)] at rn
 refine ⟨rn.2.2 h hb,?_⟩
 unfold dP
 walk_at "ev"
 rw [rn.2.2 h hb]
 walk_at "ev"
 rw [tK 8 10 d kd ns ic (by decide) (by decide) hc hl (zIh hb) h]
 walk_at "ev"
theorem slN {ds:List D} {a:Nat}:cV ds none (some (a:Int))=ds.take a:=by
 rw [xE (Int.natCast_nonneg _)]
 rfl
theorem law_true:∀ ns:List Int,ns.length<=63->zFP [.lst (ns.map D.int)]=.ok (.v (.bl true)):=by
 intro ns hl
 have line:sizeLine=16777216:=sizeLine_eq
 obtain ⟨d,ed,ic,hc,h12⟩:=uH ns
 have lc:=mF 10 d (fA ic (by decide)) (by rw [eG ic (by decide)];omega)
 rw [eG ic (show 8<=10 by decide)] at lc
 obtain ⟨xs,ex,lx,hx⟩:=vW ns (clm 8 d).length h12
 unfold zFP zCe zCg
 generalize hK:(zBt:Sv)=K
 walk_at "ev"
 rw [ed]
 walk_at "ev"
 rw [lc]
 walk_at "ev"
 rw [ex]
 walk_at "ev"
 rw [lG (by omega) (by omega)]
 walk_at "ev"
 have x12:xs.length<=12:=by omega
 have nm:Nms xs:=⟨by omega,fun x h=>Nat.le_trans (zGa (hx x h)).2.2 (by decide)⟩
 have lf:=kJ (g:=gName 3) (b:=vY) (r0:=.ok (.ret (.v (.bl true)))) (.inr ⟨_,rfl⟩) (fun ρ=>∃ a3,ρ=[.val (.lst (ns.map D.int)),.val d,.val (.lst (xs.map D.str)),a3,.un,.un]) (rng 0 ((xs.length:Int)).toNat 1) 0 (fun k=>mP xs k) [.val (.lst (ns.map D.int)),.val d,.val (.lst (xs.map D.str)),.un,.un,.un] ⟨_,rfl⟩ (by
  rintro i e ρ he ⟨a3,rfl⟩
  obtain ⟨hi,rfl⟩:=tX he
  rw [Int.toNat_natCast] at hi
  rw [show (0+(i:Int) * 1)=(i:Int) by omega,Nat.zero_add]
  have gx:xs.getD i Str.empty=xs[i]:=by rw [List.getD_eq_getElem?_getD,List.getElem?_eq_getElem hi];rfl
  have nx:isN xs[i]=true:=hx _ (List.getElem_mem hi)
  have bx:mP xs i=(xs.take i).any fun y=>y==xs[i]:=by
   unfold mP
   rw [gx,nx]
   rfl
  have run:∀ b:Bool,mP xs i=b->vY [.val (.lst (ns.map D.int)),.val d,.val (.lst (xs.map D.str)),.val (.int (i:Int)),.un,.un]=if b=true then .ok (.ret (.v (.bl true))) else .ok (.nx [.val (.lst (ns.map D.int)),.val d,.val (.lst (xs.map D.str)),.val (.int (i:Int)),.un,.un]):=by
   intro b hb
   walk_at "ev"
   rw [pZ (f:=D.str) (a:=xs[i]) (by omega) (by rw [Int.toNat_natCast];exact List.getElem?_eq_getElem hi)]
   walk_at "ev"
   rw [slN,<-List.map_take,zAZ (.inl rfl),<-bx,hb]
   cases b with
   | true=>walk_at "ev"
   | false=>walk_at "ev"
  exact ⟨fun hb=>⟨_,_,rfl,run false hb,_,rfl⟩,fun hb=>⟨_,rfl,run true hb⟩⟩)
 have ln:(rng 0 ((xs.length:Int)).toNat 1).length=xs.length:=by rw [yX,Int.toNat_natCast]
 by_cases hb:pO xs
 ·obtain ⟨i,hi,bi⟩:=hb
  rw [lf.1 ⟨i,by rw [ln];exact hi,by rw [Nat.zero_add];exact bi⟩]
  walk_at "ev"
 ·obtain ⟨ρ',e',a3,rfl⟩:=lf.2 fun i hi=>by
   rw [ln] at hi
   rw [Nat.zero_add]
   exact zCb hb i hi
  rw [e']
  walk_at "ev"
  subst hK
  obtain ⟨rn,wr⟩:=uF (kd:=true) nm ic hc h12 lx hb
  have wr':dP [d,.lst (xs.map D.str)]=.ok (.v (.str (txt 8 d xs))):=wr
  have rd:=zIx ic hc h12 lx hx rn
  have al:aL 20 [.tup [d,.lst (xs.map D.str)],.tup [d,.lst (xs.map D.str)]]=.ok (.v (.bl true)):=by
   refine oE (show 2<=1000 by decide) fun e he=>?_
   simp only [List.mem_cons,List.not_mem_nil,or_false] at he
   rcases he with rfl | rfl
   ·exact zBN 8 19 _ ic (by decide)
   ·refine zFC (by rw [List.length_map];omega) fun e he=>?_
    obtain ⟨x,_,rfl⟩:=List.mem_map.mp he
    exact wN x
  walk_at "ev"
  rw [wr']
  walk_at "ev"
  generalize txt 8 d xs=T at wr' rd
  have ll:(xs.map D.str).length < 100000:=by rw [List.length_map];omega
  have cm:(tL (lO (cM (bF (aL 20) (aA (aH 5) (aA (zDg (aA (aH 1) (aA (aH 2) aNil))) aNil))))) (cM (eOp oNe (bF dP (aA (eOp oIx (aH 5) (eC (.int 0))) (aA (eOp oIx (aH 5) (eC (.int 1))) aNil))) (aH 4)))) [.val (.lst (ns.map D.int)),.val d,.val (.lst (xs.map D.str)),a3,.val (.str T),.val (.tup [d,.lst (xs.map D.str)])]=.ok false:=by
   walk_at "ev"
   rw [al]
   walk_at "ev"
   rw [wr']
   walk_at "ev"
  have bk:zAf 5 jZ (aA (aH 4) aNil) (tL (lO (cM (bF (aL 20) (aA (aH 5) (aA (zDg (aA (aH 1) (aA (aH 2) aNil))) aNil))))) (cM (eOp oNe (bF dP (aA (eOp oIx (aH 5) (eC (.int 0))) (aA (eOp oIx (aH 5) (eC (.int 1))) aNil))) (aH 4)))) sC [.val (.lst (ns.map D.int)),.val d,.val (.lst (xs.map D.str)),a3,.val (.str T),.un]=sC [.val (.lst (ns.map D.int)),.val d,.val (.lst (xs.map D.str)),a3,.val (.str T),.un]:=by
   show (noErr (jZ [.str T])).bind _=_
   rw [rd]
   show (if (xs.map D.str).length < 100000/\5 < 6 then _ else _)=_
   rw [if_pos ⟨ll,by decide⟩]
   show (noErr ((tL _ _) [.val (.lst (ns.map D.int)),.val d,.val (.lst (xs.map D.str)),a3,.val (.str T),.val (.tup [d,.lst (xs.map D.str)])])).bind _=_
   rw [cm]
   rfl
  unfold zBm
  rw [bk]
  have rv:mPr jZ [.str T]=.ok (.v (.tup [d,.lst (xs.map D.str)])):=by
   unfold mPr
   rw [rd]
   rfl
  walk_at "ev"
  rw [rv]
  walk_at "ev"
  rw [al]
  walk_at "ev"
end Lw
namespace Lw
open PySem PySem.Spec PyProof.Rows L2 L3
def top (i:Nat):Stmt:=PySem.Challenge.pw_catchhall_k58_whole_there_and_back.main.body.getD i (.Pass ⟨0,0,0,0⟩)
abbrev iC:Stmt:=top 11
theorem sG:FnScope ["way"] ["way"] (aF iC):=⟨rfl,rfl,rfl,by decide +kernel,rfl,by decide +kernel,by decide +kernel⟩
abbrev eQ:Stmt:=top 12
theorem eA:FnScope ["way", "weights", "many", "due", "weight"] ["way", "weights", "many"] (aF eQ):=⟨rfl,rfl,rfl,by decide +kernel,rfl,by decide +kernel,by decide +kernel⟩
abbrev zBM:Stmt:=top 17
theorem zGB:FnScope ["claim"] ["claim"] (aF zBM):=⟨rfl,rfl,rfl,by decide +kernel,rfl,by decide +kernel,by decide +kernel⟩
abbrev zBH:Stmt:=top 18
theorem zCz:FnScope ["way", "weights", "kids", "custom"] ["way", "weights", "kids"] (aF zBH):=⟨rfl,rfl,rfl,by decide +kernel,rfl,by decide +kernel,by decide +kernel⟩
abbrev nT:Stmt:=top 19
theorem zAr:FnScope ["custom"] ["custom"] (aF nT):=⟨rfl,rfl,rfl,by decide +kernel,rfl,by decide +kernel,by decide +kernel⟩
abbrev rK:Stmt:=top 20
theorem zCX:FnScope ["custom"] ["custom"] (aF rK):=⟨rfl,rfl,rfl,by decide +kernel,rfl,by decide +kernel,by decide +kernel⟩
abbrev iP:Stmt:=top 21
theorem rB:FnScope ["custom"] ["custom"] (aF iP):=⟨rfl,rfl,rfl,by decide +kernel,rfl,by decide +kernel,by decide +kernel⟩
abbrev nK:Stmt:=top 22
theorem zAe:FnScope ["custom"] ["custom"] (aF nK):=⟨rfl,rfl,rfl,by decide +kernel,rfl,by decide +kernel,by decide +kernel⟩
abbrev gW:Stmt:=top 23
theorem fW:FnScope ["custom", "claims", "kid"] ["custom"] (aF gW):=⟨rfl,rfl,rfl,by decide +kernel,rfl,by decide +kernel,by decide +kernel⟩
abbrev lU:Stmt:=top 24
theorem wK:FnScope ["custom"] ["custom"] (aF lU):=⟨rfl,rfl,rfl,by decide +kernel,rfl,by decide +kernel,by decide +kernel⟩
abbrev iA:Stmt:=top 25
theorem lM:FnScope ["custom"] ["custom"] (aF iA):=⟨rfl,rfl,rfl,by decide +kernel,rfl,by decide +kernel,by decide +kernel⟩
abbrev qV:Stmt:=top 26
theorem gG:FnScope ["custom", "some", "pieces", "start", "kid", "end"] ["custom", "some"] (aF qV):=⟨rfl,rfl,rfl,by decide +kernel,rfl,by decide +kernel,by decide +kernel⟩
abbrev oT:Stmt:=top 30
theorem zK:FnScope ["custom", "names"] ["custom", "names"] (aF oT):=⟨rfl,rfl,rfl,by decide +kernel,rfl,by decide +kernel,by decide +kernel⟩
abbrev gC:Stmt:=top 31
theorem fJ:FnScope ["custom", "names", "spot", "name"] ["custom", "names"] (aF gC):=⟨rfl,rfl,rfl,by decide +kernel,rfl,by decide +kernel,by decide +kernel⟩
abbrev nS:Stmt:=top 32
theorem zL:FnScope ["word"] ["word"] (aF nS):=⟨rfl,rfl,rfl,by decide +kernel,rfl,by decide +kernel,by decide +kernel⟩
abbrev gX:Stmt:=top 33
theorem lY:FnScope ["signs", "word"] ["signs", "word"] (aF gX):=⟨rfl,rfl,rfl,by decide +kernel,rfl,by decide +kernel,by decide +kernel⟩
abbrev gF:Stmt:=top 34
theorem dL:FnScope ["custom", "names", "name", "claim", "texts", "way", "inside"] ["custom", "names"] (aF gF):=⟨rfl,rfl,rfl,by decide +kernel,rfl,by decide +kernel,by decide +kernel⟩
abbrev jH:Stmt:=top 35
theorem tU:FnScope ["word"] ["word"] (aF jH):=⟨rfl,rfl,rfl,by decide +kernel,rfl,by decide +kernel,by decide +kernel⟩
abbrev zBV:Stmt:=top 36
theorem vT:FnScope ["text", "reader", "custom"] ["text"] (aF zBV):=⟨rfl,rfl,rfl,by decide +kernel,rfl,by decide +kernel,by decide +kernel⟩
abbrev gN:Stmt:=top 39
theorem oZ:FnScope ["script", "k"] ["script", "k"] (aF gN):=⟨rfl,rfl,rfl,by decide +kernel,rfl,by decide +kernel,by decide +kernel⟩
abbrev jS:Stmt:=top 40
theorem uU:FnScope ["found"] ["found"] (aF jS):=⟨rfl,rfl,rfl,by decide +kernel,rfl,by decide +kernel,by decide +kernel⟩
abbrev jQ:Stmt:=top 41
theorem mD:FnScope ["cell", "kind", "some"] ["cell", "kind"] (aF jQ):=⟨rfl,rfl,rfl,by decide +kernel,rfl,by decide +kernel,by decide +kernel⟩
abbrev lE:Stmt:=top 42
theorem dF:FnScope ["cell", "kids", "way", "weights", "most", "rest", "kid"] ["cell", "kids"] (aF lE):=⟨rfl,rfl,rfl,by decide +kernel,rfl,by decide +kernel,by decide +kernel⟩
abbrev iN:Stmt:=top 43
theorem aY:FnScope ["script", "head", "pile", "knots", "boats", "k", "cell", "turn", "many"] ["script"] (aF iN):=⟨rfl,rfl,rfl,by decide +kernel,rfl,by decide +kernel,by decide +kernel⟩
abbrev fX:Stmt:=top 44
theorem dR:FnScope ["custom", "claims", "kid"] ["custom"] (aF fX):=⟨rfl,rfl,rfl,by decide +kernel,rfl,by decide +kernel,by decide +kernel⟩
abbrev jN:Stmt:=top 45
theorem bC:FnScope ["script", "many", "letters", "cell", "names", "k", "rest", "name", "spot", "some"] ["script", "many"] (aF jN):=⟨rfl,rfl,rfl,by decide +kernel,rfl,by decide +kernel,by decide +kernel⟩
abbrev gO:Stmt:=top 46
theorem iF:FnScope ["found", "due", "k"] ["found", "due"] (aF gO):=⟨rfl,rfl,rfl,by decide +kernel,rfl,by decide +kernel,by decide +kernel⟩
abbrev nU:Stmt:=top 47
theorem qB:FnScope ["script", "custom", "names", "k", "text", "found"] ["script"] (aF nU):=⟨rfl,rfl,rfl,by decide +kernel,rfl,by decide +kernel,by decide +kernel⟩
abbrev dY:Stmt:=(L3.iJ (top 37)).getD 0 (.Pass ⟨0,0,0,0⟩)
theorem kP:FnScope ["self", "text"] ["self", "text"] (aF dY):=⟨rfl,rfl,rfl,by decide +kernel,rfl,by decide +kernel,by decide +kernel⟩
abbrev eV:Stmt:=(L3.iJ (top 37)).getD 1 (.Pass ⟨0,0,0,0⟩)
theorem lA:FnScope ["self"] ["self"] (aF eV):=⟨rfl,rfl,rfl,by decide +kernel,rfl,by decide +kernel,by decide +kernel⟩
abbrev fY:Stmt:=(L3.iJ (top 37)).getD 2 (.Pass ⟨0,0,0,0⟩)
theorem oJ:FnScope ["self", "signs"] ["self", "signs"] (aF fY):=⟨rfl,rfl,rfl,by decide +kernel,rfl,by decide +kernel,by decide +kernel⟩
abbrev gB:Stmt:=(L3.iJ (top 37)).getD 3 (.Pass ⟨0,0,0,0⟩)
theorem nX:FnScope ["self", "signs"] ["self", "signs"] (aF gB):=⟨rfl,rfl,rfl,by decide +kernel,rfl,by decide +kernel,by decide +kernel⟩
abbrev fL:Stmt:=(L3.iJ (top 37)).getD 4 (.Pass ⟨0,0,0,0⟩)
theorem gY:FnScope ["self", "signs", "start"] ["self", "signs"] (aF fL):=⟨rfl,rfl,rfl,by decide +kernel,rfl,by decide +kernel,by decide +kernel⟩
abbrev cU:Stmt:=(L3.iJ (top 37)).getD 5 (.Pass ⟨0,0,0,0⟩)
theorem iK:FnScope ["self"] ["self"] (aF cU):=⟨rfl,rfl,rfl,by decide +kernel,rfl,by decide +kernel,by decide +kernel⟩
abbrev bZ:Stmt:=(L3.iJ (top 37)).getD 6 (.Pass ⟨0,0,0,0⟩)
theorem cN:FnScope ["self", "deep", "word"] ["self", "deep"] (aF bZ):=⟨rfl,rfl,rfl,by decide +kernel,rfl,by decide +kernel,by decide +kernel⟩
abbrev cL:Stmt:=(L3.iJ (top 37)).getD 7 (.Pass ⟨0,0,0,0⟩)
theorem bS:FnScope ["self", "way", "deep", "weights", "kids", "more"] ["self", "way", "deep"] (aF cL):=⟨rfl,rfl,rfl,by decide +kernel,rfl,by decide +kernel,by decide +kernel⟩
structure Bt (mg:Str->Option Value):Prop where
 len:mg "len" = none
 tuple:mg "tuple" = none
 sum:mg "sum" = none
 max:mg "max" = none
 enumerate:mg "enumerate" = none
 all:mg "all" = none
 zip:mg "zip" = none
 int:mg "int" = none
 isinstance:mg "isinstance" = none
 bool:mg "bool" = none
 range:mg "range" = none
 min:mg "min" = none
 str:mg "str" = none
 list:mg "list" = none
structure Kt (K:PySem.W.Frag):Prop where
 bool:Kit K "bool"
 int:Kit K "int"
 list:Kit K "list"
 str:Kit K "str"
 tuple:Kit K "tuple"
structure Ct (K:PySem.W.Frag) (mg:Str->Option Value):Prop where
 BOAT:∃ v u,mg "BOAT" = some u/\cI v u/\IsD K (fun _=>none) v d_BOAT
 DEEPEST:∃ v u,mg "DEEPEST" = some u/\cI v u/\IsD K (fun _=>none) v d_DEEPEST
 FIGURES:∃ v u,mg "FIGURES" = some u/\cI v u/\IsD K (fun _=>none) v d_FIGURES
 LETTERS:∃ v u,mg "LETTERS" = some u/\cI v u/\IsD K (fun _=>none) v d_LETTERS
 MOST_BOATS:∃ v u,mg "MOST_BOATS" = some u/\cI v u/\IsD K (fun _=>none) v d_MOST_BOATS
 WEIGHTED:∃ v u,mg "WEIGHTED" = some u/\cI v u/\IsD K (fun _=>none) v d_WEIGHTED
 CONTRARY:∃ a,IsTab K mg "CONTRARY" cO a
structure Rt (K:PySem.W.Frag) (mg:Str->Option Value):Prop where
 BadClaim:∃ C,Err K mg "BadClaim" C
 BadWay:∃ C,Err K mg "BadWay" C
 BadWeights:∃ C,Err K mg "BadWeights" C
 NoText:∃ C,Err K mg "NoText" C
 TooMany:∃ C,Err K mg "TooMany" C
 Unlike:∃ C,Err K mg "Unlike" C
structure Lt (K:PySem.W.Frag) (mg:Str->Option Value):Prop where
 fa_Reader:∀ C,mg "Reader" = some (.ref C)->Cls K C/\∀ f∈(["text", "spot", "called"]:List Str),dW K C f
structure Et (K:PySem.W.Frag) (mg:Str->Option Value):Prop where
theorem zKi {K:PySem.W.Frag} {h:Heap} {mg:Str->Option Value} {t0 t1 t2 t3 t4 t5 t6:Tok} {pWEIGHTED0:Addr} {o_pWEIGHTED0:Option Addr} {n_pWEIGHTED0:Nat} {s_pWEIGHTED0:Array (Option Value)} {a_CONTRARY:Addr} (X:K.In h) (G:h.Ns mainGlobals mg) (n_BOAT:PySem.W.nsIn K mainGlobals "BOAT" = some (some (.str "boat" t0))) (n_DEEPEST:PySem.W.nsIn K mainGlobals "DEEPEST" = some (some (.int (8) t1))) (n_FIGURES:PySem.W.nsIn K mainGlobals "FIGURES" = some (some (.str "0123456789" t2))) (n_LETTERS:PySem.W.nsIn K mainGlobals "LETTERS" = some (some (.str "abcdefghijklmnopqrstuvwxyz" t3))) (n_MOST_BOATS:PySem.W.nsIn K mainGlobals "MOST_BOATS" = some (some (.int (12) t4))) (n_WEIGHTED:PySem.W.nsIn K mainGlobals "WEIGHTED" = some (some (.ref pWEIGHTED0))) (pWEIGHTED0_l:K.lookup pWEIGHTED0=some ⟨.type "tuple", o_pWEIGHTED0,.seq #[.str "even" t5,.str "lack" t6] n_pWEIGHTED0,s_pWEIGHTED0⟩) (n_CONTRARY:PySem.W.nsIn K mainGlobals "CONTRARY" = some (some (.ref a_CONTRARY))) (cO:PyProof.Rows.KTD.tabLook (PyProof.Rows.KTD.datLooks fun a=>K.lookup a) (fun a=>K.lookup a) a_CONTRARY (zIN Lw.cO)=true):Ct K mg:=⟨⟨.str "boat", _,PySem.W.mg_of X G n_BOAT,⟨_,rfl⟩,(.str _)⟩,⟨.int (8),_,PySem.W.mg_of X G n_DEEPEST,⟨_,rfl⟩,(.int _)⟩,⟨.str "0123456789", _,PySem.W.mg_of X G n_FIGURES,⟨_,rfl⟩,(.str _)⟩,⟨.str "abcdefghijklmnopqrstuvwxyz", _,PySem.W.mg_of X G n_LETTERS,⟨_,rfl⟩,(.str _)⟩,⟨.int (12),_,PySem.W.mg_of X G n_MOST_BOATS,⟨_,rfl⟩,(.int _)⟩,⟨.ref pWEIGHTED0,_,PySem.W.mg_of X G n_WEIGHTED,rfl,(.tup (.inr ⟨_,_,_,pWEIGHTED0_l,rfl,rfl,Nat.le_of_ble_eq_true rfl,(.cons (show cI (.str "even") _ from ⟨_,rfl⟩) (.cons (show cI (.str "lack") _ from ⟨_,rfl⟩) .nil))⟩) (.cons (.str _) (.cons (.str _) .nil)))⟩,⟨a_CONTRARY,PySem.W.mg_of X G n_CONTRARY,fun h X=>PyProof.Rows.KTD.text_of_look X cO⟩⟩
theorem zKC {K:PySem.W.Frag} {h:Heap} {mg:Str->Option Value} {C_BadClaim:Addr} {C_BadWay:Addr} {C_BadWeights:Addr} {C_NoText:Addr} {C_TooMany:Addr} {C_Unlike:Addr} (X:K.In h) (G:h.Ns mainGlobals mg) (n_BadClaim:PySem.W.nsIn K mainGlobals "BadClaim" = some (some (.ref C_BadClaim))) (x_BadClaim:PySem.W.excIn K C_BadClaim [.type "ValueError", .type "Exception", .type "BaseException", .type "object"] "ValueError.__new__" = true) (n_BadWay:PySem.W.nsIn K mainGlobals "BadWay" = some (some (.ref C_BadWay))) (x_BadWay:PySem.W.excIn K C_BadWay [.type "ValueError", .type "Exception", .type "BaseException", .type "object"] "ValueError.__new__" = true) (n_BadWeights:PySem.W.nsIn K mainGlobals "BadWeights" = some (some (.ref C_BadWeights))) (x_BadWeights:PySem.W.excIn K C_BadWeights [.type "ValueError", .type "Exception", .type "BaseException", .type "object"] "ValueError.__new__" = true) (n_NoText:PySem.W.nsIn K mainGlobals "NoText" = some (some (.ref C_NoText))) (x_NoText:PySem.W.excIn K C_NoText [.type "ValueError", .type "Exception", .type "BaseException", .type "object"] "ValueError.__new__" = true) (n_TooMany:PySem.W.nsIn K mainGlobals "TooMany" = some (some (.ref C_TooMany))) (x_TooMany:PySem.W.excIn K C_TooMany [.type "ValueError", .type "Exception", .type "BaseException", .type "object"] "ValueError.__new__" = true) (n_Unlike:PySem.W.nsIn K mainGlobals "Unlike" = some (some (.ref C_Unlike))) (x_Unlike:PySem.W.excIn K C_Unlike [.type "ValueError", .type "Exception", .type "BaseException", .type "object"] "ValueError.__new__" = true):Rt K mg:=⟨qF X G n_BadClaim x_BadClaim PySem.F.excBase_ValueError,qF X G n_BadWay x_BadWay PySem.F.excBase_ValueError,qF X G n_BadWeights x_BadWeights PySem.F.excBase_ValueError,qF X G n_NoText x_NoText PySem.F.excBase_ValueError,qF X G n_TooMany x_TooMany PySem.F.excBase_ValueError,qF X G n_Unlike x_Unlike PySem.F.excBase_ValueError⟩
theorem zKG {K:PySem.W.Frag} {h:Heap} {mg:Str->Option Value} (X:K.In h) (G:h.Ns mainGlobals mg):Et K mg:=⟨⟩
section
variable {P:Program} {w:World} {K:PySem.W.Frag} {mg:Str->Option Value} {base:Heap} {k:Nat} {f:Addr} {fd:FuncData}
theorem rJ (F:Fn K mg "refuse_way" iC ["way"] f fd) (B:Bt mg) (KT:Kt K) (C:Ct K mg) (R:Rt K mg) (ET:Et K mg)  : CanM P w K mg base (k+1) "refuse_way" ["way"] eM:=
 mJ F sG fun W WR=>(aI (jW (zDi C.CONTRARY.choose_spec rfl (aV 0) (by with_unfolding_all rfl)) (aI (gR W WR R.BadWay rfl vJ)) bP))
theorem lC (F:Fn K mg "refuse_weights" eQ ["way", "weights", "many"] f fd) (B:Bt mg) (KT:Kt K) (C:Ct K mg) (R:Rt K mg) (ET:Et K mg)  : CanM P w K mg base (k+1) "refuse_weights" ["way", "weights", "many"] cH:=
  mJ F eA fun W WR=>(aD (s_z 3 eA.nd (zIr (tst (inA W.u) zHe (aV 0) (eR rfl C.WEIGHTED) (by with_unfolding_all rfl)) (aV 2) bW))
 (aD (jW (tst (neA W.u) zHf (aX aR eI rfl B.len PySem.boot_len (cX 1)) (aV 3) (bR _)) (aI (gR W WR R.BadWeights rfl vJ)) bP)
 (aI (oO W.own W.calm (zD (aV 1)) (g_z 4 eA.nd) dD (aI (jW (PWd.pt (zCV (tst zDS zJA (aV 4) bW (bR _)) (qS (tst uC zFh (aV 4) (aU gQ sL bW bW) (bR _))))) (aI (gR W WR R.BadWeights rfl vJ)) bP))))))
theorem zFt (F:Fn K mg "boat" zBM ["claim"] f fd) (B:Bt mg) (KT:Kt K) (C:Ct K mg) (R:Rt K mg) (ET:Et K mg)  : CanM P w K mg base (k+1) "boat" ["claim"] kO:=
  mJ F zGB fun W WR=>(aD (jW (PWd.pt (zCV (tst zDS zJA (aV 0) bW (bR _)) (qS (tst uC zFh (aV 0) (aU gQ sL bW bW) (bR _))))) (aI (gR W WR R.BadClaim rfl vJ)) bP)
 (aI (cY (qN (aB (eR rfl C.BOAT) (cX 0) bA)))))
theorem zAv (F:Fn K mg "is_boat" nT ["custom"] f fd) (B:Bt mg) (KT:Kt K) (C:Ct K mg) (R:Rt K mg) (ET:Et K mg)  : CanM P w K mg base (k+1) "is_boat" ["custom"] cA:=
 mJ F zAr fun W WR=>(aI (cY (uG (eqA W.u) zBB (zAw 0) (eR rfl C.BOAT) (bR _))))
theorem zBl (F:Fn K mg "way_of" rK ["custom"] f fd) (B:Bt mg) (KT:Kt K) (C:Ct K mg) (R:Rt K mg) (ET:Et K mg)  : CanM P w K mg base (k+1) "way_of" ["custom"] gT:=
 mJ F zCX fun W WR=>(aI (cY (zAw 0)))
theorem rV (F:Fn K mg "weights_of" iP ["custom"] f fd) (B:Bt mg) (KT:Kt K) (C:Ct K mg) (R:Rt K mg) (ET:Et K mg)  : CanM P w K mg base (k+1) "weights_of" ["custom"] dI:=
 mJ F rB fun W WR=>(aI (cY (zAw 0)))
theorem vC (F:Fn K mg "is_all_of" gX ["signs", "word"] f fd) (B:Bt mg) (KT:Kt K) (C:Ct K mg) (R:Rt K mg) (ET:Et K mg)  : CanM P w K mg base (k+1) "is_all_of" ["signs", "word"] dG:=
 mJ F lY fun W WR=>(aI (cY (aX (zEb W.calm) zHG rfl B.all zCm (aB (PEf.d (xX W lY.nd rfl (sc:=aF gX) rfl rfl (by decide +kernel) (zJX (aV 1)) (fun C2 s2 H2 fp2 G W=>⟨zEY,(uG vM zJd (aV 2) (aV 0) (by with_unfolding_all rfl))⟩))) aT))))
theorem pJ (F:Fn K mg "_law_cell_at" gN ["script", "k"] f fd) (B:Bt mg) (KT:Kt K) (C:Ct K mg) (R:Rt K mg) (ET:Et K mg)  : CanM P w K mg base (k+1) "_law_cell_at" ["script", "k"] bM:=
  mJ F oZ fun W WR=>(aD (jW (tst zDS zJA (aV 1) (aX aR eI rfl B.len PySem.boot_len (cX 0)) (bR _)) (aI (cY (zJM (aV 0) 1))) bP)
 (aI (cY bW)))
theorem sW (F:Fn K mg "_law_whole" jS ["found"] f fd) (B:Bt mg) (KT:Kt K) (C:Ct K mg) (R:Rt K mg) (ET:Et K mg)  : CanM P w K mg base (k+1) "_law_whole" ["found"] fM:=
 mJ F uU fun W WR=>(aI (cY (yL (lW KT.int rfl B.isinstance (aV 0) (iM (v:=.ty "int") rfl B.int boot_int rfl)) (yJ (zIu (lW KT.bool rfl B.isinstance (aV 0) (iM (v:=.ty "bool") rfl B.bool boot_bool rfl)))))))
theorem tQ (F:Fn K mg "_law_claim" jQ ["cell", "kind"] f fd) (B:Bt mg) (KT:Kt K) (C:Ct K mg) (R:Rt K mg) (ET:Et K mg)  : CanM P w K mg base (k+1) "_law_claim" ["cell", "kind"] fR:=
  mJ F mD fun W WR=>(aD (s_z 2 mD.nd (PEf.d (eX (aB (aU bN fE (aU cF gU (aV 0) bW) bW) (aB (aU bN fE (aU cF gU (aV 0) bW) bW) (aB (aU bN fE (aU cF gU (aV 0) bW) (aU dO kD (aU gQ sL bW bW) bW)) (aB (aU zGQ zJZ (aU bN fE (aU cF gU (aV 0) bW) bW) (aU gQ sL bW bW)) aT dC) dC) dC) dC))))
 (aI (cY (zAm lD zHh (aV 2) (aU bN fE (aU dO kD (aV 1) (aU cF gU (aU bN fE (aV 0) bW) bW)) bW) (fun _ _=>rfl)))))
theorem kQ (F:FnM K "__init__" "Reader.__init__" dY ["self", "text"] f fd) (B:Bt mg) (KT:Kt K) (C:Ct K mg) (R:Rt K mg) (ET:Et K mg) (LC:Lt K mg) {CA:Addr} (hC:mg "Reader" = some (.ref CA)) (M:Mk K CA f)  : CanIM P w K mg base (k+1) "Reader" "called" 1 nA:=
 ⟨⟨f,fd,CA,["self", "text"],zEk (e0:=none) (fs:=[("text", (aH 1)),("spot", (eC (.int 0)))]) F kP rfl (by decide) ⟨by decide,by decide +kernel⟩ hC (LC.fa_Reader CA hC).1 (LC.fa_Reader CA hC).2 fun cdv A outer s H E G W=>(zFa (pv 0) (aV 1) (zFa (pv 0) bW (zHr (pv 0) (eX aT)))),F.bd,hC,M,rfl⟩,fun ds h=>by unfold nA xG at h;split at h;assumption;exact absurd rfl h⟩
theorem lF (F:FnM K "is_done" "Reader.is_done" eV ["self"] f fd) (B:Bt mg) (KT:Kt K) (C:Ct K mg) (R:Rt K mg) (ET:Et K mg) (LC:Lt K mg) {CA:Addr} (hC:mg "Reader" = some (.ref CA)) (M:Meth K CA "is_done" f)  : CanX P w K mg base (k+1) "Reader" "called" "is_done" 0 aP:=
 tN F lA rfl (by decide) hC (LC.fa_Reader CA hC).1 M fun cdv A outer s H E G W WR=>(aI (tT (uG (eqA W.u) zBB (gM (i:=0) (pv 0) (fun C h=>⟨(LC.fa_Reader C h).1,(LC.fa_Reader C h).2 _ (by decide +kernel)⟩)) (aX jY oU rfl B.len PySem.boot_len (aB (gM (i:=0) (pv 0) (fun C h=>⟨(LC.fa_Reader C h).1,(LC.fa_Reader C h).2 _ (by decide +kernel)⟩)) aT)) (bR _))))
theorem nF (F:FnM K "takes" "Reader.takes" fY ["self", "signs"] f fd) (B:Bt mg) (KT:Kt K) (C:Ct K mg) (R:Rt K mg) (ET:Et K mg) (LC:Lt K mg) {CA:Addr} (hC:mg "Reader" = some (.ref CA)) (M:Meth K CA "takes" f)  : CanX P w K mg base (k+1) "Reader" "called" "takes" 1 aK:=
  tN F oJ rfl (by decide) hC (LC.fa_Reader CA hC).1 M fun cdv A outer s H E G W WR=>(aD (jW (zGe (yW (zKg (gM (i:=0) (pv 0) (fun C h=>⟨(LC.fa_Reader C h).1,(LC.fa_Reader C h).2 _ (by decide +kernel)⟩)) (aV 1) (gM (i:=0) (pv 0) (fun C h=>⟨(LC.fa_Reader C h).1,(LC.fa_Reader C h).2 _ (by decide +kernel)⟩))))) (aI (tT (jF tP fun _=>.bl _))) bP)
 (aD (zEI (i:=0) (pv 0) (aX jY oU rfl B.len PySem.boot_len (cX 1)) (fun C h=>⟨(LC.fa_Reader C h).1,(LC.fa_Reader C h).2 _ (by decide +kernel)⟩))
 (aI (tT (jF tP fun _=>.bl _)))))
theorem zAc (F:Fn K mg "kids_of" nK ["custom"] f fd) (B:Bt mg) (KT:Kt K) (C:Ct K mg) (R:Rt K mg) (ET:Et K mg) (c_is_boat:CanM P w K mg base k "is_boat" ["custom"] cA):CanM P w K mg base (k+1) "kids_of" ["custom"] bK:=
 mJ F zAe fun W WR=>(aI (cY (zIr (yW (aN W c_is_boat rfl (cX 0))) (qN aT) (zAw 0))))
theorem zAt (F:Fn K mg "is_name" nS ["word"] f fd) (B:Bt mg) (KT:Kt K) (C:Ct K mg) (R:Rt K mg) (ET:Et K mg) (c_is_all_of:CanM P w K mg base k "is_all_of" ["signs", "word"] dG):CanM P w K mg base (k+1) "is_name" ["word"] iO:=
 mJ F zL fun W WR=>(aI (cY (yL (zEp zIw zKP zIw zKP bW (aX jY oU rfl B.len PySem.boot_len (cX 0)) bW) (yJ (aN W c_is_all_of rfl (aB (eR rfl C.LETTERS) (cX 0) bA))))))
theorem tV (F:Fn K mg "number_in" jH ["word"] f fd) (B:Bt mg) (KT:Kt K) (C:Ct K mg) (R:Rt K mg) (ET:Et K mg) (c_is_all_of:CanM P w K mg base k "is_all_of" ["signs", "word"] dG):CanM P w K mg base (k+1) "number_in" ["word"] dE:=
  mJ F tU fun W WR=>(aD (jW (PWd.pt (zCV (tst (eqA W.u) zBB (aX jY oU rfl B.len PySem.boot_len (cX 0)) bW (bR _)) (zCV (tst uC zFh (aX jY oU rfl B.len PySem.boot_len (cX 0)) bW (bR _)) (qS (zGe (yW (aN W c_is_all_of rfl (aB (eR rfl C.FIGURES) (cX 0) bA)))))))) (aI (gR W WR R.NoText rfl vJ)) bP)
 (aD (jW (PWd.pt (zHB (tst (eqA W.u) zBB (yZ (aV 0) bW (fun _ _=>rfl)) (jF cK fun _=>.str _) (bR _)) (zEJ (tst (neA W.u) zHf (aV 0) (jF cK fun _=>.str _) (bR _))))) (aI (gR W WR R.NoText rfl vJ)) bP)
 (aI (cY (nM zCf zGg rfl B.int boot_int (cX 0))))))
theorem uY (F:Fn K mg "_law_names" jN ["script", "many"] f fd) (B:Bt mg) (KT:Kt K) (C:Ct K mg) (R:Rt K mg) (ET:Et K mg) (c_law_cell_at:CanM P w K mg base k "_law_cell_at" ["script", "k"] bM):CanM P w K mg base (k+1) "_law_names" ["script", "many"] fP:=
  mJ F bC fun W WR=>(aD (s_z 2 bC.nd (jF cK fun _=>.str _))
 (aD (s_z 3 bC.nd (aU bN fE (aN W c_law_cell_at rfl (aB (aV 0) (aB bW aT cG) bA)) (aU gQ sL bW bW)))
 (aD (sT (i:=4) bC.nd rfl (Or.inl rfl) (eX aT))
 (aD (oO W.own W.calm (uT rfl B.range (cX 1)) (g_z 5 bC.nd) dD (aD (s_z 6 bC.nd (aU cF gU (aV 3) (aU dO kD (aV 5) bW)))
 (aD (s_z 7 bC.nd (yZ (aV 2) (aU bN fE (aU dO kD (aV 3) (aV 5)) bW) (fun _ _=>rfl)))
 (aD (oO W.own W.calm (uT rfl B.range (aB (aU bN fE (aU cF gU (aV 3) bW) bW) aT dC)) (g_z 8 bC.nd) dD (aD (s_z 7 bC.nd (aU zAs zHk (aV 7) (yZ (aV 2) (aU bN fE (aV 6) bW) (fun _ _=>rfl))))
 (aI (s_z 6 bC.nd (aU cF gU (aV 6) bW)))))
 (aD (jW (tst (eqA W.u) zBB (aU bN fE (aU cF gU (aV 3) bW) bW) (aV 5) (bR _)) (aD (s_z 9 bC.nd (PEf.d (eX (aB (jF cK fun _=>.str _) (aB (jF cK fun _=>.str _) (aB (jF cK fun _=>.str _) (aB (jF cK fun _=>.str _) (aB (jF cK fun _=>.str _) (aB (jF cK fun _=>.str _) (aB (jF cK fun _=>.str _) (aB (jF cK fun _=>.str _) (aB (jF cK fun _=>.str _) (aB (jF cK fun _=>.str _) (aB (jF cK fun _=>.str _) vJ cG) cG) cG) cG) cG) cG) cG) cG) cG) cG) cG))))
 (aI (s_z 7 bC.nd (zAm lD zHh (aV 9) (aU bN fE (aU cF gU (aV 3) bW) bW) (fun _ _=>rfl))))) bP)
 (aI (zEj (i:=4) (pv 4) (aV 7))))))))
 (aI (rP 4 (pv 4)))))))
theorem nN (F:FnM K "needs" "Reader.needs" gB ["self", "signs"] f fd) (B:Bt mg) (KT:Kt K) (C:Ct K mg) (R:Rt K mg) (ET:Et K mg) (LC:Lt K mg) {CA:Addr} (hC:mg "Reader" = some (.ref CA)) (M:Meth K CA "needs" f) (c_Reader_takes:CanX P w K mg base k "Reader" "called" "takes" 1 aK):CanX P w K mg base (k+1) "Reader" "called" "needs" 1 aQ:=
 tN F nX rfl (by decide) hC (LC.fa_Reader CA hC).1 M fun cdv A outer s H E G W WR=>(aI (zFG (zBw (zJR (fS W c_Reader_takes (pv 0) (cX 1)))) (aI zJT) bP))
theorem mV (F:FnM K "run_of" "Reader.run_of" fL ["self", "signs"] f fd) (B:Bt mg) (KT:Kt K) (C:Ct K mg) (R:Rt K mg) (ET:Et K mg) (LC:Lt K mg) {CA:Addr} (hC:mg "Reader" = some (.ref CA)) (M:Meth K CA "run_of" f) (c_Reader_is_done:CanX P w K mg base k "Reader" "called" "is_done" 0 aP):CanX P w K mg base (k+1) "Reader" "called" "run_of" 1 aW:=
  tN F gY rfl (by decide) hC (LC.fa_Reader CA hC).1 M fun cdv A outer s H E G W WR=>(aD (s_z 2 gY.nd (gM (i:=0) (pv 0) (fun C h=>⟨(LC.fa_Reader C h).1,(LC.fa_Reader C h).2 _ (by decide +kernel)⟩)))
 (aD (zDL 100000 W.own (PW.pt (zJf (zBw (zJR (mZ W c_Reader_is_done (pv 0)))) (zGX (zLZ (tst vM zJd (yZ (gM (i:=0) (pv 0) (fun C h=>⟨(LC.fa_Reader C h).1,(LC.fa_Reader C h).2 _ (by decide +kernel)⟩)) (gM (i:=0) (pv 0) (fun C h=>⟨(LC.fa_Reader C h).1,(LC.fa_Reader C h).2 _ (by decide +kernel)⟩)) (fun _ _=>rfl)) (aV 1) (by with_unfolding_all rfl)))))) (aI (zEI (i:=0) (pv 0) bW (fun C h=>⟨(LC.fa_Reader C h).1,(LC.fa_Reader C h).2 _ (by decide +kernel)⟩))))
 (aI (tT (zCA (gM (i:=0) (pv 0) (fun C h=>⟨(LC.fa_Reader C h).1,(LC.fa_Reader C h).2 _ (by decide +kernel)⟩)) (hW (aV 2)) (hW (gM (i:=0) (pv 0) (fun C h=>⟨(LC.fa_Reader C h).1,(LC.fa_Reader C h).2 _ (by decide +kernel)⟩))))))))
theorem iH (F:FnM K "next_number" "Reader.next_number" cU ["self"] f fd) (B:Bt mg) (KT:Kt K) (C:Ct K mg) (R:Rt K mg) (ET:Et K mg) (LC:Lt K mg) {CA:Addr} (hC:mg "Reader" = some (.ref CA)) (M:Meth K CA "next_number" f) (c_number_in:CanM P w K mg base k "number_in" ["word"] dE) (c_Reader_run_of:CanX P w K mg base k "Reader" "called" "run_of" 1 aW):CanX P w K mg base (k+1) "Reader" "called" "next_number" 0 aJ:=
 tN F iK rfl (by decide) hC (LC.fa_Reader CA hC).1 M fun cdv A outer s H E G W WR=>(aI (wR (zHC W c_number_in rfl (fS W c_Reader_run_of (pv 0) (aB (eR rfl C.FIGURES) aT bA)))))
theorem rY {r:Mir} (F:Fn K mg "_law_claims" fX ["custom"] f fd) (B:Bt mg) (KT:Kt K) (C:Ct K mg) (R:Rt K mg) (ET:Et K mg)  (c_law_claims:CanM P w K mg base k "_law_claims" ["custom"] r):CanM P w K mg base (k+1) "_law_claims" ["custom"] (fU r):=
  mJ F dR fun W WR=>(aD (jW (tst (eqA W.u) zBB (zAw 0) (jF cK fun _=>.str _) (bR _)) (aI (cY (PEf.d (eX (aB (zAw 0) aT gP))))) bP)
 (aD (s_z 1 dR.nd (PEf.d (eX aT)))
 (aD (oO W.own W.calm (zD (zAw 0)) (g_z 2 dR.nd) dD (aI (s_z 1 dR.nd (PEf.d (zEK (aV 1) (aN W c_law_claims rfl (cX 2)))))))
 (aI (cY (aV 1))))))
theorem kC (F:Fn K mg "_law_claims" fX ["custom"] f fd) (B:Bt mg) (KT:Kt K) (C:Ct K mg) (R:Rt K mg) (ET:Et K mg)  : ∀ n:Nat,CanM P w K mg base (k+1+n) "_law_claims" ["custom"] (dJ n)
 | 0=>lQ F dR fun cdv A outer s H E G W WR=>zY
 | n+1=>rY (k:=k+1+n) F B KT C R ET  (c_law_claims:=kC F B KT C R ET  n)
theorem uN {r:Mir} (F:Fn K mg "claims_of" gW ["custom"] f fd) (B:Bt mg) (KT:Kt K) (C:Ct K mg) (R:Rt K mg) (ET:Et K mg) (c_is_boat:CanM P w K mg base k "is_boat" ["custom"] cA) (c_kids_of:CanM P w K mg base k "kids_of" ["custom"] bK) (c_claims_of:CanM P w K mg base k "claims_of" ["custom"] r):CanM P w K mg base (k+1) "claims_of" ["custom"] (gS r):=
  mJ F fW fun W WR=>(aD (jW (yW (aN W c_is_boat rfl (cX 0))) (aI (zHo (eX (aB (zAw 0) aT gP)))) bP)
 (aD (sT (i:=1) fW.nd rfl (Or.inl rfl) (eX aT))
 (aD (oO W.own W.calm (zD (aN W c_kids_of rfl (cX 0))) (g_z 2 fW.nd) dD (aI (zKo (i:=1) (pv 1) (jI W c_claims_of rfl (cX 2)))))
 (aI (rP 1 (pv 1))))))
theorem mE (F:Fn K mg "claims_of" gW ["custom"] f fd) (B:Bt mg) (KT:Kt K) (C:Ct K mg) (R:Rt K mg) (ET:Et K mg) (c_is_boat:CanM P w K mg base k "is_boat" ["custom"] cA) (c_kids_of:CanM P w K mg base k "kids_of" ["custom"] bK):∀ n:Nat,CanM P w K mg base (k+1+n) "claims_of" ["custom"] (bH n)
 | 0=>lQ F fW fun cdv A outer s H E G W WR=>zY
 | n+1=>uN (k:=k+1+n) F B KT C R ET (c_is_boat:=c_is_boat.mono (by omega)) (c_kids_of:=c_kids_of.mono (by omega)) (c_claims_of:=mE F B KT C R ET (c_is_boat:=c_is_boat) (c_kids_of:=c_kids_of) n)
theorem zAk {r:Mir} (F:Fn K mg "deep_of" iA ["custom"] f fd) (B:Bt mg) (KT:Kt K) (C:Ct K mg) (R:Rt K mg) (ET:Et K mg) (c_kids_of:CanM P w K mg base k "kids_of" ["custom"] bK) (c_deep_of:CanM P w K mg base k "deep_of" ["custom"] r):CanM P w K mg base (k+1) "deep_of" ["custom"] (kF r):=
 mJ F lM fun W WR=>(aI (cY (aU dO kD bW (zGc W.calm rfl B.max (PEf.d (xX W lM.nd rfl (sc:=aF iA) rfl rfl (by decide +kernel) (zD (aN W c_kids_of rfl (cX 0))) (fun C2 s2 H2 fp2 G W=>⟨zEY,(aN W c_deep_of rfl (cX 1))⟩))) bW))))
theorem pQ (F:Fn K mg "deep_of" iA ["custom"] f fd) (B:Bt mg) (KT:Kt K) (C:Ct K mg) (R:Rt K mg) (ET:Et K mg) (c_kids_of:CanM P w K mg base k "kids_of" ["custom"] bK):∀ n:Nat,CanM P w K mg base (k+1+n) "deep_of" ["custom"] (fI n)
 | 0=>lQ F lM fun cdv A outer s H E G W WR=>zY
 | n+1=>zAk (k:=k+1+n) F B KT C R ET (c_kids_of:=c_kids_of.mono (by omega)) (c_deep_of:=pQ F B KT C R ET (c_kids_of:=c_kids_of) n)
theorem zFL (F:Fn K mg "knot" zBH ["way", "weights", "kids"] f fd) (B:Bt mg) (KT:Kt K) (C:Ct K mg) (R:Rt K mg) (ET:Et K mg) (c_refuse_way:CanM P w K mg base k "refuse_way" ["way"] eM) (c_refuse_weights:CanM P w K mg base k "refuse_weights" ["way", "weights", "many"] cH) (c_deep_of:CanM P w K mg base k "deep_of" ["custom"] (fI 10)) (c_claims_of:CanM P w K mg base k "claims_of" ["custom"] (bH 10)):CanM P w K mg base (k+1) "knot" ["way", "weights", "kids"] kB:=
  mJ F zCz fun W WR=>(aD (zCH (aN W c_refuse_way rfl (cX 0)))
 (aD (zCH (aN W c_refuse_weights rfl (aB (aV 0) (aB (aV 1) (aB (aX aR eI rfl B.len PySem.boot_len (cX 2)) aT bB) bA) bA)))
 (aD (s_z 3 zCz.nd (qN (aB (aV 0) (aB (nM kL zEO rfl B.tuple boot_tuple (cX 1)) (aB (nM kL zEO rfl B.tuple boot_tuple (cX 2)) aT bB) bB) bA)))
 (aD (jW (PWd.pt (zCV (tst (eqA W.u) zBB (aX aR eI rfl B.len PySem.boot_len (cX 2)) bW (bR _)) (zCV (tst uC zFh (aX aR eI rfl B.len PySem.boot_len (aB (PEf.d (jI W c_claims_of rfl (cX 3))) aT bB)) (eR rfl C.MOST_BOATS) (bR _)) (qS (tst uC zFh (aN W c_deep_of rfl (cX 3)) (eR rfl C.DEEPEST) (bR _)))))) (aI (gR W WR R.TooMany rfl vJ)) bP)
 (aI (cY (aV 3)))))))
theorem vQ (F:Fn K mg "claim_of" lU ["custom"] f fd) (B:Bt mg) (KT:Kt K) (C:Ct K mg) (R:Rt K mg) (ET:Et K mg) (c_claims_of:CanM P w K mg base k "claims_of" ["custom"] (bH 10)):CanM P w K mg base (k+1) "claim_of" ["custom"] fG:=
 mJ F wK fun W WR=>(aI (cY (aX (zDk W.calm) zIM rfl B.sum zCU (aB (PEf.d (jI W c_claims_of rfl (cX 0))) aT bB))))
theorem zAO (F:Fn K mg "by_kid" qV ["custom", "some"] f fd) (B:Bt mg) (KT:Kt K) (C:Ct K mg) (R:Rt K mg) (ET:Et K mg) (c_kids_of:CanM P w K mg base k "kids_of" ["custom"] bK) (c_claims_of:CanM P w K mg base k "claims_of" ["custom"] (bH 10)):CanM P w K mg base (k+1) "by_kid" ["custom", "some"] iT:=
  mJ F gG fun W WR=>(aD (sT (i:=2) gG.nd rfl (Or.inl rfl) (eX aT))
 (aD (s_z 3 gG.nd bW)
 (aD (oO W.own W.calm (zD (aN W c_kids_of rfl (cX 0))) (g_z 4 gG.nd) dD (aD (s_z 5 gG.nd (aU dO kD (aV 3) (aX aR eI rfl B.len PySem.boot_len (aB (PEf.d (jI W c_claims_of rfl (cX 4))) aT bB))))
 (aD (zEj (i:=2) (pv 2) (tO (aV 1) (hW (aV 3)) (hW (aV 5))))
 (aI (s_z 3 gG.nd (aV 5))))))
 (aI (rP 2 (pv 2))))))
theorem oM (F:Fn K mg "refuse_names" gC ["custom", "names"] f fd) (B:Bt mg) (KT:Kt K) (C:Ct K mg) (R:Rt K mg) (ET:Et K mg) (c_claims_of:CanM P w K mg base k "claims_of" ["custom"] (bH 10)) (c_is_name:CanM P w K mg base k "is_name" ["word"] iO):CanM P w K mg base (k+1) "refuse_names" ["custom", "names"] aM:=
  mJ F fJ fun W WR=>(aD (jW (tst (neA W.u) zHf (aX aR eI rfl B.len PySem.boot_len (cX 1)) (aX aR eI rfl B.len PySem.boot_len (aB (PEf.d (jI W c_claims_of rfl (cX 0))) aT bB)) (bR _)) (aI (gR W WR R.Unlike rfl vJ)) bP)
 (aI (oO W.own W.calm (zIK rfl B.enumerate (aV 1)) (zKD W.calm (zBO (g_z 2 fJ.nd) (zBO (g_z 3 fJ.nd) zIs)) (zAC (zAC zIS))) (zGq (wY dD (wY dD zFu))) (aI (jW (PWd.pt (zCV (zGe (yW (aN W c_is_name rfl (cX 3)))) (qS (tst (inA W.u) zHe (aV 3) (tO (aV 1) rN (hW (aV 2))) (by with_unfolding_all rfl))))) (aI (gR W WR R.NoText rfl vJ)) bP)))))
theorem wI (F:Fn K mg "_law_knot" lE ["cell", "kids"] f fd) (B:Bt mg) (KT:Kt K) (C:Ct K mg) (R:Rt K mg) (ET:Et K mg) (c_knot:CanM P w K mg base k "knot" ["way", "weights", "kids"] kB):CanM P w K mg base (k+1) "_law_knot" ["cell", "kids"] dZ:=
  mJ F dF fun W WR=>(aD (s_z 2 dF.nd (zAm lD zHh (PEf.d (eX (aB (jF cK fun _=>.str _) (aB (jF cK fun _=>.str _) (aB (jF cK fun _=>.str _) (aB (jF cK fun _=>.str _) (aB (jF cK fun _=>.str _) vJ cG) cG) cG) cG) cG))) (aU bN fE (aV 0) bW) (fun _ _=>rfl)))
 (aD (sT (i:=3) dF.nd rfl (Or.inl rfl) (eX aT))
 (aD (jW (tst (inA W.u) zHe (aV 2) (qN (aB (jF cK fun _=>.str _) vJ cG)) (by with_unfolding_all rfl)) (aD (s_z 4 dF.nd (zAm lD zHh (PEf.d (eX (aB bW (aB bW (aB bW (aB (aU gQ sL bW bW) aT dC) cG) cG) cG))) (aU bN fE (aU cF gU (aV 0) bW) bW) (fun _ _=>rfl)))
 (aD (s_z 5 dF.nd (aU cF gU (aV 0) bW))
 (aI (oO W.own W.calm (zD (aV 1)) (g_z 6 dF.nd) dD (aD (zEj (i:=3) (pv 3) (aU dO kD bW (aU bN fE (aV 5) (aV 4))))
 (aI (s_z 5 dF.nd (aU cF gU (aV 5) bW)))))))) bP)
 (bX.frzAt 3 (aI (cY (aN W c_knot rfl (aB (aV 2) (aB (aV 3) (cX 1) bA) bA))))))))
theorem qQ (F:Fn K mg "_law_custom" iN ["script"] f fd) (B:Bt mg) (KT:Kt K) (C:Ct K mg) (R:Rt K mg) (ET:Et K mg) (c_law_cell_at:CanM P w K mg base k "_law_cell_at" ["script", "k"] bM) (c_law_knot:CanM P w K mg base k "_law_knot" ["cell", "kids"] dZ) (c_boat:CanM P w K mg base k "boat" ["claim"] kO) (c_law_claim:CanM P w K mg base k "_law_claim" ["cell", "kind"] fR):CanM P w K mg base (k+1) "_law_custom" ["script"] eH:=
  mJ F aY fun W WR=>(aD (s_z 1 aY.nd (aU bN fE (aN W c_law_cell_at rfl (aB (aV 0) (aB bW aT cG) bA)) (aU gQ sL bW bW)))
 (aD (sT (i:=2) aY.nd rfl (Or.inl rfl) (eX aT))
 (aD (s_z 3 aY.nd bW)
 (aD (s_z 4 aY.nd (aU dO kD bW (aU bN fE (aV 1) bW)))
 (aD (jW (tst (eqA W.u) zBB (aU bN fE (aU cF gU (aV 1) bW) bW) bW (bR _)) (aI (s_z 4 aY.nd (aU dO kD (aV 4) bW))) bP)
 (aD (oO W.own W.calm (uT rfl B.range (cX 4)) (g_z 5 aY.nd) dD (aD (s_z 6 aY.nd (aU bN fE (aN W c_law_cell_at rfl (aB (aV 0) (aB (aU dO kD bW (aV 5)) aT dC) bA)) (aU gQ sL bW bW)))
 (aD (zEj (i:=2) (pv 2) (aN W c_boat rfl (aB (aN W c_law_claim rfl (aB (aV 6) (aB (aU bN fE (aU cF gU (aV 1) bW) bW) aT dC) bA)) aT bB)))
 (aD (s_z 7 aY.nd (aU bN fE (aN W c_law_cell_at rfl (aB (aV 0) (aB (aU dO kD bW (aV 5)) aT dC) bA)) (aU gQ sL bW bW)))
 (aI (jW (PWd.pt (zHB (tst (eqA W.u) zBB (aU bN fE (aV 7) bW) bW (bR _)) (zEJ (tst zDS zJA (aV 3) bW (bR _))))) (aD (s_z 3 aY.nd (aU dO kD (aV 3) bW))
 (aD (s_z 8 aY.nd (PEd.frz (aU dO kD bW (aU bN fE (aU cF gU (aV 7) bW) (aX (zBj W.calm) zHW rfl B.min boot_min (aB bW (aB (aX aR eI rfl B.len PySem.boot_len (cX 2)) aT bB) cG))))))
 (aI (sT (i:=2) aY.nd rfl (Or.inl rfl) (PEf.frz (zEK (PEf.d (rZ (aV 2) rN (hW (zFd (aV 8))))) (PEf.d (eX (aB (aN W c_law_knot rfl (aB (aU cF gU (aV 7) bW) (aB (PEf.d (rZ (aV 2) (hW (zFd (aV 8))) rN)) aT gP) dC)) aT bB))))))))) bP))))))
 (bX.frzAt 2 (aD (jW (PWd.pt (zCV (tst uC zFh (aX aR eI rfl B.len PySem.boot_len (cX 2)) bW (bR _)) (qS (tst uC zFh (aU bN fE (aU cF gU (aV 1) bW) bW) bW (bR _))))) (aI (cY (aN W c_law_knot rfl (aB (aU cF gU (aV 1) bW) (cX 2) dC)))) bP)
 (aI (cY (zAw 2)))))))))))
theorem sV {r:Mir} (F:Fn K mg "_law_alike" gO ["found", "due"] f fd) (B:Bt mg) (KT:Kt K) (C:Ct K mg) (R:Rt K mg) (ET:Et K mg) (c_law_whole:CanM P w K mg base k "_law_whole" ["found"] fM) (c_law_alike:CanM P w K mg base k "_law_alike" ["found", "due"] r):CanM P w K mg base (k+1) "_law_alike" ["found", "due"] (bY r):=
  mJ F iF fun W WR=>(aD (jW (zGE (aV 1) zEu (bR _)) (aI (cY (zHH (aV 0) zEu (bR _)))) bP)
 (aD (jW (yW (lW KT.str rfl B.isinstance (aV 1) (iM (v:=.ty "str") rfl B.str boot_str rfl))) (aI (cY (yL (lW KT.str rfl B.isinstance (aV 0) (iM (v:=.ty "str") rfl B.str boot_str rfl)) (yJ (uG (eqA W.u) zBB (aV 0) (aV 1) (bR _)))))) bP)
 (aD (jW (yW (lW KT.int rfl B.isinstance (aV 1) (iM (v:=.ty "int") rfl B.int boot_int rfl))) (aI (cY (yL (aN W c_law_whole rfl (cX 0)) (yJ (uG (eqA W.u) zBB (aV 0) (aV 1) (bR _)))))) bP)
 (aD (jW (yW (lW KT.list rfl B.isinstance (aV 1) (iM (v:=.ty "list") rfl B.list boot_list rfl))) (aI (jW (PWd.pt (zCV (zGe (yW (lW KT.list rfl B.isinstance (aV 0) (iM (v:=.ty "list") rfl B.list boot_list rfl)))) (qS (tst (neA W.u) zHf (aX aR eI rfl B.len PySem.boot_len (cX 0)) (aX aR eI rfl B.len PySem.boot_len (cX 1)) (bR _))))) (aI (cY (jF tP fun _=>.bl _))) bP)) (aI (jW (PWd.pt (zCV (zGe (yW (lW KT.tuple rfl B.isinstance (aV 0) (iM (v:=.ty "tuple") rfl B.tuple boot_tuple rfl)))) (qS (tst (neA W.u) zHf (aX aR eI rfl B.len PySem.boot_len (cX 0)) (aX aR eI rfl B.len PySem.boot_len (cX 1)) (bR _))))) (aI (cY (jF tP fun _=>.bl _))) bP)))
 (aD (oO W.own W.calm (uT rfl B.range (aB (aX aR eI rfl B.len PySem.boot_len (cX 1)) aT bB)) (g_z 2 iF.nd) dD (aI (jW (zGe (yW (aN W c_law_alike rfl (aB (zJM (aV 0) 2) (aB (zJM (aV 1) 2) aT gP) gP)))) (aI (cY (jF tP fun _=>.bl _))) bP)))
 (aI (cY (jF tP fun _=>.bl _))))))))
theorem mK (F:Fn K mg "_law_alike" gO ["found", "due"] f fd) (B:Bt mg) (KT:Kt K) (C:Ct K mg) (R:Rt K mg) (ET:Et K mg) (c_law_whole:CanM P w K mg base k "_law_whole" ["found"] fM):∀ n:Nat,CanM P w K mg base (k+1+n) "_law_alike" ["found", "due"] (aL n)
 | 0=>lQ F iF fun cdv A outer s H E G W WR=>zY
 | n+1=>sV (k:=k+1+n) F B KT C R ET (c_law_whole:=c_law_whole.mono (by omega)) (c_law_alike:=mK F B KT C R ET (c_law_whole:=c_law_whole) n)
theorem zAp {r:Mir} (F:Fn K mg "text_of" gF ["custom", "names"] f fd) (B:Bt mg) (KT:Kt K) (C:Ct K mg) (R:Rt K mg) (ET:Et K mg) (c_is_boat:CanM P w K mg base k "is_boat" ["custom"] cA) (c_way_of:CanM P w K mg base k "way_of" ["custom"] gT) (c_claim_of:CanM P w K mg base k "claim_of" ["custom"] fG) (c_kids_of:CanM P w K mg base k "kids_of" ["custom"] bK) (c_by_kid:CanM P w K mg base k "by_kid" ["custom", "some"] iT) (c_weights_of:CanM P w K mg base k "weights_of" ["custom"] dI) (c_text_of:CanM P w K mg base k "text_of" ["custom", "names"] r):CanM P w K mg base (k+1) "text_of" ["custom", "names"] (gL r):=
  mJ F dL fun W WR=>(aD (jW (yW (aN W c_is_boat rfl (cX 0))) (aD (s_z 2 dL.nd (zAw 1))
 (aD (s_z 3 dL.nd (aN W c_claim_of rfl (cX 0)))
 (aI (cY (zCn (qM (aV 2) (xT (qM (aV 3) zBC jB) (pW jB)) (qL (pW jB)))))))) bP)
 (aD (zFf (i:=4) dL.nd rfl (Or.inl rfl) (PCf.d (tI (N:=["custom", "names", "name", "claim", "texts", "way", "inside"]) W (by decide +kernel) rfl (sc:=aF gF) rfl rfl (by decide +kernel) (zHI rfl B.zip (aB (aN W c_kids_of rfl (cX 0)) (aB (PEf.d (jI W c_by_kid rfl (aB (aV 0) (cX 1) bA))) aT bB) bB)) (fun C2 s2 H2 fp2 G W=>(aN W c_text_of rfl (aB (aV 7) (cX 8) bA))))) rfl)
 (aD (jW (tst (inA W.u) zHe (aN W c_way_of rfl (cX 0)) (eR rfl C.WEIGHTED) (by with_unfolding_all rfl)) (aI (zFf (i:=4) dL.nd rfl (Or.inl rfl) (PCf.d (tI (N:=["custom", "names", "name", "claim", "texts", "way", "inside"]) W (by decide +kernel) rfl (sc:=aF gF) rfl rfl (by decide +kernel) (zHI rfl B.zip (aB (aN W c_weights_of rfl (cX 0)) (cX 4) bB)) (fun C2 s2 H2 fp2 G W=>(zCn (qM (aV 7) (xT (qM (aV 8) zBC jB) (pW jB)) (qL (pW jB))))))) rfl)) bP)
 (aD (s_z 5 dL.nd (aN W c_way_of rfl (cX 0)))
 (aD (s_z 6 dL.nd (zGm (aV 4)))
 (aI (cY (zCn (qM (aV 5) (xT (qM (aV 6) (xT zBC jB) (qL jB)) (pW (qL jB))) (qL (pW (qL jB))))))))))))
theorem qC (F:Fn K mg "text_of" gF ["custom", "names"] f fd) (B:Bt mg) (KT:Kt K) (C:Ct K mg) (R:Rt K mg) (ET:Et K mg) (c_is_boat:CanM P w K mg base k "is_boat" ["custom"] cA) (c_way_of:CanM P w K mg base k "way_of" ["custom"] gT) (c_claim_of:CanM P w K mg base k "claim_of" ["custom"] fG) (c_kids_of:CanM P w K mg base k "kids_of" ["custom"] bK) (c_by_kid:CanM P w K mg base k "by_kid" ["custom", "some"] iT) (c_weights_of:CanM P w K mg base k "weights_of" ["custom"] dI):∀ n:Nat,CanM P w K mg base (k+1+n) "text_of" ["custom", "names"] (cW n)
 | 0=>lQ F dL fun cdv A outer s H E G W WR=>zY
 | n+1=>zAp (k:=k+1+n) F B KT C R ET (c_is_boat:=c_is_boat.mono (by omega)) (c_way_of:=c_way_of.mono (by omega)) (c_claim_of:=c_claim_of.mono (by omega)) (c_kids_of:=c_kids_of.mono (by omega)) (c_by_kid:=c_by_kid.mono (by omega)) (c_weights_of:=c_weights_of.mono (by omega)) (c_text_of:=qC F B KT C R ET (c_is_boat:=c_is_boat) (c_way_of:=c_way_of) (c_claim_of:=c_claim_of) (c_kids_of:=c_kids_of) (c_by_kid:=c_by_kid) (c_weights_of:=c_weights_of) n)
theorem zAu (F:Fn K mg "written" oT ["custom", "names"] f fd) (B:Bt mg) (KT:Kt K) (C:Ct K mg) (R:Rt K mg) (ET:Et K mg) (c_refuse_names:CanM P w K mg base k "refuse_names" ["custom", "names"] aM) (c_text_of:CanM P w K mg base k "text_of" ["custom", "names"] (cW 10)):CanM P w K mg base (k+1) "written" ["custom", "names"] dP:=
  mJ F zK fun W WR=>(aD (zCH (aN W c_refuse_names rfl (aB (aV 0) (cX 1) bA)))
 (aI (cY (aN W c_text_of rfl (aB (aV 0) (cX 1) bA)))))
theorem jP {r:gH} (F:FnM K "next_knot" "Reader.next_knot" cL ["self", "way", "deep"] f fd) (B:Bt mg) (KT:Kt K) (C:Ct K mg) (R:Rt K mg) (ET:Et K mg) (LC:Lt K mg) {CA:Addr} (hC:mg "Reader" = some (.ref CA)) (M:Meth K CA "next_knot" f) (c_Reader_needs:CanX P w K mg base k "Reader" "called" "needs" 1 aQ) (c_knot:CanM P w K mg base k "knot" ["way", "weights", "kids"] kB) (c_Reader_takes:CanX P w K mg base k "Reader" "called" "takes" 1 aK) (c_Reader_next_number:CanX P w K mg base k "Reader" "called" "next_number" 0 aJ) (c_Reader_next_custom:CanX P w K mg base k "Reader" "called" "next_custom" 1 r):CanX P w K mg base (k+1) "Reader" "called" "next_knot" 2 (bG r):=
  tN F bS rfl (by decide) hC (LC.fa_Reader CA hC).1 M fun cdv A outer s H E G W WR=>(aD (sT (i:=3) bS.nd rfl (Or.inl rfl) (eX aT))
 (aD (sT (i:=4) bS.nd rfl (Or.inl rfl) (eX aT))
 (aD (s_z 5 bS.nd (jF tP fun _=>.bl _))
 (aD (zFB W.own (yW (aV 5)) (aD (jW (tst (inA W.u) zHe (aV 1) (eR rfl C.WEIGHTED) (by with_unfolding_all rfl)) (aD (zCF (j:=3) (pv 3) (mZ W c_Reader_next_number (pv 0)))
 (aI (qU (fS W c_Reader_needs (pv 0) vJ)))) bP)
 (aD (zCF (j:=4) (pv 4) (fS W c_Reader_next_custom (pv 0) (aB (aU dO kD (aV 2) bW) aT dC)))
 (aI (zBK (j:=5) bS.nd rfl (Or.inl rfl) (fS W c_Reader_takes (pv 0) vJ))))))
 (bX.frzAt 3 (bX.frzAt 4 (aD (qU (fS W c_Reader_needs (pv 0) vJ))
 (aI (tT (aN W c_knot rfl (aB (aV 1) (aB (aV 3) (cX 4) bA) bA)))))))))))
theorem iI {r:gH} (F:FnM K "next_custom" "Reader.next_custom" bZ ["self", "deep"] f fd) (B:Bt mg) (KT:Kt K) (C:Ct K mg) (R:Rt K mg) (ET:Et K mg) (LC:Lt K mg) {CA:Addr} (hC:mg "Reader" = some (.ref CA)) (M:Meth K CA "next_custom" f) (c_Reader_run_of:CanX P w K mg base k "Reader" "called" "run_of" 1 aW) (c_Reader_takes:CanX P w K mg base k "Reader" "called" "takes" 1 aK) (c_Reader_needs:CanX P w K mg base k "Reader" "called" "needs" 1 aQ) (c_boat:CanM P w K mg base k "boat" ["claim"] kO) (c_Reader_next_number:CanX P w K mg base k "Reader" "called" "next_number" 0 aJ) (c_Reader_next_knot:CanX P w K mg base k "Reader" "called" "next_knot" 2 (bG r)):CanX P w K mg base (k+1) "Reader" "called" "next_custom" 1 (bJ r):=
  tN F cN rfl (by decide) hC (LC.fa_Reader CA hC).1 M fun cdv A outer s H E G W WR=>(aD (jW (tst uC zFh (aV 1) (eR rfl C.DEEPEST) (bR _)) (aI zJT) bP)
 (aD (zBK (j:=2) cN.nd rfl (Or.inl rfl) (fS W c_Reader_run_of (pv 0) (aB (eR rfl C.LETTERS) aT bA)))
 (aD (zFG (zJR (fS W c_Reader_takes (pv 0) vJ)) (aI (wR (fS W c_Reader_next_knot (pv 0) (aB (aV 2) (cX 1) bA)))) bP)
 (aD (qU (fS W c_Reader_needs (pv 0) vJ))
 (aD (zIB (i:=0) (pv 0) (aV 2) (fun C h=>⟨(LC.fa_Reader C h).1,(LC.fa_Reader C h).2 _ (by decide +kernel)⟩))
 (aI (wR (zHC W c_boat rfl (mZ W c_Reader_next_number (pv 0))))))))))
theorem eK (F:FnM K "next_custom" "Reader.next_custom" bZ ["self", "deep"] f fd) (B:Bt mg) (KT:Kt K) (C:Ct K mg) (R:Rt K mg) (ET:Et K mg) (LC:Lt K mg) {CA:Addr} (hC:mg "Reader" = some (.ref CA)) (M:Meth K CA "next_custom" f) {fi:Addr} {fdi:FuncData} (Fi:FnM K "next_knot" "Reader.next_knot" cL ["self", "way", "deep"] fi fdi) (Mi:Meth K CA "next_knot" fi) (c_Reader_needs:CanX P w K mg base k "Reader" "called" "needs" 1 aQ) (c_knot:CanM P w K mg base k "knot" ["way", "weights", "kids"] kB) (c_Reader_takes:CanX P w K mg base k "Reader" "called" "takes" 1 aK) (c_Reader_next_number:CanX P w K mg base k "Reader" "called" "next_number" 0 aJ) (c_Reader_run_of:CanX P w K mg base k "Reader" "called" "run_of" 1 aW) (c_boat:CanM P w K mg base k "boat" ["claim"] kO):∀ n:Nat,CanX P w K mg base (k+1+2 * n) "Reader" "called" "next_custom" 1 (aO n)
 | 0=>tN F cN rfl (by decide) hC (LC.fa_Reader CA hC).1 M fun cdv A outer s H E G W WR=>zY
 | n+1=>iI (k:=k+1+2 * n+1) F B KT C R ET LC hC M (c_Reader_run_of:=c_Reader_run_of.mono (by omega)) (c_Reader_takes:=c_Reader_takes.mono (by omega)) (c_Reader_needs:=c_Reader_needs.mono (by omega)) (c_boat:=c_boat.mono (by omega)) (c_Reader_next_number:=c_Reader_next_number.mono (by omega)) (c_Reader_next_knot:=jP (k:=k+1+2 * n) Fi B KT C R ET LC hC Mi (c_Reader_needs:=c_Reader_needs.mono (by omega)) (c_knot:=c_knot.mono (by omega)) (c_Reader_takes:=c_Reader_takes.mono (by omega)) (c_Reader_next_number:=c_Reader_next_number.mono (by omega)) (c_Reader_next_custom:=eK F B KT C R ET LC hC M Fi Mi (c_Reader_needs:=c_Reader_needs) (c_knot:=c_knot) (c_Reader_takes:=c_Reader_takes) (c_Reader_next_number:=c_Reader_next_number) (c_Reader_run_of:=c_Reader_run_of) (c_boat:=c_boat) n))
theorem zFF (F:Fn K mg "read" zBV ["text"] f fd) (B:Bt mg) (KT:Kt K) (C:Ct K mg) (R:Rt K mg) (ET:Et K mg) (LC:Lt K mg) (c_Reader:CanIM P w K mg base k "Reader" "called" 1 nA) (c_refuse_names:CanM P w K mg base (k+1) "refuse_names" ["custom", "names"] aM) (c_Reader_next_custom:CanX P w K mg base (k+1) "Reader" "called" "next_custom" 1 (aO 10)) (c_Reader_is_done:CanX P w K mg base (k+1) "Reader" "called" "is_done" 0 aP):CanP P w K mg base (k+1+1) "read" ["text"] jZ:=
  zKl F vT fun cdv A outer s H E G W WR=>(rR (zFp (i:=1) vT.nd rfl (Or.inl rfl) W c_Reader rfl (cX 0))
 (rR (zIU (have W:=W.nox;(aI (zBK (j:=2) vT.nd rfl (Or.inl rfl) (fS W c_Reader_next_custom (pv 1) (aB bW aT cG))))))
 (rR (zFG (zBw (zJR (mZ W c_Reader_is_done (pv 1)))) (aI zJT) bP)
 (rR (qU (zHY 1 (aN W c_refuse_names rfl (aB (aV 2) (aB (zJk (i:=1) (pv 1) (fun C h=>⟨(LC.fa_Reader C h).1,(LC.fa_Reader C h).2 _ (by decide +kernel)⟩)) aT) bA))))
 (zGH (zHK (c := "Reader") (lf := "called") (pv 2) (pv 1) (fun C h=>⟨(LC.fa_Reader C h).1,(LC.fa_Reader C h).2 _ (by decide +kernel)⟩)))))))
theorem zHL (F:Fn K mg "law" nU ["script"] f fd) (B:Bt mg) (KT:Kt K) (C:Ct K mg) (R:Rt K mg) (ET:Et K mg) (c_law_custom:CanM P w K mg base k "_law_custom" ["script"] eH) (c_law_names:CanM P w K mg base k "_law_names" ["script", "many"] fP) (c_written:CanM P w K mg base k "written" ["custom", "names"] dP) (c_read:CanP P w K mg base k "read" ["text"] jZ) (c_law_alike:CanM P w K mg base k "_law_alike" ["found", "due"] (aL 20)) (c_law_claims:CanM P w K mg base k "_law_claims" ["custom"] (dJ 10)):FnOk P w K mg base (CX1 P w) (k+1) f fd ["script"] (spM K mg 1 zFP):=
  zHp F qB fun cdv A outer s H E G W WR=>(aD (s_z 1 qB.nd (aN W c_law_custom rfl (cX 0)))
 (aD (s_z 2 qB.nd (PEf.d (jI W c_law_names rfl (aB (aV 0) (aB (aX aR eI rfl B.len PySem.boot_len (aB (aN W c_law_claims rfl (cX 1)) aT bB)) aT bB) bA))))
 (aD (oO W.own W.calm (uT rfl B.range (aB (aX aR eI rfl B.len PySem.boot_len (cX 2)) aT bB)) (g_z 3 qB.nd) dD (aI (jW (tst (inA W.u) zHe (zJM (aV 2) 3) (PEf.d (rZ (aV 2) rN (hW (aV 3)))) (by with_unfolding_all rfl)) (aI (cY (jF tP fun _=>.bl _))) bP)))
 (aD (s_z 4 qB.nd (aN W c_written rfl (aB (aV 1) (aB (PEf.d (zGS rfl B.list boot_list (cX 2))) aT bB) bA)))
 (zIf (fo:=5) qB.nd rfl (Or.inl rfl) W c_read rfl (cX 4) (PWd.pt (zCV (zGe (yW (aN W c_law_alike rfl (aB (aV 5) (aB (qN (aB (aV 1) (cX 2) bA)) aT yY) bA)))) (qS (tst (neA W.u) zHf (aN W c_written rfl (aB (zAw 5) (aB (zAw 5) aT gP) gP)) (aV 4) (bR _))))) (pv 5) (aI (cY (aN W c_law_alike rfl (aB (aN W c_read.m rfl (cX 4)) (aB (qN (aB (aV 1) (cX 2) bA)) aT yY) bB)))))))))
end
end Lw
namespace Lw
open PySem PySem.Spec PyProof.Rows L2 L3
def FnK (K:PySem.W.Frag) (x:Str) (st:Stmt):Prop:=∃ f oc od sl kV dc pm an cd ct,PySem.W.nsIn K mainGlobals x=some (some (.ref f))/\K.lookup f=some ⟨oc,od,.func (PySem.W.fnOf x x (eS st) (cD st) (aF st) .none kV dc pm an cd ct),sl⟩/\PySem.W.codeIn K cd x=true/\PySem.W.keepIn K (.ref f)=true
theorem fk {K:PySem.W.Frag} {h:Heap} {mg:Str->Option Value} {x:Str} {st:Stmt} (X:K.In h) (G:h.Ns mainGlobals mg) (d:FnK K x st) (ps:List Str) (hb:∀ (kV doc pm:Value) (an:Option Addr) (cdv ct:Value) (us:List Value),us.length=ps.length->bindArgs (PySem.W.fnOf x x (eS st) (cD st) (aF st) .none kV doc pm an cdv ct) ⟨us,[]⟩=pure (ps.zip us)):∃ f fd,Fn K mg x st ps f fd:=by
 obtain ⟨f,oc,od,sl,kV,dc,pm,an,cd,ct,a,l,c,k⟩:=d
 exact ⟨f,_,pT (st:=st) l c k,(pT (st:=st) l c k).binds (ps:=ps) hb,k,PySem.W.mg_of X G a⟩
theorem fkm {K:PySem.W.Frag} {x:Str} {st:Stmt} {f:Addr} {oc:Value} {od an:Option Addr} {sl:Array (Option Value)} {kV dc pm cd ct:Value} (a:PySem.W.nsIn K mainGlobals x=some (some (.ref f))) (l:K.lookup f=some ⟨oc,od,.func (PySem.W.fnOf x x (eS st) (cD st) (aF st) .none kV dc pm an cd ct),sl⟩) (c:PySem.W.codeIn K cd x=true) (k:PySem.W.keepIn K (.ref f)=true):FnK K x st:=⟨f,oc,od,sl,kV,dc,pm,an,cd,ct,a,l,c,k⟩
def FmK (K:PySem.W.Frag) (C:Addr) (x q:Str) (st:Stmt):Prop:=∃ f oc od sl kV dc pm an cd ct,PySem.W.findIn K (.ref C) x=some (some (.ref f))/\K.lookup f=some ⟨oc,od,.func (PySem.W.fnOf x q (eS st) (cD st) (aF st) .none kV dc pm an cd ct),sl⟩/\PySem.W.codeIn K cd q=true/\PySem.W.keepIn K (.ref f)=true/\PySem.W.isFn K (.ref f)=true
theorem fm {K:PySem.W.Frag} {C:Addr} {x q:Str} {st:Stmt} (d:FmK K C x q st) (ps:List Str) (hb:∀ (kV doc pm:Value) (an:Option Addr) (cdv ct:Value) (us:List Value),us.length=ps.length->bindArgs (PySem.W.fnOf x q (eS st) (cD st) (aF st) .none kV doc pm an cdv ct) ⟨us,[]⟩=pure (ps.zip us)):∃ f fd,FnM K x q st ps f fd/\Meth K C x f:=by
 obtain ⟨f,oc,od,sl,kV,dc,pm,an,cd,ct,a,l,c,k,i⟩:=d
 exact ⟨f,_,⟨pT (st:=st) l c k,(pT (st:=st) l c k).binds (ps:=ps) hb⟩,a,i,k⟩
theorem fmm {K:PySem.W.Frag} {C:Addr} {x q:Str} {st:Stmt} {f:Addr} {oc:Value} {od an:Option Addr} {sl:Array (Option Value)} {kV dc pm cd ct:Value} (a:PySem.W.findIn K (.ref C) x=some (some (.ref f))) (l:K.lookup f=some ⟨oc,od,.func (PySem.W.fnOf x q (eS st) (cD st) (aF st) .none kV dc pm an cd ct),sl⟩) (c:PySem.W.codeIn K cd q=true) (k:PySem.W.keepIn K (.ref f)=true) (i:PySem.W.isFn K (.ref f)=true):FmK K C x q st:=⟨f,oc,od,sl,kV,dc,pm,an,cd,ct,a,l,c,k,i⟩
theorem zHA {l:PySem.W.OpenLaw} {w:World} {K:PySem.W.Frag} {h:Heap} {mg:Str->Option Value} {fa f27:Addr} (X:K.In h) (G:h.Ns mainGlobals mg) (hfa:mg "law" = some (.ref fa))
  {od27 an27:Option Addr} {sl27:Array (Option Value)} {oc27 kV27 dc27 pm27 cd27 ct27:Value}
  (d0:FnK K "refuse_way" iC)
  (d1:FnK K "refuse_weights" eQ)
  (d2:FnK K "boat" zBM)
  (d3:FnK K "knot" zBH)
  (d4:FnK K "is_boat" nT)
  (d5:FnK K "way_of" rK)
  (d6:FnK K "weights_of" iP)
  (d7:FnK K "kids_of" nK)
  (d8:FnK K "claims_of" gW)
  (d9:FnK K "claim_of" lU)
  (d10:FnK K "deep_of" iA)
  (d11:FnK K "by_kid" qV)
  (d12:FnK K "written" oT)
  (d13:FnK K "refuse_names" gC)
  (d14:FnK K "is_name" nS)
  (d15:FnK K "is_all_of" gX)
  (d16:FnK K "text_of" gF)
  (d17:FnK K "number_in" jH)
  (d18:FnK K "read" zBV)
  (d19:FnK K "_law_cell_at" gN)
  (d20:FnK K "_law_whole" jS)
  (d21:FnK K "_law_claim" jQ)
  (d22:FnK K "_law_knot" lE)
  (d23:FnK K "_law_custom" iN)
  (d24:FnK K "_law_claims" fX)
  (d25:FnK K "_law_names" jN)
  (d26:FnK K "_law_alike" gO)
  (a27:PySem.W.nsIn K mainGlobals "law" = some (some (.ref f27))) (l27:K.lookup f27=some ⟨oc27,od27,.func (PySem.W.fnOf "law" "law" (eS nU) (cD nU) (aF nU) .none kV27 dc27 pm27 an27 cd27 ct27),sl27⟩) (c27:PySem.W.codeIn K cd27 "law" = true) (k27:PySem.W.keepIn K (.ref f27)=true)
  (z_len:PySem.W.nsIn K mainGlobals "len" = some none)
  (z_tuple:PySem.W.nsIn K mainGlobals "tuple" = some none)
  (z_sum:PySem.W.nsIn K mainGlobals "sum" = some none)
  (z_max:PySem.W.nsIn K mainGlobals "max" = some none)
  (z_enumerate:PySem.W.nsIn K mainGlobals "enumerate" = some none)
  (z_all:PySem.W.nsIn K mainGlobals "all" = some none)
  (z_zip:PySem.W.nsIn K mainGlobals "zip" = some none)
  (z_int:PySem.W.nsIn K mainGlobals "int" = some none)
  (z_isinstance:PySem.W.nsIn K mainGlobals "isinstance" = some none)
  (z_bool:PySem.W.nsIn K mainGlobals "bool" = some none)
  (z_range:PySem.W.nsIn K mainGlobals "range" = some none)
  (z_min:PySem.W.nsIn K mainGlobals "min" = some none)
  (z_str:PySem.W.nsIn K mainGlobals "str" = some none)
  (z_list:PySem.W.nsIn K mainGlobals "list" = some none)
  (z_ranked:PySem.W.nsIn K mainGlobals "ranked" = some none)
  {CA_Reader:Addr} (nL_Reader:PySem.W.nsIn K mainGlobals "Reader" = some (some (.ref CA_Reader))) (g1_Reader:PySem.W.plainGet K CA_Reader Str.empty=true) (g2_Reader:PySem.W.hasDictIn K CA_Reader=true) (g3_Reader:PySem.W.plainOver K CA_Reader=true) (g4_Reader:PySem.W.findIn K (.ref CA_Reader) "__setattr__" = some (some (.builtin "object.__setattr__"))) (g5_Reader:PySem.W.makesIn K CA_Reader=true) (g6_Reader:PySem.W.keepIn K (.ref CA_Reader)=true)
  (n_Reader_text:PySem.W.findIn K (.ref CA_Reader) "text" = some none) (n_Reader_spot:PySem.W.findIn K (.ref CA_Reader) "spot" = some none) (n_Reader_called:PySem.W.findIn K (.ref CA_Reader) "called" = some none)
  (d28:FmK K CA_Reader "__init__" "Reader.__init__" dY)
  (d29:FmK K CA_Reader "is_done" "Reader.is_done" eV)
  (d30:FmK K CA_Reader "takes" "Reader.takes" fY)
  (d31:FmK K CA_Reader "needs" "Reader.needs" gB)
  (d32:FmK K CA_Reader "run_of" "Reader.run_of" fL)
  (d33:FmK K CA_Reader "next_number" "Reader.next_number" cU)
  (d34:FmK K CA_Reader "next_custom" "Reader.next_custom" bZ)
  (d35:FmK K CA_Reader "next_knot" "Reader.next_knot" cL)
  (KT:Kt K) (CC:∀ (h:Heap) (mg:Str->Option Value),K.In h->h.Ns mainGlobals mg->Ct K mg) (RR:∀ (h:Heap) (mg:Str->Option Value),K.In h->h.Ns mainGlobals mg->Rt K mg) (EE:∀ (h:Heap) (mg:Str->Option Value),K.In h->h.Ns mainGlobals mg->Et K mg)
  : ∃ fd:FuncData,(∀ (s:Shared) (v:Value),BindsTo s fd ⟨[v],[]⟩ [("script", v)])/\∀ base:Heap,K.In base->base.Ns mainGlobals mg->FnOk l.prog w K mg base (CX1 l.prog w) 37 fa fd ["script"] (spL K):=by
 have e:=hfa.symm.trans (PySem.W.mg_of X G a27)
 cases e
 have B:Bt mg:=⟨PySem.W.mg_none_of X G z_len,PySem.W.mg_none_of X G z_tuple,PySem.W.mg_none_of X G z_sum,PySem.W.mg_none_of X G z_max,PySem.W.mg_none_of X G z_enumerate,PySem.W.mg_none_of X G z_all,PySem.W.mg_none_of X G z_zip,PySem.W.mg_none_of X G z_int,PySem.W.mg_none_of X G z_isinstance,PySem.W.mg_none_of X G z_bool,PySem.W.mg_none_of X G z_range,PySem.W.mg_none_of X G z_min,PySem.W.mg_none_of X G z_str,PySem.W.mg_none_of X G z_list⟩
 have C:Ct K mg:=CC h mg X G
 have R:Rt K mg:=RR h mg X G
 have ET:Et K mg:=EE h mg X G
 have hC_Reader:mg "Reader" = some (.ref CA_Reader):=PySem.W.mg_of X G nL_Reader
 have LC:Lt K mg:=⟨fun C h=>by
  rw [hC_Reader] at h
  cases h
  refine ⟨⟨g1_Reader,g2_Reader,g3_Reader,g4_Reader⟩,fun f hf=>?_⟩
  simp only [List.mem_cons,List.not_mem_nil,or_false] at hf
  rcases hf with rfl | rfl | rfl
  ·exact n_Reader_text
  ·exact n_Reader_spot
  ·exact n_Reader_called⟩
 refine ⟨PySem.W.fnOf "law" "law" (eS nU) (cD nU) (aF nU) .none kV27 dc27 pm27 an27 cd27 ct27,fun s v=>.of_eq rfl,fun base _ _=>?_⟩
 obtain ⟨_,_,F0⟩:=fk X G d0 ["way"] fun _ _ _ _ _ _ us hl=>by obtain ⟨_,rfl⟩:=L3.ln1 hl;rfl
 have c_refuse_way:=rJ (P:=l.prog) (w:=w) (base:=base) (k:=0) F0 B KT C R ET
 obtain ⟨_,_,F1⟩:=fk X G d1 ["way", "weights", "many"] fun _ _ _ _ _ _ us hl=>by obtain ⟨_,_,_,rfl⟩:=L3.ln3 hl;rfl
 have c_refuse_weights:=lC (P:=l.prog) (w:=w) (base:=base) (k:=0) F1 B KT C R ET
 obtain ⟨_,_,F2⟩:=fk X G d2 ["claim"] fun _ _ _ _ _ _ us hl=>by obtain ⟨_,rfl⟩:=L3.ln1 hl;rfl
 have c_boat:=zFt (P:=l.prog) (w:=w) (base:=base) (k:=0) F2 B KT C R ET
 obtain ⟨_,_,F4⟩:=fk X G d4 ["custom"] fun _ _ _ _ _ _ us hl=>by obtain ⟨_,rfl⟩:=L3.ln1 hl;rfl
 have c_is_boat:=zAv (P:=l.prog) (w:=w) (base:=base) (k:=0) F4 B KT C R ET
 obtain ⟨_,_,F5⟩:=fk X G d5 ["custom"] fun _ _ _ _ _ _ us hl=>by obtain ⟨_,rfl⟩:=L3.ln1 hl;rfl
 have c_way_of:=zBl (P:=l.prog) (w:=w) (base:=base) (k:=0) F5 B KT C R ET
 obtain ⟨_,_,F6⟩:=fk X G d6 ["custom"] fun _ _ _ _ _ _ us hl=>by obtain ⟨_,rfl⟩:=L3.ln1 hl;rfl
 have c_weights_of:=rV (P:=l.prog) (w:=w) (base:=base) (k:=0) F6 B KT C R ET
 obtain ⟨_,_,F15⟩:=fk X G d15 ["signs", "word"] fun _ _ _ _ _ _ us hl=>by obtain ⟨_,_,rfl⟩:=L3.ln2 hl;rfl
 have c_is_all_of:=vC (P:=l.prog) (w:=w) (base:=base) (k:=0) F15 B KT C R ET
 obtain ⟨_,_,F19⟩:=fk X G d19 ["script", "k"] fun _ _ _ _ _ _ us hl=>by obtain ⟨_,_,rfl⟩:=L3.ln2 hl;rfl
 have c_law_cell_at:=pJ (P:=l.prog) (w:=w) (base:=base) (k:=0) F19 B KT C R ET
 obtain ⟨_,_,F20⟩:=fk X G d20 ["found"] fun _ _ _ _ _ _ us hl=>by obtain ⟨_,rfl⟩:=L3.ln1 hl;rfl
 have c_law_whole:=sW (P:=l.prog) (w:=w) (base:=base) (k:=0) F20 B KT C R ET
 obtain ⟨_,_,F21⟩:=fk X G d21 ["cell", "kind"] fun _ _ _ _ _ _ us hl=>by obtain ⟨_,_,rfl⟩:=L3.ln2 hl;rfl
 have c_law_claim:=tQ (P:=l.prog) (w:=w) (base:=base) (k:=0) F21 B KT C R ET
 obtain ⟨_,_,F28,M28⟩:=fm d28 ["self", "text"] fun _ _ _ _ _ _ us hl=>by obtain ⟨_,_,rfl⟩:=L3.ln2 hl;rfl
 have c_Reader:=kQ (P:=l.prog) (w:=w) (base:=base) (k:=0) F28 B KT C R ET LC hC_Reader ⟨g5_Reader,M28.at_,M28.fn,g6_Reader⟩
 obtain ⟨_,_,F29,M29⟩:=fm d29 ["self"] fun _ _ _ _ _ _ us hl=>by obtain ⟨_,rfl⟩:=L3.ln1 hl;rfl
 have c_Reader_is_done:=lF (P:=l.prog) (w:=w) (base:=base) (k:=0) F29 B KT C R ET LC hC_Reader M29
 obtain ⟨_,_,F30,M30⟩:=fm d30 ["self", "signs"] fun _ _ _ _ _ _ us hl=>by obtain ⟨_,_,rfl⟩:=L3.ln2 hl;rfl
 have c_Reader_takes:=nF (P:=l.prog) (w:=w) (base:=base) (k:=0) F30 B KT C R ET LC hC_Reader M30
 obtain ⟨_,_,F7⟩:=fk X G d7 ["custom"] fun _ _ _ _ _ _ us hl=>by obtain ⟨_,rfl⟩:=L3.ln1 hl;rfl
 have c_kids_of:=zAc (P:=l.prog) (w:=w) (base:=base) (k:=1) F7 B KT C R ET (c_is_boat:=c_is_boat.mono (by decide))
 obtain ⟨_,_,F14⟩:=fk X G d14 ["word"] fun _ _ _ _ _ _ us hl=>by obtain ⟨_,rfl⟩:=L3.ln1 hl;rfl
 have c_is_name:=zAt (P:=l.prog) (w:=w) (base:=base) (k:=1) F14 B KT C R ET (c_is_all_of:=c_is_all_of.mono (by decide))
 obtain ⟨_,_,F17⟩:=fk X G d17 ["word"] fun _ _ _ _ _ _ us hl=>by obtain ⟨_,rfl⟩:=L3.ln1 hl;rfl
 have c_number_in:=tV (P:=l.prog) (w:=w) (base:=base) (k:=1) F17 B KT C R ET (c_is_all_of:=c_is_all_of.mono (by decide))
 obtain ⟨_,_,F25⟩:=fk X G d25 ["script", "many"] fun _ _ _ _ _ _ us hl=>by obtain ⟨_,_,rfl⟩:=L3.ln2 hl;rfl
 have c_law_names:=uY (P:=l.prog) (w:=w) (base:=base) (k:=1) F25 B KT C R ET (c_law_cell_at:=c_law_cell_at.mono (by decide))
 obtain ⟨_,_,F31,M31⟩:=fm d31 ["self", "signs"] fun _ _ _ _ _ _ us hl=>by obtain ⟨_,_,rfl⟩:=L3.ln2 hl;rfl
 have c_Reader_needs:=nN (P:=l.prog) (w:=w) (base:=base) (k:=1) F31 B KT C R ET LC hC_Reader M31 (c_Reader_takes:=c_Reader_takes.mono (by decide))
 obtain ⟨_,_,F32,M32⟩:=fm d32 ["self", "signs"] fun _ _ _ _ _ _ us hl=>by obtain ⟨_,_,rfl⟩:=L3.ln2 hl;rfl
 have c_Reader_run_of:=mV (P:=l.prog) (w:=w) (base:=base) (k:=1) F32 B KT C R ET LC hC_Reader M32 (c_Reader_is_done:=c_Reader_is_done.mono (by decide))
 obtain ⟨_,_,F33,M33⟩:=fm d33 ["self"] fun _ _ _ _ _ _ us hl=>by obtain ⟨_,rfl⟩:=L3.ln1 hl;rfl
 have c_Reader_next_number:=iH (P:=l.prog) (w:=w) (base:=base) (k:=2) F33 B KT C R ET LC hC_Reader M33 (c_number_in:=c_number_in.mono (by decide)) (c_Reader_run_of:=c_Reader_run_of.mono (by decide))
 obtain ⟨_,_,F24⟩:=fk X G d24 ["custom"] fun _ _ _ _ _ _ us hl=>by obtain ⟨_,rfl⟩:=L3.ln1 hl;rfl
 have c_law_claims:=kC (P:=l.prog) (w:=w) (base:=base) (k:=0) F24 B KT C R ET  10
 obtain ⟨_,_,F8⟩:=fk X G d8 ["custom"] fun _ _ _ _ _ _ us hl=>by obtain ⟨_,rfl⟩:=L3.ln1 hl;rfl
 have c_claims_of:=mE (P:=l.prog) (w:=w) (base:=base) (k:=2) F8 B KT C R ET (c_is_boat:=c_is_boat.mono (by decide)) (c_kids_of:=c_kids_of.mono (by decide)) 10
 obtain ⟨_,_,F10⟩:=fk X G d10 ["custom"] fun _ _ _ _ _ _ us hl=>by obtain ⟨_,rfl⟩:=L3.ln1 hl;rfl
 have c_deep_of:=pQ (P:=l.prog) (w:=w) (base:=base) (k:=2) F10 B KT C R ET (c_kids_of:=c_kids_of.mono (by decide)) 10
 obtain ⟨_,_,F3⟩:=fk X G d3 ["way", "weights", "kids"] fun _ _ _ _ _ _ us hl=>by obtain ⟨_,_,_,rfl⟩:=L3.ln3 hl;rfl
 have c_knot:=zFL (P:=l.prog) (w:=w) (base:=base) (k:=13) F3 B KT C R ET (c_refuse_way:=c_refuse_way.mono (by decide)) (c_refuse_weights:=c_refuse_weights.mono (by decide)) (c_deep_of:=c_deep_of.mono (by decide)) (c_claims_of:=c_claims_of.mono (by decide))
 obtain ⟨_,_,F9⟩:=fk X G d9 ["custom"] fun _ _ _ _ _ _ us hl=>by obtain ⟨_,rfl⟩:=L3.ln1 hl;rfl
 have c_claim_of:=vQ (P:=l.prog) (w:=w) (base:=base) (k:=13) F9 B KT C R ET (c_claims_of:=c_claims_of.mono (by decide))
 obtain ⟨_,_,F11⟩:=fk X G d11 ["custom", "some"] fun _ _ _ _ _ _ us hl=>by obtain ⟨_,_,rfl⟩:=L3.ln2 hl;rfl
 have c_by_kid:=zAO (P:=l.prog) (w:=w) (base:=base) (k:=13) F11 B KT C R ET (c_kids_of:=c_kids_of.mono (by decide)) (c_claims_of:=c_claims_of.mono (by decide))
 obtain ⟨_,_,F13⟩:=fk X G d13 ["custom", "names"] fun _ _ _ _ _ _ us hl=>by obtain ⟨_,_,rfl⟩:=L3.ln2 hl;rfl
 have c_refuse_names:=oM (P:=l.prog) (w:=w) (base:=base) (k:=13) F13 B KT C R ET (c_claims_of:=c_claims_of.mono (by decide)) (c_is_name:=c_is_name.mono (by decide))
 obtain ⟨_,_,F22⟩:=fk X G d22 ["cell", "kids"] fun _ _ _ _ _ _ us hl=>by obtain ⟨_,_,rfl⟩:=L3.ln2 hl;rfl
 have c_law_knot:=wI (P:=l.prog) (w:=w) (base:=base) (k:=14) F22 B KT C R ET (c_knot:=c_knot.mono (by decide))
 obtain ⟨_,_,F23⟩:=fk X G d23 ["script"] fun _ _ _ _ _ _ us hl=>by obtain ⟨_,rfl⟩:=L3.ln1 hl;rfl
 have c_law_custom:=qQ (P:=l.prog) (w:=w) (base:=base) (k:=15) F23 B KT C R ET (c_law_cell_at:=c_law_cell_at.mono (by decide)) (c_law_knot:=c_law_knot.mono (by decide)) (c_boat:=c_boat.mono (by decide)) (c_law_claim:=c_law_claim.mono (by decide))
 obtain ⟨_,_,F26⟩:=fk X G d26 ["found", "due"] fun _ _ _ _ _ _ us hl=>by obtain ⟨_,_,rfl⟩:=L3.ln2 hl;rfl
 have c_law_alike:=mK (P:=l.prog) (w:=w) (base:=base) (k:=1) F26 B KT C R ET (c_law_whole:=c_law_whole.mono (by decide)) 20
 obtain ⟨_,_,F16⟩:=fk X G d16 ["custom", "names"] fun _ _ _ _ _ _ us hl=>by obtain ⟨_,_,rfl⟩:=L3.ln2 hl;rfl
 have c_text_of:=qC (P:=l.prog) (w:=w) (base:=base) (k:=14) F16 B KT C R ET (c_is_boat:=c_is_boat.mono (by decide)) (c_way_of:=c_way_of.mono (by decide)) (c_claim_of:=c_claim_of.mono (by decide)) (c_kids_of:=c_kids_of.mono (by decide)) (c_by_kid:=c_by_kid.mono (by decide)) (c_weights_of:=c_weights_of.mono (by decide)) 10
 obtain ⟨_,_,F12⟩:=fk X G d12 ["custom", "names"] fun _ _ _ _ _ _ us hl=>by obtain ⟨_,_,rfl⟩:=L3.ln2 hl;rfl
 have c_written:=zAu (P:=l.prog) (w:=w) (base:=base) (k:=25) F12 B KT C R ET (c_refuse_names:=c_refuse_names.mono (by decide)) (c_text_of:=c_text_of.mono (by decide))
 obtain ⟨_,_,F34,M34⟩:=fm d34 ["self", "deep"] fun _ _ _ _ _ _ us hl=>by obtain ⟨_,_,rfl⟩:=L3.ln2 hl;rfl
 obtain ⟨_,_,F35,M35⟩:=fm d35 ["self", "way", "deep"] fun _ _ _ _ _ _ us hl=>by obtain ⟨_,_,_,rfl⟩:=L3.ln3 hl;rfl
 have c_Reader_next_custom:=eK (P:=l.prog) (w:=w) (base:=base) (k:=14) F34 B KT C R ET LC hC_Reader M34 F35 M35 (c_Reader_needs:=c_Reader_needs.mono (by decide)) (c_knot:=c_knot.mono (by decide)) (c_Reader_takes:=c_Reader_takes.mono (by decide)) (c_Reader_next_number:=c_Reader_next_number.mono (by decide)) (c_Reader_run_of:=c_Reader_run_of.mono (by decide)) (c_boat:=c_boat.mono (by decide)) 10
 obtain ⟨_,_,F18⟩:=fk X G d18 ["text"] fun _ _ _ _ _ _ us hl=>by obtain ⟨_,rfl⟩:=L3.ln1 hl;rfl
 have c_read:=zFF (P:=l.prog) (w:=w) (base:=base) (k:=34) F18 B KT C R ET LC (c_Reader:=c_Reader.mono (by decide)) (c_refuse_names:=c_refuse_names.mono (by decide)) (c_Reader_next_custom:=c_Reader_next_custom.mono (by decide)) (c_Reader_is_done:=c_Reader_is_done.mono (by decide))
 have F27:Fn K mg "law" nU ["script"] _ _:=⟨pT (st:=nU) l27 c27 k27,(pT (st:=nU) l27 c27 k27).binds (ps:=["script"]) fun _ _ _ _ _ _ us hl=>by obtain ⟨_,rfl⟩:=L3.ln1 hl;rfl,k27,PySem.W.mg_of X G a27⟩
 have c_law:=zHL (P:=l.prog) (w:=w) (base:=base) (k:=36) F27 B KT C R ET (c_law_custom:=c_law_custom.mono (by decide)) (c_law_names:=c_law_names.mono (by decide)) (c_written:=c_written.mono (by decide)) (c_read:=c_read.mono (by decide)) (c_law_alike:=c_law_alike.mono (by decide)) (c_law_claims:=c_law_claims.mono (by decide))
 exact zHF (fun P z=>by obtain ⟨f,oc,od,fd,osl,c,z,_⟩:=z;rw [PySem.W.mg_none_of X G z_ranked] at z;cases z) c_law law_true
end Lw
open PySem PySem.W PyProof.Rows
local macro_rules | `(tactic| walk_at "fk")=>`(tactic| (refine' Lw.fkm ?a ?l ?c ?k;(case a=>k_is);(case l=>k_is);(case c=>k_is);(case k=>k_is)))
local macro_rules | `(tactic| walk_at "fm")=>`(tactic| (refine' Lw.fmm ?a ?l ?c ?k ?i;(case a=>k_is);(case l=>k_is);(case c=>k_is);(case k=>k_is);(case i=>first | k_is | rfl | decide +kernel | kernel_rfl)))
set_option maxRecDepth 100000 in
set_option maxHeartbeats 0 in
theorem PySem.Challenge.cw_catchhall_k58_whole_there_and_back_holds : PySem.Challenge.rw_catchhall_k58_whole_there_and_back.Holds := by
 w_on;o_law;k_head;(case hw=>w_witness2)
 k_fill
 refine L3.zLS (l:=PySem.Challenge.rw_catchhall_k58_whole_there_and_back) (k:=37) rfl rfl ⟨rfl,by decide,by decide⟩ (fun w h Y=>PySem.W.kIn_of Y) ?F
 case F=>
  intro w mg fa h KX G hmg
  refine' Lw.zHA KX G hmg ?d0 ?d1 ?d2 ?d3 ?d4 ?d5 ?d6 ?d7 ?d8 ?d9 ?d10 ?d11 ?d12 ?d13 ?d14 ?d15 ?d16 ?d17 ?d18 ?d19 ?d20 ?d21 ?d22 ?d23 ?d24 ?d25 ?d26 ?a27 ?l27 ?c27 ?k27 ?z_len ?z_tuple ?z_sum ?z_max ?z_enumerate ?z_all ?z_zip ?z_int ?z_isinstance ?z_bool ?z_range ?z_min ?z_str ?z_list ?z_ranked ?nL_Reader ?g1_Reader ?g2_Reader ?g3_Reader ?g4_Reader ?g5_Reader ?g6_Reader ?n_Reader_text ?n_Reader_spot ?n_Reader_called ?d28 ?d29 ?d30 ?d31 ?d32 ?d33 ?d34 ?d35 ?KT ?CC ?RR ?EE
  (case nL_Reader=>first | k_is | kit_is | rfl | decide +kernel | kernel_rfl)
  (case g1_Reader=>first | k_is | kit_is | rfl | decide +kernel | kernel_rfl)
  (case g2_Reader=>first | k_is | kit_is | rfl | decide +kernel | kernel_rfl)
  (case g3_Reader=>first | k_is | kit_is | rfl | decide +kernel | kernel_rfl)
  (case g4_Reader=>first | k_is | kit_is | rfl | decide +kernel | kernel_rfl)
  (case g5_Reader=>first | k_is | kit_is | rfl | decide +kernel | kernel_rfl)
  (case g6_Reader=>first | k_is | kit_is | rfl | decide +kernel | kernel_rfl)
  (case n_Reader_text=>first | k_is | kit_is | rfl | decide +kernel | kernel_rfl)
  (case n_Reader_spot=>first | k_is | kit_is | rfl | decide +kernel | kernel_rfl)
  (case n_Reader_called=>first | k_is | kit_is | rfl | decide +kernel | kernel_rfl)
  (case d28=>walk_at "fm")
  (case d29=>walk_at "fm")
  (case d30=>walk_at "fm")
  (case d31=>walk_at "fm")
  (case d32=>walk_at "fm")
  (case d33=>walk_at "fm")
  (case d34=>walk_at "fm")
  (case d35=>walk_at "fm")
  (case a27=>k_is)
  (case l27=>k_is)
  (case c27=>k_is)
  (case k27=>k_is)
  (case d0=>walk_at "fk")
  (case d1=>walk_at "fk")
  (case d2=>walk_at "fk")
  (case d3=>walk_at "fk")
  (case d4=>walk_at "fk")
  (case d5=>walk_at "fk")
  (case d6=>walk_at "fk")
  (case d7=>walk_at "fk")
  (case d8=>walk_at "fk")
  (case d9=>walk_at "fk")
  (case d10=>walk_at "fk")
  (case d11=>walk_at "fk")
  (case d12=>walk_at "fk")
  (case d13=>walk_at "fk")
  (case d14=>walk_at "fk")
  (case d15=>walk_at "fk")
  (case d16=>walk_at "fk")
  (case d17=>walk_at "fk")
  (case d18=>walk_at "fk")
  (case d19=>walk_at "fk")
  (case d20=>walk_at "fk")
  (case d21=>walk_at "fk")
  (case d22=>walk_at "fk")
  (case d23=>walk_at "fk")
  (case d24=>walk_at "fk")
  (case d25=>walk_at "fk")
  (case d26=>walk_at "fk")
  (case z_len=>k_is)
  (case z_tuple=>k_is)
  (case z_sum=>k_is)
  (case z_max=>k_is)
  (case z_enumerate=>k_is)
  (case z_all=>k_is)
  (case z_zip=>k_is)
  (case z_int=>k_is)
  (case z_isinstance=>k_is)
  (case z_bool=>k_is)
  (case z_range=>k_is)
  (case z_min=>k_is)
  (case z_str=>k_is)
  (case z_list=>k_is)
  (case z_ranked=>k_is)
  (case KT=>refine' ⟨⟨?t0_0,?t0_1,?t0_2,?t0_3,?t0_4,?t0_5⟩,⟨?t1_0,?t1_1,?t1_2,?t1_3,?t1_4,?t1_5⟩,⟨?t2_0,?t2_1,?t2_2,?t2_3,?t2_4,?t2_5⟩,⟨?t3_0,?t3_1,?t3_2,?t3_3,?t3_4,?t3_5⟩,⟨?t4_0,?t4_1,?t4_2,?t4_3,?t4_4,?t4_5⟩⟩<;>(first | kit_is | (show _=some true;kit_is) | (show _=some false;kit_is) | rfl | decide +kernel))
  (case CC=>
   intro h mg X G
   refine' Lw.zKi X G ?n_BOAT ?n_DEEPEST ?n_FIGURES ?n_LETTERS ?n_MOST_BOATS ?n_WEIGHTED ?pWEIGHTED0_l ?n_CONTRARY ?cO<;>try first | k_is | kit_is | k_exc | rfl | decide +kernel | kernel_rfl)
  (case RR=>
   intro h mg X G
   refine' Lw.zKC X G ?n_BadClaim ?x_BadClaim ?n_BadWay ?x_BadWay ?n_BadWeights ?x_BadWeights ?n_NoText ?x_NoText ?n_TooMany ?x_TooMany ?n_Unlike ?x_Unlike<;>try first | k_is | kit_is | k_exc | rfl | decide +kernel | kernel_rfl)
  (case EE=>
   intro h mg X G
   refine' Lw.zKG X G )
