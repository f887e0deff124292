import PyProof.Rows.All
import Wide.All
import OpenK.AllK
import Wide.FinOn
import Lean
import PyProof.EqAt
import PyProof.EqKinds
import PyProof.TupleCall
import PyProof.NeKinds
import KE.KRevIter
import PyProof.Rows.SumAny
import PySem.Challenge.RW_catchhall_k61_ledgers_made
noncomputable section
set_option Elab.async false
set_option linter.all false
set_option maxRecDepth 100000
namespace L2
open PySem PySem.Spec PyProof.Rows
abbrev Key:=Sum Int Str
def zHT:Key->Value->Bool
 | .inl k,v=>Value.isInt k v
 | .inr x,v=>Value.isStrOf x v
def zJR (w:World):Key->Int
 | .inl k=>hashInt k
 | .inr x=>hashStr w x
theorem bS:∀ {k:Key} {v:Value},zHT k v=true->(∃ i t,k=Sum.inl i/\v=Value.int i t)∨(∃ x t,k=Sum.inr x/\v=Value.str x t)
 | .inl i,v,h=>by
  obtain ⟨t,e⟩:=Value.isInt_shape (k:=i) (v:=v) h
  exact .inl ⟨i,t,rfl,e⟩
 | .inr x,v,h=>by
  obtain ⟨t,e⟩:=Value.isStrOf_shape (x:=x) (v:=v) h
  exact .inr ⟨x,t,rfl,e⟩
theorem zHX (a b:Int):decide ((Sum.inl a:Key)=Sum.inl b)=(a==b):=by
 by_cases e:a=b
 ·subst e;simp
 ·have h:¬ (Sum.inl a:Key)=Sum.inl b:=fun q=>e (Sum.inl.inj q)
  rw [decide_eq_false h]
  exact (beq_eq_false_iff_ne.mpr e).symm
theorem zGy (a b:Str):decide ((Sum.inr a:Key)=Sum.inr b)=decide (a=b):=by
 by_cases e:a=b
 ·subst e;simp
 ·have h:¬ (Sum.inr a:Key)=Sum.inr b:=fun q=>e (Sum.inr.inj q)
  rw [decide_eq_false h,decide_eq_false e]
theorem zGz (a:Int) (b:Str):decide ((Sum.inl a:Key)=Sum.inr b)=false:=decide_eq_false (fun q=>nomatch q)
theorem zGv (a:Str) (b:Int):decide ((Sum.inr a:Key)=Sum.inl b)=false:=decide_eq_false (fun q=>nomatch q)
def zAL (prog:Program) (w:World):PySem.KeyKind prog w Key where
 is:=zHT
 hash:=zJR w
 inj:=fun v a b ha hb=>by
  rcases bS ha with ⟨i,t,rfl,rfl⟩ | ⟨x,t,rfl,rfl⟩
  ·rcases bS hb with ⟨j,u,rfl,e⟩ | ⟨y,u,rfl,e⟩
   ·injection e with e1 _;rw [e1]
   ·exact nomatch e
  ·rcases bS hb with ⟨j,u,rfl,e⟩ | ⟨y,u,rfl,e⟩
   ·exact nomatch e
   ·injection e with e1 _;rw [e1]
 byValue:=fun k v h=>by
  rcases bS h with ⟨i,t,rfl,rfl⟩ | ⟨x,t,rfl,rfl⟩<;>rfl
 pyHash:=fun hv h=>by
  rcases bS hv with ⟨i,t,rfl,rfl⟩ | ⟨x,t,rfl,rfl⟩
  ·exact wpAny_pyHash_int h
  ·exact wpAny_pyHash_str h
 eqBool:=fun hu hv h=>by
  rcases bS hu with ⟨i,t,rfl,rfl⟩ | ⟨x,t,rfl,rfl⟩
  ·rcases bS hv with ⟨j,u,rfl,rfl⟩ | ⟨y,u,rfl,rfl⟩
   ·rw [zHX] at h;exact wpAny_eqBool_int h
   ·rw [zGz] at h;exact SeqAt.EqAt.int_str i t y u _ _ _ _ h
  ·rcases bS hv with ⟨j,u,rfl,rfl⟩ | ⟨y,u,rfl,rfl⟩
   ·rw [zGv] at h;exact SeqAt.EqAt.str_int x t j u _ _ _ _ h
   ·rw [zGy] at h;exact wpAny_eqBool_str h
 «strs» := fun k x t v h=>by
  rcases bS h with ⟨i,u,rfl,e⟩ | ⟨y,u,rfl,e⟩
  ·exact nomatch e
  ·injection e with e1 _
   subst e1
   cases v<;>rfl
end L2
namespace L2
open PySem PySem.Spec PyProof.Rows
inductive V where
 | non | bl (b:Bool) | int (i:Int) | str (x:Str) | byt (b:Array UInt8) | flt (b:UInt64) | ref (a:Addr) | ty (n:String)
 deriving DecidableEq
def bU:V->Value->Prop
 | .non,u=>u=Value.none
 | .bl b,u=>u=Value.bool b
 | .int i,u=>∃ t,u=Value.int i t
 | .str x,u=>∃ t,u=Value.str x t
 | .byt b,u=>∃ t,u=Value.bytes b t
 | .flt b,u=>∃ t,u=Value.float b t
 | .ref a,u=>u=Value.ref a
 | .ty n,u=>u=Value.type n
abbrev cG:List V->List Value->Prop:=Paired bU
theorem cG.length {xs:List V} {us:List Value} (r:cG xs us):xs.length=us.length:=Paired.length r
theorem cG.get:∀ {xs:List V} {us:List Value} {i:Nat} {x:V},cG xs us->xs[i]?=some x->∃ u,us[i]?=some u/\bU x u
 | _,_,_,_,.nil,e=>by simp at e
 | _,_,0,_,.cons r _,e=>by simp at e;subst e;exact ⟨_,rfl,r⟩
 | _,_,i+1,x,.cons _ t,e=>by
  obtain ⟨u,h1,h2⟩:=cG.get (i:=i) (x:=x) t (by simpa using e)
  exact ⟨u,by simpa using h1,h2⟩
theorem cG.append:∀ {xs ys:List V} {us ws:List Value},cG xs us->cG ys ws->cG (xs++ys) (us++ws)
 | _,_,_,_,.nil,s=>s
 | _,_,_,_,.cons r t,s=>.cons r (cG.append t s)
theorem cG.take:∀ {xs:List V} {us:List Value} (n:Nat),cG xs us->cG (xs.take n) (us.take n)
 | _,_,0,_=>.nil
 | _,_,_+1,.nil=>.nil
 | _,_,n+1,.cons r t=>.cons r (cG.take n t)
theorem cG.drop:∀ {xs:List V} {us:List Value} (n:Nat),cG xs us->cG (xs.drop n) (us.drop n)
 | _,_,0,r=>r
 | _,_,_+1,.nil=>.nil
 | _,_,n+1,.cons _ t=>cG.drop n t
def zBU:Option V->Option Value->Prop
 | some v,some u=>bU v u
 | none,none=>True
 | _,_=>False
def KV {κ:Type}:List (κ×V)->List (κ×Value)->Prop:=Paired fun (p:κ×V) (q:κ×Value)=>p.1=q.1/\bU p.2 q.2
def kV:Key->V
 | .inl i=>.int i
 | .inr x=>.str x
inductive HO where
 | lst (xs:List V)
 | tup (xs:List V)
 | dK (kvs:List (Key×V)) | dT (kvs:List (List Key×V))
 | set (S:Int->Bool) (n:Nat)
 | ins (C dx:Addr) (fs:List (Str×V))
 | own (x:Addr)
 | xd (fs:List (Str×V))
 | met (f x:Addr)
 | rng (lo hi:Int)
 | frz (o:Obj) (u:HO)
 | tbl (ps:Array Value)
 | ext (φ:Heap->Prop)
abbrev Hp:=Addr->Option HO
def upd (H:Hp) (a:Addr) (o:HO):Hp:=fun b=>if b=a then some o else H b
theorem aI {H:Hp} {a:Addr} {o:HO}:upd H a o a=some o:=by unfold upd;rw [if_pos rfl]
theorem aJ {H:Hp} {a b:Addr} {o:HO} (h:b≠a):upd H a o b=H b:=by unfold upd;rw [if_neg h]
theorem zHq {H:Hp} {a b:Addr} {o u:HO} (h:H a=some o) (h':H b=some u) (d:o≠u):a≠b:=by
 intro e;subst e;rw [h] at h';exact d (Option.some.inj h')
theorem aM {H:Hp} {a b:Addr} {o:HO} (h:H a=some o) (h':H b=none):a≠b:=by
 intro e;subst e;rw [h] at h';cases h'
section
variable (P:Program) (w:World)
def fT (H:Hp) (h:Heap) (a:Addr):HO->Prop
 | .lst xs=>xs.length<=sizeLine/\∃ (its:List Value) (n:Nat),cG xs its/\h.get? a=some { cls:=.type "list", data:=.seq its.toArray n }
 | .tup xs=>xs.length<=sizeLine/\∃ its:List Value,cG xs its/\IsTup h a its.toArray
 | .dK kvs=>kvs.length<=sizeLine/\(a==sysModules)=false/\∃ vs,KV kvs vs/\h.DictOf (zAL P w) a vs
 | .dT kvs=>kvs.length<=sizeLine/\(a==sysModules)=false/\∃ xs:List (List Key×Addr×Value),
   Paired (fun (p:List Key×V) (q:List Key×Addr×Value)=>p.1=q.1/\H q.2.1=some (.tup (p.1.map kV))/\bU p.2 q.2.2) kvs xs/\
   ∃ o es ep,h.get? a=some o/\o.ExactDict/\o.data=.dict es ep/\es.toList=xs.map (entryOfKey (tupleKind (zAL P w)))/\(xs.map (·.1)).Nodup
 | .set S n=>h.SetOf (intKind P w) a S n
 | .ins C dx fs=>H dx=some (.own a)/\fs.length<=1000/\dx≠a/\h.get? a=some (PySem.W.instObj C dx)/\
   ∃ mA,h.Ns1 dx mA/\(∀ f,zBU (fs.lookup f) (mA f))/\PySem.Within mA (fs.map (·.1))
 | .own _=>∃ o,h.get? a=some o
 | .xd fs=>∃ mA,h.Ns1 a mA/\∀ f,zBU (fs.lookup f) (mA f)
 | .rng lo hi=>∃ t u v,h.get? a=some { cls:=.type "range", data:=.fields #[.int lo t,.int hi u,.int 1 v] }
 | .frz o u=>h.get? a=some o/\fT H h a u
 | .tbl ps=>h.get? a=some { cls:=.none,data:=.fields ps }
 | .met f x=>h.get? a=some (PySem.W.methodObj (.ref f) (.ref x))
 | .ext φ=>φ h/\(∃ o,h.get? a=some o)/\∀ h1 h2:Heap,φ h1->(∀ o,h1.get? a=some o->h2.get? a=some o)->φ h2
def HOk (H:Hp) (h:Heap):Prop:=∀ a o,H a=some o->fT P w H h a o
end
section
variable {P:Program} {w:World} {H H':Hp} {h h':Heap} {a:Addr} {o:HO}
theorem fT.lt (x:fT P w H h a o):a < h.objs.size:=by
 cases o with
 | lst xs=>obtain ⟨_,_,_,_,e⟩:=x;exact Heap.lt_size e
 | tup xs=>obtain ⟨_,_,_,p⟩:=x;exact p.lt
 | dK kvs=>obtain ⟨_,_,_,_,o,_,_,e,_⟩:=x;exact Heap.lt_size e
 | dT kvs=>obtain ⟨_,_,_,_,o,_,_,e,_⟩:=x;exact Heap.lt_size e
 | set S n=>obtain ⟨o,_,_,_,e,_⟩:=x;exact Heap.lt_size e
 | ins C dx fs=>obtain ⟨_,_,_,e,_⟩:=x;exact Heap.lt_size e
 | own y=>obtain ⟨_,e⟩:=x;exact Heap.lt_size e
 | xd fs=>obtain ⟨_,⟨_,_,_,e,_⟩,_⟩:=x;exact Heap.lt_size e
 | rng lo hi=>obtain ⟨_,_,_,e⟩:=x;exact Heap.lt_size e
 | frz ob u=>obtain ⟨e,_⟩:=x;exact Heap.lt_size e
 | tbl ps=>exact Heap.lt_size (show h.get? a=some _ from x)
 | met f y=>exact Heap.lt_size (show h.get? a=some _ from x)
 | ext φ=>obtain ⟨_,⟨_,e⟩,_⟩:=x;exact Heap.lt_size e
theorem Paired.mapP {α β:Type} {F G:α->β->Prop}:∀ {l₁:List α} {l₂:List β},Paired F l₁ l₂->(∀ a b,F a b->G a b)->Paired G l₁ l₂
 | _,_,.nil,_=>.nil
 | _,_,.cons r t,f=>.cons (f _ _ r) (Paired.mapP t f)
theorem fT.stay (x:fT P w H h a o) (k:∀ b u,(b=a∨H b=some (.own a))->h.get? b=some u->h'.get? b=some u)
  (ho:∀ b,H b=some (.own a)->H' b=some (.own a)) (ht:∀ b xs,H b=some (.tup xs)->H' b=some (.tup xs)):fT P w H' h' a o:=by
 induction o with
 | lst xs=>obtain ⟨z,its,n,r,e⟩:=x;exact ⟨z,its,n,r,k _ _ (.inl rfl) e⟩
 | tup xs=>obtain ⟨z,its,r,ob,e,c⟩:=x;exact ⟨z,its,r,ob,k _ _ (.inl rfl) e,c⟩
 | dK kvs=>obtain ⟨z,y,vs,r,ob,es,ep,e,c⟩:=x;exact ⟨z,y,vs,r,ob,es,ep,k _ _ (.inl rfl) e,c⟩
 | dT kvs=>
  obtain ⟨z,y,xs,r,ob,es,ep,e,c⟩:=x
  exact ⟨z,y,xs,Paired.mapP r fun p q z=>⟨z.1,ht _ _ z.2.1,z.2.2⟩,ob,es,ep,k _ _ (.inl rfl) e,c⟩
 | set S n=>obtain ⟨ob,es,ep,t,e,c⟩:=x;exact ⟨ob,es,ep,t,k _ _ (.inl rfl) e,c⟩
 | ins C dx fs=>
  obtain ⟨d,z,ne,e,mA,⟨od,es,ep,e2,c⟩,r⟩:=x
  exact ⟨ho _ d,z,ne,k _ _ (.inl rfl) e,mA,⟨od,es,ep,k _ _ (.inr d) e2,c⟩,r⟩
 | own y=>obtain ⟨ob,e⟩:=x;exact ⟨ob,k _ _ (.inl rfl) e⟩
 | xd fs=>obtain ⟨mA,⟨od,es,ep,e,c⟩,r⟩:=x;exact ⟨mA,⟨od,es,ep,k _ _ (.inl rfl) e,c⟩,r⟩
 | rng lo hi=>obtain ⟨t,u,v,e⟩:=x;exact ⟨t,u,v,k _ _ (.inl rfl) e⟩
 | frz ob u ih=>obtain ⟨e,q⟩:=x;exact ⟨k _ _ (.inl rfl) e,ih q⟩
 | tbl ps=>
  have e:h.get? a=some { cls:=.none,data:=.fields ps }:=x
  show h'.get? a=some { cls:=.none,data:=.fields ps }
  exact k a _ (.inl rfl) e
 | met f y=>
  have e:h.get? a=some (PySem.W.methodObj (.ref f) (.ref y)):=x
  show h'.get? a=some (PySem.W.methodObj (.ref f) (.ref y))
  exact k a _ (.inl rfl) e
 | ext φ=>obtain ⟨p,⟨o,e⟩,st⟩:=x;exact ⟨st _ _ p fun o q=>k _ _ (.inl rfl) q,⟨o,k _ _ (.inl rfl) e⟩,st⟩
theorem HOk.lt (x:HOk P w H h) (e:H a=some o):a < h.objs.size:=(x a o e).lt
theorem HOk.fresh (x:HOk P w H h) (e:h.objs.size<=a):H a=none:=by
 cases q:H a with
 | none=>rfl
 | some u=>exact absurd (Nat.lt_of_lt_of_le (x.lt q) e) (Nat.lt_irrefl _)
theorem HOk.kept (x:HOk P w H h) (k:∀ b u,h.get? b=some u->h'.get? b=some u):HOk P w H h':=fun a o e=>
 (x a o e).stay (fun b u _ q=>k b u q) (fun _ q=>q) fun _ _ q=>q
theorem HOk.laid (x:HOk P w H h) (k:∀ b u,h.get? b=some u->h'.get? b=some u) (hp:h.objs.size<=a) (new:fT P w (upd H a o) h' a o):HOk P w (upd H a o) h':=fun b u e=>by
 have hn:=x.fresh hp
 by_cases hb:b=a
 ·subst hb;rw [aI] at e;cases e;exact new
 ·rw [aJ hb] at e
  exact (x b u e).stay (fun c v _ q=>k c v q) (fun c q=>by rw [aJ (aM q hn)];exact q) fun c xs q=>by rw [aJ (aM q hn)];exact q
end
def Rd (H:Hp) (a:Addr) (u:HO):Prop:=H a=some u∨∃ o,H a=some (.frz o u)
theorem Rd.ok {P:Program} {w:World} {H:Hp} {h:Heap} {a:Addr} {u:HO} (r:Rd H a u) (x:HOk P w H h):fT P w H h a u:=by
 rcases r with r | ⟨o,r⟩
 ·exact x a u r
 ·obtain ⟨_,q⟩:=x a _ r
  exact q
def Mut:Option HO->Prop
 | some (.lst _)=>True
 | some (.dK _)=>True
 | some (.dT _)=>True
 | some (.set _ _)=>True
 | some (.ins _ _ _)=>True
 | some (.ext _)=>True
 | _=>False
section
variable {P:Program} {w:World} {H:Hp} {h h':Heap} {x e:Addr} {o':HO}
theorem HOk.write (ok:HOk P w H h) (mu:Mut (H x)) (he:e=x∨H e=some (.own x)) (k:∀ b u,b≠e->h.get? b=some u->h'.get? b=some u) (heo:∃ u,h'.get? e=some u)
  (new:fT P w (upd H x o') h' x o'):HOk P w (upd H x o') h':=fun b u q=>by
 have nown:∀ c y,H c=some (.own y)->c≠x:=fun c y r z=>by subst z;rw [r] at mu;exact mu
 have ntup:∀ c xs,H c=some (.tup xs)->c≠x:=fun c xs r z=>by subst z;rw [r] at mu;exact mu
 by_cases hb:b=x
 ·subst hb;rw [aI] at q;cases q;exact new
 ·rw [aJ hb] at q
  by_cases hbe:b=e
  ·have q':H b=some (.own x):=by
    rcases he with z | z
    ·exact absurd (hbe.trans z) hb
    ·rw [hbe];exact z
   rw [q] at q';cases q'
   obtain ⟨v,hv⟩:=heo
   exact ⟨v,by rw [hbe];exact hv⟩
  ·refine (ok b u q).stay (fun c v hc r=>k c v ?_ r) (fun c r=>by rw [aJ (nown c b r)];exact r) fun c xs r=>by rw [aJ (ntup c xs r)];exact r
   rcases hc with rfl | hc
   ·exact hbe
   ·rintro rfl
    rcases he with z | z
    ·exact nown c b hc z
    ·rw [hc] at z;cases z;exact hb rfl
end
structure Un (fs ex:List Addr) (H H':Hp) (h h':Heap):Prop where
 keep:∀ b o,h.get? b=some o->H b=none->b∉fs->b∉ex->h'.get? b=some o
 slot:∀ b o,h.get? b=some o->H b=none->b∈fs->b∉ex->∃ sl,h'.get? b=some { o with slots:=sl }
 free:∀ b o,h.get? b=some o->H b=none->b∉ex->H' b=none
 there:∀ b o,h.get? b=some o->b∉ex->∃ o',h'.get? b=some o'
 tups:∀ b xs,H b=some (.tup xs)->H' b=some (.tup xs)
 frzs:∀ b o u,H b=some (.frz o u)->H' b=some (.frz o u)
 tbls:∀ b ps,H b=some (.tbl ps)->∃ more,H' b=some (.tbl (ps++more))
section
variable {fs fs' ex ex':List Addr} {H H1 H2:Hp} {h h1 h2 h':Heap} {a x e:Addr} {o:HO}
theorem Un.any (u:Un fs ex H H1 h h1) {b:Addr} {ob:Obj} (q:h.get? b=some ob) (n:H b=none) (hx:b∉ex):∃ sl,h1.get? b=some { ob with slots:=sl }:=by
 by_cases hb:b∈fs
 ·exact u.slot b ob q n hb hx
 ·exact ⟨ob.slots,u.keep b ob q n hb hx⟩
theorem Un.kept (k:∀ b u,h.get? b=some u->h'.get? b=some u):Un fs ex H H h h':=
 ⟨fun b ob q _ _ _=>k b ob q,fun b ob q _ _ _=>⟨ob.slots,k b ob q⟩,fun _ _ _ n _=>n,fun b ob q _=>⟨ob,k b ob q⟩,fun _ _ q=>q,fun _ _ _ q=>q,fun _ ps q=>⟨#[],by rw [q];simp⟩⟩
theorem Un.refl:Un fs ex H H h h:=Un.kept fun _ _ q=>q
theorem Un.laid (k:∀ b u,h.get? b=some u->h'.get? b=some u) (hp:h.objs.size<=a) (hn:H a=none):Un fs ex H (upd H a o) h h' where
 keep:=fun b u q _ _ _=>k b u q
 slot:=fun b u q _ _ _=>⟨u.slots,k b u q⟩
 free:=fun b u q n _=>by rw [aJ (Nat.ne_of_lt (Nat.lt_of_lt_of_le (Heap.lt_size q) hp))];exact n
 there:=fun b u q _=>⟨u,k b u q⟩
 tups:=fun b xs q=>by rw [aJ (aM q hn)];exact q
 frzs:=fun b u xs q=>by rw [aJ (aM q hn)];exact q
 tbls:=fun b ps q=>⟨#[],by rw [aJ (aM q hn),q];simp⟩
theorem Un.write (mu:Mut (H x)) (he:e=x∨H e=some (.own x)) (k:∀ b u,b≠e->h.get? b=some u->h'.get? b=some u) (heo:∃ u,h'.get? e=some u):Un fs ex H (upd H x o) h h':=by
 have hx:∀ b,H b=none->b≠x:=fun b n z=>by subst z;rw [n] at mu;exact mu
 have hb:∀ b,H b=none->b≠e:=fun b n z=>by
  subst z
  rcases he with r | r
  ·exact hx b n r
  ·rw [n] at r;cases r
 have hm:∀ b u,H b=some u->¬ Mut (some u)->b≠x:=fun b u q nm z=>by subst z;rw [q] at mu;exact nm mu
 refine ⟨fun b u q n _ _=>k b u (hb b n) q,fun b u q n _ _=>⟨u.slots,k b u (hb b n) q⟩,fun b u q n _=>by rw [aJ (hx b n)];exact n,fun b u q _=>?_,
  fun b xs q=>by rw [aJ (hm b _ q fun z=>z)];exact q,fun b u xs q=>by rw [aJ (hm b _ q fun z=>z)];exact q,fun b ps q=>⟨#[],by rw [aJ (hm b _ q fun z=>z),q];simp⟩⟩
 by_cases hbe:b=e
 ·subst hbe;exact heo
 ·exact ⟨u,k b u hbe q⟩
end
def trk (h:Heap) (H:Hp):List Addr:=(List.range h.objs.size).filter fun a=>(H a).isSome
def zCa (h:Heap) (H:Hp):Heap:=PySem.W.hideAll h (trk h H)
theorem zBj (h:Heap) (H:Hp):(zCa h H).objs.size=h.objs.size:=PySem.W.hideAll_size _ _
theorem zCF {h:Heap} {H:Hp} {b:Addr} {o:Obj} (e:h.get? b=some o) (n:H b=none):(zCa h H).get? b=some o:=
 PySem.W.hideAll_get _ e fun hm=>by
  have q:(H b).isSome=true:=(List.mem_filter.mp hm).2
  rw [n] at q;simp at q
theorem zFr {h:Heap} {H:Hp} {b:Addr} {o:Obj} (e:(zCa h H).get? b=some o):h.get? b=some o/\H b=none:=by
 have e':h.get? b=some o:=PySem.W.of_hideAll (trk h H) e
 refine ⟨e',?_⟩
 cases q:H b with
 | none=>rfl
 | some x=>
  have hm:b∈trk h H:=List.mem_filter.mpr ⟨List.mem_range.mpr (Heap.lt_size e'),by simp [q]⟩
  have z:(zCa h H).get? b=none:=PySem.W.hideAll_none (trk h H) hm
  rw [z] at e;cases e
def zFq (g h:Heap) (L:Addr):List (Addr×Obj):=(List.range h.objs.size).filterMap fun a=>if a=L∨(g.get? a).isSome=true then none else (h.get? a).map fun o=>(a,o)
def rest (g h:Heap) (L d:Addr):List (Addr×Obj):=(zFq g h L).filter fun p=>decide (p.1≠d)
end L2
namespace L2
open PySem PySem.Spec PyProof.Rows
structure Mod (K:PySem.W.Frag) (mg:Str->Option Value) (base:Heap):Prop where
 kin:K.In base
 glob:base.Ns mainGlobals mg
 blt:∃ mb,base.Ns builtinsNs mb/\∀ x:Str,x ≠ "__name__" -> mb x=bootBuiltins x
 nolimit:base.NoLimit
structure Cx where
 prog:Program
 w:World
 K:PySem.W.Frag
 mg:Str->Option Value
 base:Heap
 A:Around
 N:List Str
 s₀:Shared
 H₀:Hp
 env:Env
 outer:List Env
 stack:List Env
 ex:List Addr
 fn:Str->Bool
 calm:Bool
 pn:List (Addr×Obj)
 xe:Value->Shared->Prop
def frs (l:List Env):List Addr:=l.filterMap (·.frame)
abbrev Cx.fs (X:Cx):List Addr:=frs X.outer
def Vis (sc:Scope) (x:Str):Prop:=sc.names.lookup x=some .local∨sc.names.lookup x=some .cell∨sc.names.lookup x=some .free
def Loc (sc:Scope) (x:Str):Prop:=sc.names.lookup x=some .local∨sc.names.lookup x=some .cell
def zKf (env:Env) (h:Heap) (m:Str->Option Value) (x:Str) (u:Value):Prop:=
 (env.kindOf x=some .local/\m x=some u)∨((env.kindOf x=some .cell∨env.kindOf x=some .free)/\∃ c,env.cells.lookup x=some c/\h.IsCell c (some u))
structure Cx.Ok (X:Cx):Prop where
 mod:Mod X.K X.mg X.base
 kind:X.env.scope.kind=.function
 glob:X.env.globals=mainGlobals
 blt:X.env.builtins=builtinsNs
 above:X.s₀.heap.objs.size<=X.env.locals
 inj:∀ x y c,X.env.cells.lookup x=some c->X.env.cells.lookup y=some c->x=y
 has:∀ x,(X.env.kindOf x=some .cell∨X.env.kindOf x=some .free)->∃ c,X.env.cells.lookup x=some c
 cab:∀ x c,X.fn x=true->X.env.cells.lookup x=some c->X.s₀.heap.objs.size<=c
 hd:X.calm=true->X.A.handled=none
 frames:X.A.frames=some X.stack
 stk:X.stack=X.outer∨(X.stack=X.env::X.outer/\X.env.frame=some X.env.locals)
 exf:∀ b∈X.ex,b≠X.env.locals/\∀ x c,X.env.cells.lookup x=some c->c≠b
 bs:∀ b o,X.base.get? b=some o->X.s₀.heap.get? b=some o/\X.H₀ b=none
 bsz:X.base.objs.size<=X.s₀.heap.objs.size
 noex:∀ b o,X.base.get? b=some o->b∉X.ex
 exfs:∀ b∈X.ex,b∉X.fs
 funs:X.s₀.heap.FunFrames X.base X.outer
 frf:∀ b∈X.fs,X.H₀ b=none
structure Inv (X:Cx) (pins:List (Addr×Obj)) (σ:List (Option V)) (H:Hp) (s:Shared):Prop where
 ok:X.Ok
 os:s.os=X.s₀.os
 bare:AllBare s.gens
 base:Un X.fs X.ex X.H₀ H X.s₀.heap s.heap
 loc:∃ m,s.heap.Ns X.env.locals m/\∀ (i:Nat) (x:Str) (v:V),X.N[i]?=some x->σ[i]?=some (some v)->Vis X.env.scope x->∃ u,bU v u/\zKf X.env s.heap m x u
 cell:∀ x c,X.env.cells.lookup x=some c->∃ v,s.heap.IsCell c v
 free:H X.env.locals=none
 freeC:∀ x c,X.env.cells.lookup x=some c->H c=none
 pin:∀ p∈X.pn++pins,s.heap.get? p.1=some p.2/\H p.1=none/\p.1≠X.env.locals/\p.1∉X.fs/\∀ v,p.2.data≠.cell v
 hok:HOk X.prog X.w H s.heap
 len:σ.length=X.N.length
section
variable {X:Cx} {pins:List (Addr×Obj)} {σ:List (Option V)} {H H':Hp} {s:Shared} {h':Heap}
theorem Cx.Ok.nofr (ok:X.Ok) {b:Addr} {o:Obj} (e:X.base.get? b=some o):b∉X.fs:=fun hb=>by
 have:=(ok.funs.mem hb).1
 rw [e] at this;cases this
theorem Inv.bs (I:Inv X pins σ H s):∀ b o,X.base.get? b=some o->s.heap.get? b=some o/\H b=none:=fun b o e=>
 ⟨I.base.keep b o (I.ok.bs b o e).1 (I.ok.bs b o e).2 (I.ok.nofr e) (I.ok.noex b o e),I.base.free b o (I.ok.bs b o e).1 (I.ok.bs b o e).2 (I.ok.noex b o e)⟩
theorem Inv.bk (I:Inv X pins σ H s):∀ b o,X.base.get? b=some o->s.heap.get? b=some o:=fun b o e=>(I.bs b o e).1
theorem Inv.mod (I:Inv X pins σ H s):Mod X.K X.mg X.base:=I.ok.mod
theorem Inv.kIn (I:Inv X pins σ H s):X.K.In s.heap:=I.ok.mod.kin.keeps I.bk
theorem Inv.lt (I:Inv X pins σ H s):X.env.locals < s.heap.objs.size:=let ⟨_,hn,_⟩:=I.loc;hn.lt
theorem Inv.sz (I:Inv X pins σ H s):X.s₀.heap.objs.size<=s.heap.objs.size:=Nat.le_trans I.ok.above (Nat.le_of_lt I.lt)
theorem Inv.nofs (I:Inv X pins σ H s) {a:Addr} (h:s.heap.objs.size<=a):a∉X.fs:=fun hb=>by
 obtain ⟨_,o,ho,_⟩:=I.ok.funs.mem hb
 exact absurd (Nat.lt_of_lt_of_le (Heap.lt_size ho) (Nat.le_trans I.sz h)) (Nat.lt_irrefl _)
theorem Inv.cne (I:Inv X pins σ H s):∀ x c,X.env.cells.lookup x=some c->c≠X.env.locals:=fun x c e z=>by
 obtain ⟨v,o,ho,hd⟩:=I.cell x c e
 obtain ⟨m,⟨o',es,ep,ho',hd',_⟩,_⟩:=I.loc
 rw [z,ho'] at ho;cases ho;rw [hd'] at hd;cases hd
theorem Inv.funs (I:Inv X pins σ H s):s.heap.FunFrames X.base X.outer:=by
 have all:∀ (l:List Env),(∀ b∈frs l,b∈X.fs)->X.s₀.heap.FunFrames X.base l->s.heap.FunFrames X.base l:=by
  intro l
  induction l with
  | nil=>intro _ _;trivial
  | cons env r ih=>
   intro hs hl
   obtain ⟨hk,⟨L,o,hf,hn,ho,hd⟩,hr⟩:=hl
   have hL:L∈X.fs:=hs L (by unfold frs;rw [List.filterMap_cons,hf];exact List.mem_cons_self)
   obtain ⟨sl,e⟩:=I.base.slot L o ho (I.ok.frf L hL) hL fun z=>I.ok.exfs L z hL
   exact ⟨hk,⟨L,_,hf,hn,e,hd⟩,ih (fun b hb=>hs b (by unfold frs;rw [List.filterMap_cons,hf];exact List.mem_cons_of_mem _ hb)) hr⟩
 exact all X.outer (fun _ hb=>hb) I.ok.funs
theorem Inv.stack (I:Inv X pins σ H s):s.heap.FunFrames X.base X.stack:=by
 rcases I.ok.stk with e | ⟨e,hf⟩
 ·rw [e];exact I.funs
 ·rw [e]
  obtain ⟨m,hn,_⟩:=I.loc
  refine .cons (by rw [I.ok.kind];decide) hf hn ?_ I.funs
  exact Heap.get?_none_of_le (Nat.le_trans I.ok.bsz I.ok.above)
theorem Inv.stkSub (I:Inv X pins σ H s):∀ b∈frs X.stack,b∈X.env.locals::X.fs:=fun b hb=>by
 rcases I.ok.stk with e | ⟨e,hf⟩
 ·rw [e] at hb;exact List.mem_cons_of_mem _ hb
 ·rw [e] at hb
  unfold frs at hb
  rw [List.filterMap_cons,hf] at hb
  exact hb
theorem Inv.stkFree (I:Inv X pins σ H s):∀ b∈frs X.stack,H b=none:=fun b hb=>by
 rcases List.mem_cons.mp (I.stkSub b hb) with e | hb
 ·rw [e];exact I.free
 ·obtain ⟨_,o,ho,_⟩:=I.ok.funs.mem hb
  exact I.base.free b o ho (I.ok.frf b hb) fun z=>I.ok.exfs b z hb
theorem Inv.step {g':Array GenState} {t':Nat} {d':Drawn} {ch:List Addr} (I:Inv X pins σ H s)
  (hch:∀ b∈ch,(b∈X.ex∨X.s₀.heap.objs.size<=b)/\b≠X.env.locals/\(∀ x c,X.env.cells.lookup x=some c->c≠b)/\∀ p∈X.pn++pins,p.1≠b)
  (keep:∀ b o,b≠X.env.locals->b∉X.fs->b∉ch->s.heap.get? b=some o->H b=none->h'.get? b=some o)
  (slot:∀ b o,b≠X.env.locals->b∈X.fs->b∉ch->s.heap.get? b=some o->H b=none->∃ sl,h'.get? b=some { o with slots:=sl }) (free:∀ b o,b∉ch->s.heap.get? b=some o->H b=none->H' b=none)
  (there:∀ b o,b∉ch->s.heap.get? b=some o->∃ o',h'.get? b=some o')
  (tups:∀ b xs,H b=some (.tup xs)->H' b=some (.tup xs)) (frzs:∀ b o u,H b=some (.frz o u)->H' b=some (.frz o u)) (tbls:∀ b ps,H b=some (.tbl ps)->∃ more,H' b=some (.tbl (ps++more)))
  (ns:∀ m,s.heap.Ns X.env.locals m->h'.Ns X.env.locals m) (hok:HOk X.prog X.w H' h') (hg:AllBare g'):
  Inv X pins σ H' { s with heap:=h',gens:=g',drawn:=d',toks:=t' }:=by
 have neL:∀ b o,X.s₀.heap.get? b=some o->b≠X.env.locals:=fun b o e=>Nat.ne_of_lt (Nat.lt_of_lt_of_le (Heap.lt_size e) I.ok.above)
 have neC:∀ b o,X.s₀.heap.get? b=some o->b∉X.ex->b∉ch:=fun b o e hx hb=>by
  rcases (hch b hb).1 with z | z
  ·exact hx z
  ·exact absurd (Nat.lt_of_lt_of_le (Heap.lt_size e) z) (Nat.lt_irrefl _)
 have cellK:∀ x c,X.env.cells.lookup x=some c->∀ v,s.heap.IsCell c v->h'.IsCell c v:=fun x c e v ⟨o,ho,hd⟩=>by
  have nch:c∉ch:=fun z=>(hch c z).2.2.1 x c e rfl
  by_cases hc:c∈X.fs
  ·obtain ⟨sl,q⟩:=slot c o (I.cne x c e) hc nch ho (I.freeC x c e)
   exact ⟨_,q,hd⟩
  ·exact ⟨o,keep c o (I.cne x c e) hc nch ho (I.freeC x c e),hd⟩
 refine ⟨I.ok,I.os,hg,⟨fun b o e n hb hx=>?_,fun b o e n hb hx=>?_,fun b o e n hx=>?_,fun b o e hx=>?_,fun b xs e=>tups b xs (I.base.tups b xs e),fun b o xs e=>frzs b o xs (I.base.frzs b o xs e),fun b ps e=>?_⟩,?_,fun x c e=>?_,?_,fun x c e=>?_,fun p hp=>?_,hok,I.len⟩
 ·exact keep b o (neL b o e) hb (neC b o e hx) (I.base.keep b o e n hb hx) (I.base.free b o e n hx)
 ·obtain ⟨sl,e1⟩:=I.base.slot b o e n hb hx
  obtain ⟨sl',e2⟩:=slot b _ (neL b o e) hb (neC b o e hx) e1 (I.base.free b o e n hx)
  exact ⟨sl',e2⟩
 ·obtain ⟨o',e1⟩:=I.base.there b o e hx
  exact free b o' (neC b o e hx) e1 (I.base.free b o e n hx)
 ·obtain ⟨o',e1⟩:=I.base.there b o e hx
  exact there b o' (neC b o e hx) e1
 ·obtain ⟨m1,e1⟩:=I.base.tbls b ps e
  obtain ⟨m2,e2⟩:=tbls b _ e1
  exact ⟨m1++m2,by rw [e2,Array.append_assoc]⟩
 ·obtain ⟨m,hn,hl⟩:=I.loc
  refine ⟨m,ns m hn,fun i x v e1 e2 e3=>?_⟩
  obtain ⟨u,r,l⟩:=hl i x v e1 e2 e3
  refine ⟨u,r,?_⟩
  rcases l with l | ⟨k,c,e,z⟩
  ·exact .inl l
  ·exact .inr ⟨k,c,e,cellK x c e _ z⟩
 ·obtain ⟨v,z⟩:=I.cell x c e
  exact ⟨v,cellK x c e v z⟩
 ·obtain ⟨m,⟨o,_,_,ho,_⟩,_⟩:=I.loc
  exact free _ o (fun z=>(hch _ z).2.1 rfl) ho I.free
 ·obtain ⟨v,o,ho,hd⟩:=I.cell x c e
  exact free c o (fun z=>(hch c z).2.2.1 x c e rfl) ho (I.freeC x c e)
 ·obtain ⟨e,n,ne,nf,d⟩:=I.pin p hp
  have nch:p.1∉ch:=fun z=>(hch p.1 z).2.2.2 p hp rfl
  exact ⟨keep p.1 p.2 ne nf nch e n,free p.1 p.2 nch e n,ne,nf,d⟩
theorem Inv.un {t':Nat} (I:Inv X pins σ H s) (u:Un X.fs [] H H' s.heap h') (hok:HOk X.prog X.w H' h'):Inv X pins σ H' { s with heap:=h',toks:=t' }:=by
 obtain ⟨m,⟨o,es,ep,ho,r⟩,_⟩:=id I.loc
 obtain ⟨sl,hL⟩:=u.any ho I.free (by simp)
 exact I.step (g':=s.gens) (d':=s.drawn) (ch:=[]) (fun _ z=>nomatch z) (fun b o _ hb _ e n=>u.keep b o e n hb (by simp)) (fun b o _ hb _ e n=>u.slot b o e n hb (by simp)) (fun b o _ e n=>u.free b o e n (by simp)) (fun b o _ e=>u.there b o e (by simp)) u.tups u.frzs u.tbls (fun m' hm=>by
  obtain ⟨o',es',ep',ho',r'⟩:=hm
  rw [ho] at ho';cases ho'
  exact ⟨_,es',ep',hL,r'⟩) hok I.bare
theorem Inv.call {g':Array GenState} {t':Nat} {d':Drawn} {ch:List Addr} (I:Inv X pins σ H s) (u:Un (frs X.stack) ch H H' s.heap h') (hok:HOk X.prog X.w H' h') (hg:AllBare g')
  (hch:∀ b∈ch,(b∈X.ex∨X.s₀.heap.objs.size<=b)/\b≠X.env.locals/\(∀ x c,X.env.cells.lookup x=some c->c≠b)/\∀ p∈X.pn++pins,p.1≠b):
  Inv X pins σ H' { s with heap:=h',gens:=g',drawn:=d',toks:=t' }:=by
 obtain ⟨m,⟨o,es,ep,ho,r⟩,_⟩:=id I.loc
 obtain ⟨sl,hL⟩:=u.any ho I.free fun z=>(hch _ z).2.1 rfl
 exact I.step (ch:=ch) hch (fun b o hL hb hc e n=>u.keep b o e n (fun z=>(List.mem_cons.mp (I.stkSub b z)).elim hL hb) hc) (fun b o _ _ hc e n=>u.any e n hc) (fun b o hc e n=>u.free b o e n hc) (fun b o hc e=>u.there b o e hc) u.tups u.frzs u.tbls (fun m' hm=>by
  obtain ⟨o',es',ep',ho',r'⟩:=hm
  rw [ho] at ho';cases ho'
  exact ⟨_,es',ep',hL,r'⟩) hok hg
theorem Inv.turned {t':Nat} {it:Addr} (I:Inv X pins σ H s) (k:∀ b o,b≠it->s.heap.get? b=some o->h'.get? b=some o) (hn:H it=none) (hL:it≠X.env.locals)
  (h1:it∈X.ex∨X.s₀.heap.objs.size<=it) (h2:∀ x c,X.env.cells.lookup x=some c->c≠it) (h3:∀ p∈X.pn++pins,p.1≠it):Inv X pins σ H { s with heap:=h',toks:=t' }:=by
 have nit:∀ b u,H b=some u->b≠it:=fun b u e z=>by rw [z,hn] at e;cases e
 refine I.step (g':=s.gens) (d':=s.drawn) (ch:=[it]) (fun b hb=>?_) (fun b o _ _ hc e _=>k b o (fun z=>hc (by simp [z])) e) (fun b o _ _ hc e _=>⟨o.slots,k b o (fun z=>hc (by simp [z])) e⟩) (fun _ _ _ _ n=>n)
  (fun b o hc e=>⟨o,k b o (fun z=>hc (by simp [z])) e⟩) (fun _ _ e=>e) (fun _ _ _ e=>e) (fun b ps e=>⟨#[],by rw [e];simp⟩) (fun m hm=>?_) (fun b u e=>?_) I.bare
 ·have e:b=it:=by simpa using hb
  subst e
  exact ⟨h1,hL,h2,h3⟩
 ·obtain ⟨o,es,ep,ho,r⟩:=hm
  exact ⟨o,es,ep,k _ o (Ne.symm hL) ho,r⟩
 ·refine (I.hok b u e).stay (fun c v hc q=>k c v ?_ q) (fun _ q=>q) fun _ _ q=>q
  rcases hc with z | z
  ·rw [z];exact nit b u e
  ·exact nit c _ z
theorem Inv.tok (I:Inv X pins σ H s) (t:Nat):Inv X pins σ H { s with toks:=t }:=I.un (h':=s.heap) (t':=t) Un.refl I.hok
theorem Inv.kept {t':Nat} (I:Inv X pins σ H s) (k:∀ b u,s.heap.get? b=some u->h'.get? b=some u):Inv X pins σ H { s with heap:=h',toks:=t' }:=I.un (Un.kept k) (I.hok.kept k)
theorem Inv.laid {a:Addr} {o:HO} {t':Nat} (I:Inv X pins σ H s) (k:∀ b u,s.heap.get? b=some u->h'.get? b=some u) (hp:s.heap.objs.size<=a) (new:fT X.prog X.w (upd H a o) h' a o):
  Inv X pins σ (upd H a o) { s with heap:=h',toks:=t' }:=I.un (Un.laid k hp (I.hok.fresh hp)) (I.hok.laid k hp new)
theorem Inv.write {x e:Addr} {o:HO} {t':Nat} (I:Inv X pins σ H s) (mu:Mut (H x)) (he:e=x∨H e=some (.own x)) (k:∀ b u,b≠e->s.heap.get? b=some u->h'.get? b=some u) (heo:∃ u,h'.get? e=some u)
  (new:fT X.prog X.w (upd H x o) h' x o):Inv X pins σ (upd H x o) { s with heap:=h',toks:=t' }:=I.un (Un.write mu he k heo) (I.hok.write mu he k heo new)
theorem Inv.pins_of {pins':List (Addr×Obj)} (I:Inv X pins σ H s) (h:∀ p∈pins',s.heap.get? p.1=some p.2/\H p.1=none/\p.1≠X.env.locals/\p.1∉X.fs/\∀ v,p.2.data≠.cell v):Inv X pins' σ H s:=
 ⟨I.ok,I.os,I.bare,I.base,I.loc,I.cell,I.free,I.freeC,fun p hp=>(List.mem_append.mp hp).elim (fun z=>I.pin p (List.mem_append_left _ z)) (h p),I.hok,I.len⟩
theorem pK {N:List Str} (hN:N.Nodup) {i j:Nat} {x:Str} (a:N[i]?=some x) (b:N[j]?=some x):i=j:=by
 obtain ⟨h1,e1⟩:=List.getElem?_eq_some_iff.mp a
 obtain ⟨h2,e2⟩:=List.getElem?_eq_some_iff.mp b
 exact (List.getElem_inj hN).mp (e1.trans e2.symm)
theorem tO {M:Model} {A:Around} {E:Value->Shared->Prop} {i:Nat} {x:Str} {v:V} {u:Value} {Q:Unit->Shared->Prop} (I:Inv X pins σ H s) (hN:X.N.Nodup) (hi:X.N[i]?=some x) (hx:Loc X.env.scope x) (r:bU v u)
  (h:∀ s',Inv X pins (σ.set i (some v)) H s'->(∃ a,Heap.SameBut a s.heap s'.heap/\(a=X.env.locals∨X.env.cells.lookup x=some a))->Q () s') (hf:X.fn x=true∨X.env.scope.names.lookup x=some .local:=by first | exact .inl rfl | exact .inr rfl | assumption):wpAny M A (storeName X.env x u) Q E s:=by
 obtain ⟨m,hn,hl⟩:=id I.loc
 have hcls:(X.env.scope.kind==.class || (X.env.scope.kind==.module && X.env.locals != X.env.globals))=false:=by rw [I.ok.kind];rfl
 have hiσ:i < σ.length:=by rw [I.len];exact (List.getElem?_eq_some_iff.mp hi).1
 have cne:=I.cne
 have tracked:∀ {a:Addr} {h':Heap},(∃ o,s.heap.get? a=some o/\H a=none)->Heap.SameBut a s.heap h'->HOk X.prog X.w H h':=fun {a h'} ha hs b ob e=>by
  obtain ⟨_,_,hfree⟩:=ha
  refine (I.hok b ob e).stay (fun c w' hc q=>(hs.2 c ?_).trans q) (fun _ q=>q) fun _ _ q=>q
  rintro rfl
  rcases hc with rfl | hc
  ·rw [hfree] at e;cases e
  ·rw [hfree] at hc;cases hc
 rcases hx with hk | hk
 ·refine wpAny_storeName_local hk hn (fun h' hn' hs=>?_) hcls
  obtain ⟨oL,_,_,hoL,_⟩:=id hn
  refine h _ ⟨I.ok,I.os,I.bare,⟨fun b o e n hb hx=>?_,fun b o e n hb hx=>?_,I.base.free,fun b o e hx=>?_,I.base.tups,I.base.frzs,I.base.tbls⟩,⟨_,hn',fun j y v' e1 e2 e3=>?_⟩,fun y c e=>?_,I.free,I.freeC,fun p hp=>?_,tracked ⟨oL,hoL,I.free⟩ hs,by simpa using I.len⟩ ⟨_,hs,.inl rfl⟩
  ·exact (hs.2 b (Nat.ne_of_lt (Nat.lt_of_lt_of_le (Heap.lt_size e) I.ok.above))).trans (I.base.keep b o e n hb hx)
  ·obtain ⟨sl,e1⟩:=I.base.slot b o e n hb hx
   exact ⟨sl,(hs.2 b (Nat.ne_of_lt (Nat.lt_of_lt_of_le (Heap.lt_size e) I.ok.above))).trans e1⟩
  ·obtain ⟨o',e1⟩:=I.base.there b o e hx
   exact ⟨o',(hs.2 b (Nat.ne_of_lt (Nat.lt_of_lt_of_le (Heap.lt_size e) I.ok.above))).trans e1⟩
  ·by_cases hj:j=i
   ·subst hj
    rw [hi] at e1;cases e1
    rw [List.getElem?_set_self hiσ] at e2
    cases e2
    exact ⟨u,r,.inl ⟨hk,by simp⟩⟩
   ·rw [List.getElem?_set_ne (Ne.symm hj)] at e2
    obtain ⟨u',r',q⟩:=hl j y v' e1 e2 e3
    refine ⟨u',r',?_⟩
    rcases q with ⟨k,e⟩ | ⟨k,c,e,z⟩
    ·refine .inl ⟨k,?_⟩
     have:y≠x:=fun e=>hj (pK hN e1 (e ▸ hi))
     simp [this,e]
    ·exact .inr ⟨k,c,e,z.sameBut hs (cne y c e)⟩
  ·obtain ⟨w',z⟩:=I.cell y c e
   exact ⟨w',z.sameBut hs (cne y c e)⟩
  ·obtain ⟨e,n,ne,nf,d⟩:=I.pin p hp
   exact ⟨(hs.2 p.1 ne).trans e,n,ne,nf,d⟩
 ·have hfn:X.fn x=true:=by
   rcases hf with z | z
   ·exact z
   ·rw [z] at hk;cases hk
  obtain ⟨c,hc⟩:=I.ok.has x (.inl hk)
  obtain ⟨w',z⟩:=I.cell x c hc
  refine wpAny_storeName_cell I.ok.kind hk hc z (fun h' hc' hs=>?_)
  obtain ⟨oc,hoc,hocd⟩:=id z
  refine h { s with heap:=h' } ⟨I.ok,I.os,I.bare,⟨fun b o e n hb hx=>?_,fun b o e n hb hx=>?_,I.base.free,fun b o e hx=>?_,I.base.tups,I.base.frzs,I.base.tbls⟩,⟨m,hn.sameBut hs (Ne.symm (cne x c hc)),fun j y v' e1 e2 e3=>?_⟩,fun y c' e=>?_,I.free,I.freeC,fun p hp=>?_,tracked ⟨oc,hoc,I.freeC x c hc⟩ hs,by simpa using I.len⟩ ⟨c,hs,.inr hc⟩
  ·exact (hs.2 b (Nat.ne_of_lt (Nat.lt_of_lt_of_le (Heap.lt_size e) (I.ok.cab x c hfn hc)))).trans (I.base.keep b o e n hb hx)
  ·obtain ⟨sl,e1⟩:=I.base.slot b o e n hb hx
   exact ⟨sl,(hs.2 b (Nat.ne_of_lt (Nat.lt_of_lt_of_le (Heap.lt_size e) (I.ok.cab x c hfn hc)))).trans e1⟩
  ·obtain ⟨o',e1⟩:=I.base.there b o e hx
   exact ⟨o',(hs.2 b (Nat.ne_of_lt (Nat.lt_of_lt_of_le (Heap.lt_size e) (I.ok.cab x c hfn hc)))).trans e1⟩
  ·by_cases hj:j=i
   ·subst hj
    rw [hi] at e1;cases e1
    rw [List.getElem?_set_self hiσ] at e2
    cases e2
    exact ⟨u,r,.inr ⟨.inl hk,c,hc,hc'⟩⟩
   ·rw [List.getElem?_set_ne (Ne.symm hj)] at e2
    obtain ⟨u',r',q⟩:=hl j y v' e1 e2 e3
    refine ⟨u',r',?_⟩
    rcases q with q | ⟨k,c',e,z'⟩
    ·exact .inl q
    ·refine .inr ⟨k,c',e,z'.sameBut hs ?_⟩
     rintro rfl
     exact hj (pK hN e1 (I.ok.inj _ _ _ e hc ▸ hi))
  ·by_cases hcc:c'=c
   ·subst hcc;exact ⟨_,hc'⟩
   ·obtain ⟨w2,z2⟩:=I.cell y c' e
    exact ⟨w2,z2.sameBut hs hcc⟩
  ·obtain ⟨e,n,ne,nf,d⟩:=I.pin p hp
   refine ⟨(hs.2 p.1 ?_).trans e,n,ne,nf,d⟩
   intro q
   rw [q,hoc] at e
   have q':oc=p.2:=Option.some.inj e
   exact d w' (by rw [<-q'];exact hocd)
theorem gK {M:Model} {A:Around} {E:Value->Shared->Prop} {i:Nat} {x:Str} {v:V} {u:Value} {Q:Unit->Shared->Prop} (I:Inv X pins σ H s) (hN:X.N.Nodup) (hi:X.N[i]?=some x) (hx:Loc X.env.scope x) (r:bU v u)
  (h:∀ s',Inv X pins (σ.set i (some v)) H s'->Q () s') (hf:X.fn x=true∨X.env.scope.names.lookup x=some .local:=by first | exact .inl rfl | exact .inr rfl | assumption):wpAny M A (storeName X.env x u) Q E s:=
 tO I hN hi hx r (fun s' I' _=>h s' I') hf
theorem Inv.call' {s':Shared} {ch:List Addr} (I:Inv X pins σ H s) (ho:s'.os=s.os) (u:Un (frs X.stack) ch H H' s.heap s'.heap) (hok:HOk X.prog X.w H' s'.heap) (hg:AllBare s'.gens)
  (hch:∀ b∈ch,(b∈X.ex∨X.s₀.heap.objs.size<=b)/\b≠X.env.locals/\(∀ x c,X.env.cells.lookup x=some c->c≠b)/\∀ p∈X.pn++pins,p.1≠b):Inv X pins σ H' s':=by
 obtain ⟨h',g',d',t',o'⟩:=s'
 have e:o'=s.os:=ho
 subst e
 exact I.call (g':=g') (t':=t') (d':=d') u hok hg hch
end
abbrev XK:=Value->Option Addr->Hp->Prop
abbrev St:=List (Option V)
abbrev VK:=V->Hp->Prop
abbrev TE:=St->Hp->VK->Prop
abbrev TT:=St->Hp->(Bool->Hp->Prop)->Prop
abbrev TA:=St->Hp->(List V->Hp->Prop)->Prop
structure Ends where
 nx:St->Hp->Prop
 rt:VK
 bk:St->Hp->Prop:=fun _ _=>False
 ct:St->Hp->Prop:=fun _ _=>False
abbrev TS:=Ends->St->Hp->Prop
def EP (X:Cx) (pins:List (Addr×Obj)) (σ:St) (Q:VK) (u:Value) (s':Shared):Prop:=∃ v H',Inv X pins σ H' s'/\bU v u/\Q v H'
def TP (X:Cx) (pins:List (Addr×Obj)) (σ:St) (Q:Bool->Hp->Prop) (b:Bool) (s':Shared):Prop:=∃ H',Inv X pins σ H' s'/\Q b H'
def AP (X:Cx) (pins:List (Addr×Obj)) (σ:St) (Q:List V->Hp->Prop) (us:List Value) (s':Shared):Prop:=∃ vs H',Inv X pins σ H' s'/\cG vs us/\Q vs H'
def SP (X:Cx) (pins:List (Addr×Obj)) (D:Ends) (f:Flow) (s':Shared):Prop:=
 match f with
 | .next=>∃ σ' H',Inv X pins σ' H' s'/\D.nx σ' H'
 | .brk=>∃ σ' H',Inv X pins σ' H' s'/\D.bk σ' H'
 | .cont=>∃ σ' H',Inv X pins σ' H' s'/\D.ct σ' H'
 | .ret u=>∃ v σ' H',Inv X pins σ' H' s'/\bU v u/\D.rt v H'
def PE (X:Cx) (e:Expr) (t:TE):Prop:=
 ∀ (pins:List (Addr×Obj)) (s:Shared) (σ:St) (H:Hp) (Q:VK),Inv X pins σ H s->t σ H Q->wpAny (model X.prog X.w) X.A (eval e X.env) (EP X pins σ Q) X.xe s
def PT (X:Cx) (e:Expr) (t:TT):Prop:=
 ∀ (pins:List (Addr×Obj)) (s:Shared) (σ:St) (H:Hp) (Q:Bool->Hp->Prop),Inv X pins σ H s->t σ H Q->wpAny (model X.prog X.w) X.A (isTrue e X.env (eval e X.env)) (TP X pins σ Q) X.xe s
def PW (X:Cx) (e:Expr) (t:TT):Prop:=
 ∀ (whole:Sem Value) (pins:List (Addr×Obj)) (s:Shared) (σ:St) (H:Hp) (Q:Bool->Hp->Prop),Inv X pins σ H s->t σ H Q->wpAny (model X.prog X.w) X.A (isTrue e X.env whole) (TP X pins σ Q) X.xe s
theorem PW.pt {X:Cx} {e:Expr} {t:TT} (h:PW X e t):PT X e t:=h _
def PA (X:Cx) (es:List Expr) (t:TA):Prop:=
 ∀ (pos:Pos) (pins:List (Addr×Obj)) (s:Shared) (σ:St) (H:Hp) (Q:List V->Hp->Prop),Inv X pins σ H s->t σ H Q->wpAny (model X.prog X.w) X.A (spliced (backTo pos (starEach es X.env))) (AP X pins σ Q) X.xe s
def PS (X:Cx) (st:Stmt) (t:TS):Prop:=
 ∀ (pins:List (Addr×Obj)) (s:Shared) (σ:St) (H:Hp) (D:Ends),Inv X pins σ H s->t D σ H->wpAny (model X.prog X.w) X.A (exec st X.env) (SP X pins D) X.xe s
def PSs (X:Cx) (st:List Stmt) (t:TS):Prop:=
 ∀ (pins:List (Addr×Obj)) (s:Shared) (σ:St) (H:Hp) (D:Ends),Inv X pins σ H s->t D σ H->wpAny (model X.prog X.w) X.A (execs st X.env) (SP X pins D) X.xe s
theorem thn {α:Type} {t:Sem α} {Q Q':α->Shared->Prop} {M:Model} {A:Around} {E:Value->Shared->Prop} {s:Shared} (h:wpAny M A t Q E s) (hQ:∀ a s,Q a s->Q' a s):wpAny M A t Q' E s:=wpAny_mono h hQ fun _ _ x=>x
end L2
namespace L2
open PySem PySem.Spec PyProof.Rows
section
variable {X:Cx}
theorem bin {a b:Expr} {ta tb:TE} (ha:PE X a ta) (hb:PE X b tb) {pins:List (Addr×Obj)} {s:Shared} {σ:St} {H:Hp} {R:V->V->Hp->Prop} (I:Inv X pins σ H s) (h:ta σ H fun x H1=>tb σ H1 fun y H2=>R x y H2)
  {α:Type} {Q:α->Shared->Prop} {f:Value->Value->Sem α}
  (hf:∀ v u s2 x y H2,Inv X pins σ H2 s2->bU x v->bU y u->R x y H2->wpAny (model X.prog X.w) X.A (f v u) Q X.xe s2):
  wpAny (model X.prog X.w) X.A (eval a X.env) (fun v s₁=>wpAny (model X.prog X.w) X.A (eval b X.env) (fun u s₂=>wpAny (model X.prog X.w) X.A (f v u) Q X.xe s₂) X.xe s₁) X.xe s:=by
 refine thn (ha pins s σ H _ I h) fun v s1 ⟨x,H1,I1,r1,q1⟩=>?_
 refine thn (hb pins s1 σ H1 _ I1 q1) fun u s2 ⟨y,H2,I2,r2,q2⟩=>?_
 exact hf v u s2 x y H2 I2 r1 r2 q2
abbrev rZ (i:Nat):TE:=fun σ H Q=>∃ v,σ[i]?=some (some v)/\Q v H
abbrev tC (v:V):TE:=fun _ H Q=>Q v H
theorem lO {i:Nat} {x:Str} {pos:Pos} (hN:X.N[i]?=some x) (hv:Vis X.env.scope x) (hd:(x==("__debug__" : Str))=false:=by decide) (hcd:(x==("__classdict__" : Str))=false:=by decide):PE X (.Name x pos) (rZ i):=by
 intro pins s σ H Q I h
 obtain ⟨v,e,h⟩:=h
 obtain ⟨m,hn,hl⟩:=I.loc
 obtain ⟨u,r,l⟩:=hl i x v hN e hv
 have fin:EP X pins σ Q u s:=⟨v,H,I,r,h⟩
 rcases l with ⟨hk,hm⟩ | ⟨hk,c,hc,hcell⟩
 ·exact wpAny_Name (wpAny_loadName_local I.ok.kind hk hn hm fin) hd
 ·rcases hk with hk | hk
  ·exact wpAny_Name (wpAny_loadName_cell I.ok.kind hk hc hcell fin) hd
  ·exact wpAny_Name (wpAny_loadName_free I.ok.kind hk hc hcell fin hcd) hd
theorem zBM {i j pos}:PE X (.Constant (.int i) j pos) (tC (.int i)):=fun _ _ _ H _ I h=>wpAny_Constant_int ⟨.int i,H,I.tok _,⟨_,rfl⟩,h⟩
theorem mM {b j pos}:PE X (.Constant (.bool b) j pos) (tC (.bl b)):=fun _ _ _ H _ I h=>Constant_bool ⟨.bl b,H,I,rfl,h⟩
theorem zAA {j pos}:PE X (.Constant .none j pos) (tC .non):=fun _ _ _ H _ I h=>Constant_none ⟨.non,H,I,rfl,h⟩
theorem bP {x j pos}:PE X (.Constant (.str x) j pos) (tC (.str x)):=fun _ _ _ H _ I h=>Calls.Constant_str ⟨.str x,H,I.tok _,⟨_,rfl⟩,h⟩
def Gl (X:Cx) (x:Str):Prop:=X.env.kindOf x=some .globalImplicit
theorem kC {E:Value->Shared->Prop} {pins:List (Addr×Obj)} {s:Shared} {σ:St} {H:Hp} {x:Str} {u:Value} {pos:Pos} {Q:Value->Shared->Prop} (I:Inv X pins σ H s) (hg:Gl X x) (hm:X.mg x=some u) (h:Q u s)
  (hd:(x==("__debug__" : Str))=false:=by decide):wpAny (model X.prog X.w) X.A (eval (.Name x pos) X.env) Q E s:=
 Calls.Name_function_global I.ok.kind hg (Calls.loadGlobal_global (by rw [I.ok.glob];exact I.mod.glob.keeps I.bk) hm h) hd
theorem iT {E:Value->Shared->Prop} {pins:List (Addr×Obj)} {s:Shared} {σ:St} {H:Hp} {x:Str} {u:Value} {pos:Pos} {Q:Value->Shared->Prop} (I:Inv X pins σ H s) (hg:Gl X x) (hm:X.mg x=none) (hv:bootBuiltins x=some u) (h:Q u s)
  (hn:x ≠ "__name__" := by decide) (hd:(x==("__debug__" : Str))=false:=by decide):wpAny (model X.prog X.w) X.A (eval (.Name x pos) X.env) Q E s:=by
 obtain ⟨mb,h1,h2⟩:=I.mod.blt
 exact Calls.Name_function_global I.ok.kind hg (Calls.loadGlobal_builtin (by rw [I.ok.glob];exact I.mod.glob.keeps I.bk) hm (by rw [I.ok.blt];exact h1.keeps I.bk) ((h2 x hn).trans hv) h) hd
theorem vB {x:Str} {v:V} {u:Value} {pos:Pos} (hg:Gl X x) (hm:X.mg x=some u) (r:bU v u) (hd:(x==("__debug__" : Str))=false:=by decide):PE X (.Name x pos) (tC v):=
 fun _ _ _ H _ I h=>kC I hg hm ⟨v,H,I,r,h⟩ hd
theorem eU {x:Str} {v:V} {u:Value} {pos:Pos} (hg:Gl X x) (hm:X.mg x=none) (hv:bootBuiltins x=some u) (r:bU v u) (hn:x ≠ "__name__" := by decide) (hd:(x==("__debug__" : Str))=false:=by decide):PE X (.Name x pos) (tC v):=
 fun _ _ _ H _ I h=>iT I hg hm hv ⟨v,H,I,r,h⟩ hn hd
variable {a b:Expr} {ta tb:TE} {pos:Pos}
def PC (X:Cx) (op:CmpOp) (a b:Expr) (t:TE):Prop:=
 ∀ (pins:List (Addr×Obj)) (s:Shared) (σ:St) (H:Hp) (Q:VK),Inv X pins σ H s->t σ H Q->
  wpAny (model X.prog X.w) X.A (eval a X.env) (fun v s₁=>wpAny (model X.prog X.w) X.A (eval b X.env) (fun u s₂=>wpAny (model X.prog X.w) X.A (compareOp op v u) (EP X pins σ Q) X.xe s₂) X.xe s₁) X.xe s
theorem zCG (b:Expr) {op:CmpOp} (h:op≠.In) (h2:op≠.NotIn):behindInMarks op b=false:=by
 have e1:(op==CmpOp.In)=false:=by cases op<;>first | rfl | exact absurd rfl h
 have e2:(op==CmpOp.NotIn)=false:=by cases op<;>first | rfl | exact absurd rfl h2
 cases b<;>simp [behindInMarks,e1,e2]
abbrev tB (t:TE):TT:=fun σ H Q=>t σ H fun x H1=>∃ c,x=.bl c/\Q c H1
theorem zJv {op:CmpOp} {t:TE} (h:PC X op a b t) (h1:behindInMarks op b=false:=by first | exact zCG _ (by decide) (by decide) | rfl):PT X (.Compare a [op] [b] pos) (tB t):=by
 intro pins s σ H Q I hw
 refine wpAny_isTrue_Compare1 (thn (h pins s σ H _ I hw) fun v s1 h1=>thn h1 fun u s2 h2=>thn h2 fun c s3 ⟨x,H1,I1,r1,q1⟩=>?_) h1
 obtain ⟨d,rfl,q⟩:=q1
 cases r1
 exact wpAny_truthy_bool ⟨H1,I1,q⟩
theorem zHy {e:Expr} {t:TE} (h:PE X e t) (he:∀ whole,isTrue e X.env whole=(do let v <-whole;standAt e.pos;holding [v] (truthy v)):=by intro _;rfl):PT X e (tB t):=by
 intro pins s σ H Q I hw
 refine isTrue_plain (thn (h pins s σ H _ I hw) fun v s1 ⟨x,H1,I1,r1,q1⟩=>?_) (he _)
 obtain ⟨d,rfl,q⟩:=q1
 cases r1
 exact wpAny_truthy_bool ⟨H1,I1,q⟩
variable {tA tB':TT} {rest:List Expr}
abbrev zKc (t u:TT):TT:=fun σ H Q=>t σ H fun c H1=>if c=true then u σ H1 Q else Q false H1
abbrev tOr (t u:TT):TT:=fun σ H Q=>t σ H fun c H1=>if c=true then Q true H1 else u σ H1 Q
abbrev zJT (t:TT):TT:=fun σ H Q=>t σ H fun c H1=>Q (!c) H1
theorem zFb (ha:PT X a tA):PW X (.BoolOp .And [a] pos) tA:=by
 intro wh pins s σ H Q I h
 refine isTrue_and (thn (ha pins s σ H Q I h) fun c s1 e=>?_)
 cases c with
 | true=>exact isTrue_and_nil e
 | false=>exact e
theorem zFZ (ha:PT X a tA):PW X (.BoolOp .Or [a] pos) tA:=by
 intro wh pins s σ H Q I h
 refine isTrue_or (thn (ha pins s σ H Q I h) fun c s1 e=>?_)
 cases c with
 | false=>exact isTrue_or_nil e
 | true=>exact e
theorem zGE (ha:PT X a tA) (hb:PW X (.BoolOp .And (b::rest) pos) tB'):PW X (.BoolOp .And (a::b::rest) pos) (zKc tA tB'):=by
 intro wh pins s σ H Q I h
 refine isTrue_and (thn (ha pins s σ H _ I h) fun c s1 ⟨H1,I1,q1⟩=>?_)
 cases c with
 | true=>exact hb wh pins s1 σ H1 Q I1 q1
 | false=>exact ⟨H1,I1,q1⟩
theorem zJt (ha:PT X a tA) (hb:PW X (.BoolOp .Or (b::rest) pos) tB'):PW X (.BoolOp .Or (a::b::rest) pos) (tOr tA tB'):=by
 intro wh pins s σ H Q I h
 refine isTrue_or (thn (ha pins s σ H _ I h) fun c s1 ⟨H1,I1,q1⟩=>?_)
 cases c with
 | true=>exact ⟨H1,I1,q1⟩
 | false=>exact hb wh pins s1 σ H1 Q I1 q1
theorem zGO (ha:PT X a tA):PT X (.UnaryOp .Not a pos) (zJT tA):=by
 intro pins s σ H Q I h
 exact isTrue_not (ha pins s σ H (fun c H1=>Q (!c) H1) I h)
abbrev zJq (ta tb:TE):TE:=fun σ H Q=>ta σ H fun x H1=>∃ c,x=.bl c/\if c=true then tb σ H1 Q else Q (.bl false) H1
abbrev zJa (ta:TE):TE:=fun σ H Q=>ta σ H fun x H1=>∃ c,x=.bl c/\Q (.bl (!c)) H1
theorem zGe {op} {t:TE} (h:PE X a t):PE X (.BoolOp op [a] pos) t:=fun pins s σ H Q I hw=>BoolOp_one (h pins s σ H Q I hw)
theorem zGf (ha:PE X a ta) (hb:PE X (.BoolOp .And (b::rest) pos) tb):PE X (.BoolOp .And (a::b::rest) pos) (zJq ta tb):=by
 intro pins s σ H Q I h
 refine BoolOp_and (thn (ha pins s σ H _ I h) fun v s1 ⟨x,H1,I1,r1,q1⟩=>?_)
 obtain ⟨c,rfl,q1⟩:=q1
 cases r1
 refine wpAny_truthy_bool ?_
 cases c with
 | true=>exact hb pins s1 σ H1 Q I1 q1
 | false=>exact ⟨.bl false,H1,I1,rfl,q1⟩
theorem zGC (ha:PE X a ta):PE X (.UnaryOp .Not a pos) (zJa ta):=by
 intro pins s σ H Q I h
 refine UnaryOp_ (thn (ha pins s σ H _ I h) fun v s1 ⟨x,H1,I1,r1,q1⟩=>?_)
 obtain ⟨c,rfl,q1⟩:=q1
 cases r1
 exact not_of (wpAny_truthy_bool ⟨.bl (!c),H1,I1,rfl,q1⟩)
abbrev tIf (t:TT) (ta tb:TE):TE:=fun σ H Q=>t σ H fun c H1=>if c=true then ta σ H1 Q else tb σ H1 Q
theorem zCy {c:Expr} (hc:PT X c tA) (ha:PE X a ta) (hb:PE X b tb):PE X (.IfExp c a b pos) (tIf tA ta tb):=by
 intro pins s σ H Q I h
 refine wpAny_IfExp (thn (hc pins s σ H _ I h) fun d s1 ⟨H1,I1,q1⟩=>?_)
 cases d with
 | true=>exact ha pins s1 σ H1 Q I1 q1
 | false=>exact hb pins s1 σ H1 Q I1 q1
end
end L2
namespace L2
open PySem PySem.Spec PyProof.Rows
def SqL (K:PySem.W.Frag) (H:Hp) (a:Addr) (xs:List V):Prop:=
 Rd H a (.lst xs)∨
  ∃ (o:Obj) (its:Array Value) (n:Nat),K.lookup a=some o/\o.cls=.type "list" /\ o.dict=none/\o.data=.seq its n/\its.size<=sizeLine/\cG xs its.toList
def SqT (K:PySem.W.Frag) (H:Hp) (a:Addr) (xs:List V):Prop:=
 Rd H a (.tup xs)∨
  ∃ (o:Obj) (its:Array Value) (n:Nat),K.lookup a=some o/\o.cls=.type "tuple" /\ o.data=.seq its n/\its.size<=sizeLine/\cG xs its.toList
def zKj:Value->Option V
 | .none=>some .non
 | .bool b=>some (.bl b)
 | .int i _=>some (.int i)
 | .str x _=>some (.str x)
 | .bytes b _=>some (.byt b)
 | .float b _=>some (.flt b)
 | .ref a=>some (.ref a)
 | .type n=>some (.ty n)
 | _=>none
theorem bU.abs {x:V} {u:Value} (r:bU x u):zKj u=some x:=by
 cases x with
 | non=>cases r;rfl
 | bl _=>cases r;rfl
 | int _=>obtain ⟨t,rfl⟩:=r;rfl
 | str _=>obtain ⟨t,rfl⟩:=r;rfl
 | byt _=>obtain ⟨t,rfl⟩:=r;rfl
 | flt _=>obtain ⟨t,rfl⟩:=r;rfl
 | ref _=>cases r;rfl
 | ty _=>cases r;rfl
theorem bU.inj {x y:V} {u:Value} (r:bU x u) (q:bU y u):x=y:=Option.some.inj (r.abs.symm.trans q.abs)
theorem cG.inj:∀ {xs ys:List V} {us:List Value},cG xs us->cG ys us->xs=ys
 | _,_,_,.nil,.nil=>rfl
 | _,_,_,.cons r t,.cons r' t'=>by rw [r.inj r',cG.inj t t']
section
variable {X:Cx} {pins:List (Addr×Obj)} {σ:St} {H:Hp} {s:Shared} {a:Addr} {xs ys:List V}
theorem SqL.of {K:PySem.W.Frag} (h:H a=some (.lst xs)):SqL K H a xs:=.inl (.inl h)
theorem SqT.of {K:PySem.W.Frag} (h:H a=some (.tup xs)):SqT K H a xs:=.inl (.inl h)
theorem Inv.list (I:Inv X pins σ H s) (h:SqL X.K H a xs):∃ its:List Value,cG xs its/\PlainL s.heap a its.toArray/\xs.length<=sizeLine:=by
 rcases h with h | ⟨o,its,n,hk,hc,hd,hs,hz,r⟩
 ·obtain ⟨z,its,n,r,e⟩:=h.ok I.hok
  exact ⟨its,r,⟨_,n,e,rfl,rfl,rfl⟩,z⟩
 ·refine ⟨its.toList,r,⟨o,n,I.kIn a o hk,hc,hd,by simpa using hs⟩,?_⟩
  have e:=r.length
  simp only [Array.length_toList] at e
  omega
theorem Inv.tuple (I:Inv X pins σ H s) (h:SqT X.K H a xs):∃ its:List Value,cG xs its/\IsTup s.heap a its.toArray/\xs.length<=sizeLine:=by
 rcases h with h | ⟨o,its,n,hk,hc,hs,hz,r⟩
 ·obtain ⟨z,its,r,p⟩:=h.ok I.hok
  exact ⟨its,r,p,z⟩
 ·refine ⟨its.toList,r,⟨o,I.kIn a o hk,hc,n,by simpa using hs⟩,?_⟩
  have e:=r.length
  simp only [Array.length_toList] at e
  omega
theorem Inv.list_inj (I:Inv X pins σ H s) (h:SqL X.K H a xs) (h':SqL X.K H a ys):xs=ys:=by
 obtain ⟨its,r,⟨o,n,e,_,_,d⟩,_⟩:=I.list h
 obtain ⟨its',r',⟨o',n',e',_,_,d'⟩,_⟩:=I.list h'
 rw [e] at e';cases e'
 rw [d] at d'
 injection d' with d1 _
 have:its=its':=by simpa using congrArg Array.toList d1
 subst this
 exact r.inj r'
theorem Inv.tuple_inj (I:Inv X pins σ H s) (h:SqT X.K H a xs) (h':SqT X.K H a ys):xs=ys:=by
 obtain ⟨its,r,⟨o,e,_,n,d⟩,_⟩:=I.tuple h
 obtain ⟨its',r',⟨o',e',_,n',d'⟩,_⟩:=I.tuple h'
 rw [e] at e';cases e'
 rw [d] at d'
 injection d' with d1 _
 have:its=its':=by simpa using congrArg Array.toList d1
 subst this
 exact r.inj r'
end
abbrev Cx.wish (X:Cx) (E:Value->Shared->Prop):Cx:={ X with xe:=E }
abbrev Cx.nox (X:Cx):Cx:=X.wish fun _ _=>False
theorem Cx.Ok.wish {X:Cx} (ok:X.Ok) (E:Value->Shared->Prop):(X.wish E).Ok:=
 ⟨ok.mod,ok.kind,ok.glob,ok.blt,ok.above,ok.inj,ok.has,ok.cab,ok.hd,ok.frames,ok.stk,ok.exf,ok.bs,ok.bsz,ok.noex,ok.exfs,ok.funs,ok.frf⟩
theorem Cx.Ok.unwish {X:Cx} {E:Value->Shared->Prop} (ok:(X.wish E).Ok):X.Ok:=
 ⟨ok.mod,ok.kind,ok.glob,ok.blt,ok.above,ok.inj,ok.has,ok.cab,ok.hd,ok.frames,ok.stk,ok.exf,ok.bs,ok.bsz,ok.noex,ok.exfs,ok.funs,ok.frf⟩
section
variable {X:Cx} {pins:List (Addr×Obj)} {σ:St} {H:Hp} {s:Shared} {E:Value->Shared->Prop}
theorem Inv.wish (I:Inv X pins σ H s) (E:Value->Shared->Prop):Inv (X.wish E) pins σ H s:=⟨I.ok.wish E,I.os,I.bare,I.base,I.loc,I.cell,I.free,I.freeC,I.pin,I.hok,I.len⟩
theorem Inv.unwish (I:Inv (X.wish E) pins σ H s):Inv X pins σ H s:=⟨I.ok.unwish,I.os,I.bare,I.base,I.loc,I.cell,I.free,I.freeC,I.pin,I.hok,I.len⟩
end
section
variable {X:Cx} {st:Stmt} {rest:List Stmt} {t u:TS} {e:Expr} {te:TE} {pos:Pos}
abbrev zHi:TS:=fun D σ H=>D.nx σ H
abbrev zIz (t u:TS):TS:=fun D σ H=>t { D with nx:=u D } σ H
theorem yY:PSs X [] zHi:=fun _ _ σ H _ I h=>wpAny_execs_nil ⟨σ,H,I,h⟩
theorem gT (h1:PS X st t) (h2:PSs X rest u):PSs X (st::rest) (zIz t u):=by
 intro pins s σ H D I h
 refine wpAny_execs_cons (thn (h1 pins s σ H { D with nx:=u D } I h) fun f s1 q=>?_)
 cases f with
 | next=>
  obtain ⟨σ',H',I',q⟩:=q
  exact h2 pins s1 σ' H' D I' q
 | ret v=>exact q
 | brk=>exact q
 | cont=>exact q
theorem qY (h1:PS X st t):PSs X [st] t:=by
 intro pins s σ H D I h
 refine wpAny_execs_cons (thn (h1 pins s σ H D I h) fun f s1 q=>?_)
 cases f with
 | next=>exact wpAny_execs_nil q
 | ret v=>exact q
 | brk=>exact q
 | cont=>exact q
theorem Inv.quiet {pins:List (Addr×Obj)} {σ:St} {H:Hp} {s:Shared} (I:Inv X pins σ H s):interactive X.env=false:=by simp [interactive,I.ok.kind]
abbrev zIM (te:TE):TS:=fun D σ H=>te σ H fun _ H1=>D.nx σ H1
theorem pJ (he:PE X e te) (hs:swapsWith e none pos.line X.env=pure false:=by rfl):PS X (.Expr e pos) (zIM te):=by
 intro pins s σ H D I h
 exact wpAny_Expr_any (thn (he pins s σ H _ I h) fun v s1 ⟨x,H1,I1,r1,q1⟩=>⟨σ,H1,I1,q1⟩) I.quiet hs
abbrev zIT (te:TE):TS:=fun D σ H=>te σ H D.rt
theorem sW (he:PE X e te):PS X (.Return (some e) pos) (zIT te):=by
 intro pins s σ H D I h
 exact wpAny_Return_some (thn (he pins s σ H _ I h) fun v s1 ⟨x,H1,I1,r1,q1⟩=>⟨x,σ,H1,I1,r1,q1⟩)
abbrev zJN (c:TT) (t u:TS):TS:=fun D σ H=>c σ H fun b H1=>if b=true then t D σ H1 else u D σ H1
theorem zIX {c:Expr} {a b:List Stmt} {tc:TT} (hc:PT X c tc) (ha:PSs X a t) (hb:PSs X b u):PS X (.If c a b pos) (zJN tc t u):=by
 intro pins s σ H D I h
 refine wpAny_If (thn (hc pins s σ H _ I h) fun d s1 ⟨H1,I1,q1⟩=>?_)
 cases d with
 | true=>exact ha pins s1 σ H1 D I1 q1
 | false=>exact hb pins s1 σ H1 D I1 q1
end
abbrev TG:=V->St->Hp->(St->Hp->Prop)->Prop
abbrev TGs:=List V->St->Hp->(St->Hp->Prop)->Prop
def PG (X:Cx) (target:Expr) (t:TG):Prop:=
 ∀ (pins:List (Addr×Obj)) (s:Shared) (σ:St) (H:Hp) (v:V) (u:Value) (Q:St->Hp->Prop),Inv X pins σ H s->bU v u->t v σ H Q->
  wpAny (model X.prog X.w) X.A (assign target X.env u) (fun _ s'=>∃ σ' H',Inv X pins σ' H' s'/\Q σ' H') X.xe s
def PGs (X:Cx) (ts:List Expr) (t:TGs):Prop:=
 ∀ (pins:List (Addr×Obj)) (s:Shared) (σ:St) (H:Hp) (vs:List V) (us:List Value) (Q:St->Hp->Prop),Inv X pins σ H s->cG vs us->t vs σ H Q->
  wpAny (model X.prog X.w) X.A (assignInOrder ((assignEach ts X.env).map (·.2)) us) (fun _ s'=>∃ σ' H',Inv X pins σ' H' s'/\Q σ' H') X.xe s
section
variable {X:Cx} {pos:Pos}
abbrev gName (i:Nat):TG:=fun v σ H Q=>Q (σ.set i (some v)) H
theorem uJ {i:Nat} {x:Str} (hN:X.N.Nodup) (hi:X.N[i]?=some x) (hx:Loc X.env.scope x) (hf:X.fn x=true∨X.env.scope.names.lookup x=some .local:=by first | exact .inl rfl | exact .inr rfl | assumption):PG X (.Name x pos) (gName i):=by
 intro pins s σ H v u Q I r h
 exact wpAny_assign_Name (gK I hN hi hx r (fun s' I'=>⟨_,H,I',h⟩) hf)
def zBV:TGs:=fun vs σ H Q=>vs=[]/\Q σ H
def jA (t:TG) (u:TGs):TGs:=fun vs σ H Q=>∃ v r,vs=v::r/\t v σ H fun σ' H'=>u r σ' H' Q
theorem zAo:PGs X [] zBV:=by
 intro pins s σ H vs us Q I r h
 obtain ⟨e,h⟩:=h
 subst e
 cases r
 exact assignInOrder_nil ⟨σ,H,I,h⟩
theorem qX {e:Expr} {es:List Expr} {t:TG} {u:TGs} (h1:PG X e t) (h2:PGs X es u)
  (hs:(assignEach (e::es) X.env).map (·.2)=assign e X.env::(assignEach es X.env).map (·.2):=by rfl):PGs X (e::es) (jA t u):=by
 intro pins s σ H vs us Q I r h
 obtain ⟨v,vr,e1,h⟩:=h
 subst e1
 cases r with
 | cons r rr=>
  rw [hs]
  refine assignInOrder_cons (thn (h1 pins s σ H _ _ _ I r h) fun _ s1 ⟨σ1,H1,I1,q1⟩=>?_)
  exact h2 pins s1 σ1 H1 _ _ Q I1 rr q1
def zCb (K:PySem.W.Frag) (n:Nat) (t:TGs):TG:=fun v σ H Q=>∃ a xs,v=.ref a/\SqT K H a xs/\xs.length=n/\t xs σ H Q
theorem zDy {es:List Expr} {k:Nat} {t:TGs} {n:Nat} (hc:X.calm=true) (h:PGs X es t)
  (hn:(assignEach es X.env).length=n:=by rfl) (hst:(assignEach es X.env).findIdx? (·.1)=none:=by rfl):PG X (.Tuple es k pos) (zCb X.K n t):=by
 intro pins s σ H v u Q I r hw
 obtain ⟨a,xs,e1,hq,hl,hw⟩:=hw
 subst e1
 cases r
 obtain ⟨its,rv,ht,hz⟩:=I.tuple hq
 refine assign_Tuple_tuple (I.ok.hd hc) ht (by simp [hn,<-hl,rv.length]) hst fun h' hx=>?_
 have I1:Inv X pins σ H { s with heap:=h' }:=I.kept (t':=s.toks) fun b o e=>hx b o (Nat.ne_of_lt (Heap.lt_size e)) e
 exact h pins _ σ H xs _ Q I1 (by simpa using rv) hw
abbrev zJD (te:TE) (g:TG):TS:=fun D σ H=>te σ H fun x H1=>g x σ H1 D.nx
theorem zAk {i:Nat} {x:Str} {e:Expr} {te:TE} {pos':Pos} (hN:X.N.Nodup) (hi:X.N[i]?=some x) (hx:Loc X.env.scope x) (he:PE X e te) (hs:swapsWith e (some (.Name x pos')) pos.line X.env=pure false:=by rfl) (hf:X.fn x=true∨X.env.scope.names.lookup x=some .local:=by first | exact .inl rfl | exact .inr rfl | assumption):
  PS X (.Assign [.Name x pos'] e pos) (zJD te (gName i)):=by
 intro pins s σ H D I h
 refine wpAny_Assign_Name (thn (he pins s σ H _ I h) fun v s1 ⟨y,H1,I1,r1,q1⟩=>?_) hs
 exact gK I1 hN hi hx r1 (fun s2 I2=>⟨_,H1,I2,q1⟩) hf
end
section
variable {X:Cx} {pos:Pos}
end
structure It where
 go:Nat->Hp->Prop
 yld:Nat->Hp->V->Hp->Prop
 stop:Nat->Hp->Prop
def kP (X:Cx) (pins:List (Addr×Obj)) (H:Hp) (b:Addr):Prop:=
 H b=none/\b≠X.env.locals/\b∉X.fs/\(b∈X.ex∨X.s₀.heap.objs.size<=b)/\(∀ x c,X.env.cells.lookup x=some c->c≠b)/\∀ p∈X.pn++pins,p.1≠b
theorem Inv.fpOk {X:Cx} {pins:List (Addr×Obj)} {σ:St} {H H':Hp} {s:Shared} {b:Addr} (I:Inv X pins σ H s) (hb:s.heap.objs.size<=b) (hn:H' b=none):kP X pins H' b:=by
 refine ⟨hn,Nat.ne_of_gt (Nat.lt_of_lt_of_le I.lt hb),I.nofs hb,.inr (Nat.le_trans I.sz hb),fun x c e z=>?_,fun p hp z=>?_⟩
 ·obtain ⟨v,q⟩:=I.cell x c e
  exact absurd (Nat.lt_of_lt_of_le q.lt (by rw [z];exact hb)) (Nat.lt_irrefl _)
 ·exact absurd (Nat.lt_of_lt_of_le (Heap.lt_size (I.pin p hp).1) (by rw [z];exact hb)) (Nat.lt_irrefl _)
structure Turn (P:Program) (w:World) (K:PySem.W.Frag) (tg:Expr) (J:It) (fp:List Addr) (it:Addr) (tn:Nat->Heap->Prop):Prop where
 mem:it∈fp
 obj:∀ i h,tn i h->∀ b∈fp,∃ o,h.get? b=some o/\∀ v,o.data≠.cell v
 keep:∀ i h h',tn i h->(∀ b∈fp,∀ o,h.get? b=some o->h'.get? b=some o)->tn i h'
 item:∀ (X:Cx),X.prog=P->X.w=w->X.K=K->X.calm=true->∀ (i:Nat) (pins:List (Addr×Obj)) (s:Shared) (σ:St) (H:Hp) (E:Value->Shared->Prop),Inv X pins σ H s->(∀ b∈fp,kP X pins H b)->tn i s.heap->J.go i H->
  wpAny (model P w) X.A (pyNext (.ref it)) (fun r s1=>∃ u,r=some u/\
   wpAny (model P w) X.A (letOwnedTupleGo tg (.ref it) u) (fun _ s2=>∃ x H',Inv X pins σ H' s2/\bU x u/\J.yld i H x H'/\tn (i+1) s2.heap/\∀ b∈fp,H' b=none) E s1) E s
 done:∀ (X:Cx),X.prog=P->X.w=w->X.K=K->X.calm=true->∀ (i:Nat) (pins:List (Addr×Obj)) (s:Shared) (σ:St) (H:Hp) (E:Value->Shared->Prop),Inv X pins σ H s->(∀ b∈fp,kP X pins H b)->tn i s.heap->J.stop i H->
  wpAny (model P w) X.A (pyNext (.ref it)) (fun r s1=>r=none/\Inv X pins σ H s1) E s
 self:∀ (A:Around) (i:Nat) (s:Shared) (Q:Value->Shared->Prop) (E:Value->Shared->Prop),tn i s.heap->Q (.ref it) s->wpAny (model P w) A (pyIter (.ref it)) Q E s
abbrev TI:=St->Hp->(It->Hp->Prop)->Prop
def PIE (X:Cx) (pins:List (Addr×Obj)) (σ:St) (tg:Expr) (R:It->Hp->Prop) (itv:Value) (s2:Shared):Prop:=
 ∃ (it:Addr) (fp:List Addr) (tn:Nat->Heap->Prop) (J:It) (H':Hp),itv=.ref it/\Inv X pins σ H' s2/\Turn X.prog X.w X.K tg J fp it tn/\tn 0 s2.heap/\(∀ b∈fp,kP X pins H' b)/\R J H'
def PI (X:Cx) (tg iter:Expr) (wi:TI):Prop:=
 ∀ (pins:List (Addr×Obj)) (s:Shared) (σ:St) (H:Hp) (R:It->Hp->Prop),Inv X pins σ H s->wi σ H R->
  wpAny (model X.prog X.w) X.A (eval iter X.env) (fun v s1=>wpAny (model X.prog X.w) X.A (pyIter v) (PIE X pins σ tg R) X.xe s1) X.xe s
theorem zDf {M:Model} {A:Around} {E:Value->Shared->Prop} {s:Shared} {tg:Expr} {it:Addr} {u:Value} {o:Obj} {n:String} {vs:Array Value} {Q:Unit->Shared->Prop} (ho:s.heap.get? it=some o) (hc:o.cls=.type n) (hd:o.data=.fields vs)
    (hn:["enumerate", "zip", "dict_itemiterator", "dict_reverseitemiterator", "odict_iterator", "itertools.zip_longest", "itertools.pairwise"].contains n=false) (hQ:Q () s):wpAny M A (letOwnedTupleGo tg (.ref it) u) Q E s:=by
  unfold letOwnedTupleGo
  cases tg<;>first
    | exact wpAny_pure hQ
    | (cases u<;>first
        | exact wpAny_pure hQ
        | (refine wpAny_bind (wpAny_load ho ?_)
           rw [hc,hd]
           show wpAny M A (if (["enumerate", "zip", "dict_itemiterator", "dict_reverseitemiterator", "odict_iterator", "itertools.zip_longest", "itertools.pairwise"].contains n && vs[0]?==some (rawInt _))=true then _ else _) Q E s
           rw [if_neg (by intro h;rw [hn,Bool.false_and] at h;cases h)]
           exact wpAny_pure hQ))
def Itl (K:PySem.W.Frag) (a:Addr):It:=
 ⟨fun i H=>∃ xs x,SqL K H a xs/\xs[i]?=some x,fun i H x H'=>H'=H/\∀ xs,SqL K H a xs->xs[i]?=some x,fun i H=>∃ xs,SqL K H a xs/\xs.length<=i⟩
def Itt (K:PySem.W.Frag) (a:Addr):It:=
 ⟨fun i H=>∃ xs x,SqT K H a xs/\xs[i]?=some x,fun i H x H'=>H'=H/\∀ xs,SqT K H a xs->xs[i]?=some x,fun i H=>∃ xs,SqT K H a xs/\xs.length<=i⟩
def Itr (lo:Int) (n:Nat):It:=⟨fun i _=>i < n,fun i H x H'=>H'=H/\x=.int (lo+i),fun i _=>n<=i⟩
theorem zW {P:Program} {w:World} {K:PySem.W.Frag} {tg:Expr} (a it:Addr):Turn P w K tg (Itl K a) [it] it (fun i h=>h.IsListIter it a i) where
 mem:=by simp
 obj:=fun i h st b hb=>by
  have e:b=it:=by simpa using hb
  subst e
  obtain ⟨o,e,c,d⟩:=st
  exact ⟨o,e,fun v z=>by rw [d] at z;cases z⟩
 keep:=fun i h h' st k=>st.at fun o e=>k it (by simp) o e
 item:=by
  intro X hP hw hK hc i pins s σ H E I hf st hg
  subst hP hw hK
  obtain ⟨xs,x,hq,hx⟩:=hg
  obtain ⟨its,rv,p,hz⟩:=I.list hq
  obtain ⟨u,hu,ru⟩:=rv.get hx
  obtain ⟨f0,f1,f2,f3,f4,f5⟩:=hf it (by simp)
  refine wpAny_pyNext_list_item st p.isList (x:=u) (by simpa using hu) fun h' st' sb=>?_
  have I1:Inv X pins σ H { s with heap:=h' }:=I.turned (t':=s.toks) (fun b o hb e=>(sb.2 b hb).trans e) f0 f1 f3 f4 f5
  obtain ⟨o,e,c,d⟩:=id st'
  exact ⟨u,rfl,zDf (s:={ s with heap:=h' }) e c d (by decide) ⟨x,H,I1,ru,⟨rfl,fun ys hy=>by rw [I.list_inj hy hq];exact hx⟩,st',fun b hb=>(hf b hb).1⟩⟩
 done:=by
  intro X hP hw hK hc i pins s σ H E I hf st hg
  subst hP hw hK
  obtain ⟨xs,hq,hx⟩:=hg
  obtain ⟨its,rv,p,hz⟩:=I.list hq
  obtain ⟨f0,f1,f2,f3,f4,f5⟩:=hf it (by simp)
  have hl:=rv.length
  exact wpAny_pyNext_list_end (I.ok.hd hc) st p.isList (by simp;omega) fun h' eb=>⟨rfl,I.turned (t':=s.toks) (fun b o hb e=>eb b o hb e) f0 f1 f3 f4 f5⟩
 self:=fun _ _ _ _ _ st h=>wpAny_pyIter_listiter st h
theorem wZ {P:Program} {w:World} {K:PySem.W.Frag} {tg:Expr} (a it:Addr):Turn P w K tg (Itt K a) [it] it (fun i h=>h.IsTupleIter it a i) where
 mem:=by simp
 obj:=fun i h st b hb=>by
  have e:b=it:=by simpa using hb
  subst e
  obtain ⟨o,e,c,d⟩:=st
  exact ⟨o,e,fun v z=>by rw [d] at z;cases z⟩
 keep:=fun i h h' st k=>st.at fun o e=>k it (by simp) o e
 item:=by
  intro X hP hw hK hc i pins s σ H E I hf st hg
  subst hP hw hK
  obtain ⟨xs,x,hq,hx⟩:=hg
  obtain ⟨its,rv,p,hz⟩:=I.tuple hq
  obtain ⟨u,hu,ru⟩:=rv.get hx
  obtain ⟨f0,f1,f2,f3,f4,f5⟩:=hf it (by simp)
  refine wpAny_pyNext_tuple_item st (show s.heap.IsTuple a its.toArray from p) (x:=u) (by simpa using hu) fun h' st' sb=>?_
  have I1:Inv X pins σ H { s with heap:=h' }:=I.turned (t':=s.toks) (fun b o hb e=>(sb.2 b hb).trans e) f0 f1 f3 f4 f5
  obtain ⟨o,e,c,d⟩:=id st'
  exact ⟨u,rfl,zDf (s:={ s with heap:=h' }) e c d (by decide) ⟨x,H,I1,ru,⟨rfl,fun ys hy=>by rw [I.tuple_inj hy hq];exact hx⟩,st',fun b hb=>(hf b hb).1⟩⟩
 done:=by
  intro X hP hw hK hc i pins s σ H E I hf st hg
  subst hP hw hK
  obtain ⟨xs,hq,hx⟩:=hg
  obtain ⟨its,rv,p,hz⟩:=I.tuple hq
  obtain ⟨f0,f1,f2,f3,f4,f5⟩:=hf it (by simp)
  have hl:=rv.length
  exact wpAny_pyNext_tuple_end (I.ok.hd hc) st (show s.heap.IsTuple a its.toArray from p) (by simp;omega) fun h' eb=>⟨rfl,I.turned (t':=s.toks) (fun b o hb e=>eb b o hb e) f0 f1 f3 f4 f5⟩
 self:=fun _ _ _ _ _ st h=>wpAny_pyIter_tupleiter st h
theorem xB {P:Program} {w:World} {K:PySem.W.Frag} {tg:Expr} (it:Addr) (lo:Int) (n:Nat):Turn P w K tg (Itr lo n) [it] it (fun i h=>IsRangeIter h it (lo+(i:Nat) * 1) ((n:Int) - (i:Nat)) 1) where
 mem:=by simp
 obj:=fun i h st b hb=>by
  have e:b=it:=by simpa using hb
  subst e
  exact ⟨_,st,fun v z=>by
   have z':Data.fields _=Data.cell v:=z
   cases z'⟩
 keep:=fun i h h' st k=>k it (by simp) _ st
 item:=by
  intro X hP hw hK hc i pins s σ H E I hf st hg
  subst hP hw hK
  obtain ⟨f0,f1,f2,f3,f4,f5⟩:=hf it (by simp)
  have W:=Walks.range (prog:=X.prog) (w:=X.w) (I.ok.hd hc) it lo 1 n
  refine W.item i s _ _ hg st fun v h' tk hv st' kk=>?_
  obtain ⟨t,rfl⟩:=hv
  have I1:Inv X pins σ H { s with heap:=h',toks:=tk }:=I.turned (fun b o hb e=>kk b o (by simpa using hb) e) f0 f1 f3 f4 f5
  refine ⟨_,rfl,zDf (s:={ s with heap:=h',toks:=tk }) (n := "range_iterator") st' rfl rfl (by decide) ⟨.int (lo+i),H,I1,⟨t,?_⟩,⟨rfl,rfl⟩,st',fun b hb=>(hf b hb).1⟩⟩
  rw [Int.mul_one]
 done:=by
  intro X hP hw hK hc i pins s σ H E I hf st hg
  subst hP hw hK
  obtain ⟨f0,f1,f2,f3,f4,f5⟩:=hf it (by simp)
  exact wpAny_pyNext_range_end (I.ok.hd hc) st (by have:n<=i:=hg;omega) fun h' eb=>⟨rfl,I.turned (t':=s.toks) (fun b o hb e=>eb b o hb e) f0 f1 f3 f4 f5⟩
 self:=fun _ _ _ _ _ st h=>wpAny_pyIter_rangeiter st h
end L2
namespace L2
open PySem PySem.Spec PyProof.Rows
section
variable {X:Cx} {tg:Expr}
theorem zDc {pins:List (Addr×Obj)} {σ:St} {H:Hp} {s:Shared} {R:It->Hp->Prop} {E:Value->Shared->Prop} {lo hi:Int} {t u v:Tok} {tk:Nat} (I:Inv X pins σ H s) (h1:-(2^62)<=lo) (h2:lo < 2^62) (h3:-(2^62)<=hi) (h4:hi < 2^62)
  (q:R (Itr lo (hi - lo).toNat) H):wpAny (model X.prog X.w) X.A (pyIter (.ref s.heap.objs.size)) (PIE X pins σ tg R) E { s with heap:=s.heap.push { cls:=.type "range", data:=.fields #[.int lo t,.int hi u,.int 1 v] },toks:=tk }:=by
 refine wpAny_pyIter_range (IsRange.new ..) (small_one h1 h2 h3 h4) ?_
 have I1:Inv X pins σ H { s with heap:=s.heap.push { cls:=.type "range", data:=.fields #[.int lo t,.int hi u,.int 1 v] },toks:=tk }:=I.kept fun b o e=>Heap.get?_push_of_some _ e
 refine ⟨(s.heap.push { cls:=.type "range", data:=.fields #[.int lo t,.int hi u,.int 1 v] }).objs.size,[(s.heap.push { cls:=.type "range", data:=.fields #[.int lo t,.int hi u,.int 1 v] }).objs.size],_,_,H,rfl,
  I1.kept (t':=tk) fun b o e=>Heap.get?_push_of_some _ e,xB _ lo (hi - lo).toNat,?_,fun b hb=>?_,q⟩
 ·have e1:lo+((0:Nat):Int) * 1=lo:=by simp
  have e2:(((hi - lo).toNat:Nat):Int) - ((0:Nat):Int)=Builtin.Range.rangeSize lo hi 1:=by rw [rangeSize_one];split<;>omega
  show IsRangeIter _ _ (lo+((0:Nat):Int) * 1) ((((hi - lo).toNat:Nat):Int) - ((0:Nat):Int)) 1
  rw [e1,e2]
  exact Heap.get?_push_size _ rfl
 ·have e:b=(s.heap.push { cls:=.type "range", data:=.fields #[.int lo t,.int hi u,.int 1 v] }).objs.size:=by simpa using hb
  subst e
  exact I1.fpOk (Nat.le_refl _) (I1.hok.fresh (Nat.le_refl _))
abbrev sY (ta:TA):TI:=fun σ H R=>ta σ H fun vs H1=>∃ j:Int,vs=[.int j]/\-(2^62)<=j/\j < 2^62/\R (Itr 0 j.toNat) H1
theorem zBc {a:Expr} {ta:TA} {p pos:Pos} (hg:Gl X "range") (hm:X.mg "range" = none) (ha:PA X [a] ta) (hs:starEach [a] X.env=[(false,eval a X.env)]:=by rfl):PI X tg (.Call (.Name "range" p) [a] [] pos) (sY ta):=by
 intro pins s σ H R I h
 refine Call_ (iT I hg hm boot_range (PyProof.Rows.callWith_type1 (thn (ha pos pins s σ H _ I h) fun us s1 ⟨vs,H1,I1,r1,q1⟩=>?_) hs rfl))
 obtain ⟨j,e,q1,q2,q⟩:=q1
 subst e
 cases r1 with
 | cons r rr=>
  cases rr
  obtain ⟨t,rfl⟩:=r
  exact call_range_1 (zDc I1 (by omega) (by omega) q1 q2 (by simpa using q))
abbrev zJL (wi:TI) (g:TG) (tb:TS):TS:=fun D σ H=>wi σ H fun J H1=>∃ W:Nat->Nat->St->Hp->Prop,(∃ m,W 0 m σ H1)/\∀ i m σ H,W i m σ H->
 (J.stop i H/\D.nx σ H)∨(J.go i H/\∃ N:St->Hp->Prop,(∀ σ' H',N σ' H'->∃ m',m' < m/\W (i+1) m' σ' H')/\∀ x H',J.yld i H x H'->g x σ H' fun σ2 H2=>tb { D with nx:=N,ct:=N,bk:=D.nx } σ2 H2)
def mP (fp:List Addr) (h:Heap):List (Addr×Obj):=fp.filterMap fun b=>(h.get? b).map fun o=>(b,o)
theorem cM {fp:List Addr} {h:Heap} {b:Addr} {o:Obj} (hb:b∈fp) (e:h.get? b=some o):(b,o)∈mP fp h:=List.mem_filterMap.mpr ⟨b,hb,by rw [e];rfl⟩
theorem zB {fp:List Addr} {h:Heap} {p:Addr×Obj} (hp:p∈mP fp h):p.1∈fp/\h.get? p.1=some p.2:=by
 obtain ⟨b,hb,e⟩:=List.mem_filterMap.mp hp
 cases q:h.get? b with
 | none=>rw [q] at e;cases e
 | some o=>
  rw [q] at e
  have e':(b,o)=p:=Option.some.inj e
  subst e'
  exact ⟨hb,q⟩
theorem Inv.pinned {pins:List (Addr×Obj)} {σ:St} {H:Hp} {s:Shared} {fp:List Addr} (I:Inv X pins σ H s) (hf:∀ b∈fp,kP X pins H b) (ho:∀ b∈fp,∃ o,s.heap.get? b=some o/\∀ v,o.data≠.cell v):Inv X (pins++mP fp s.heap) σ H s:=
 I.pins_of fun p hp=>(List.mem_append.mp hp).elim (fun z=>I.pin p (List.mem_append_right _ z)) fun z=>by
  obtain ⟨hb,e⟩:=zB z
  obtain ⟨f0,f1,f2,_⟩:=hf p.1 hb
  obtain ⟨o,e',d⟩:=ho p.1 hb
  rw [e] at e';cases e'
  exact ⟨e,f0,f1,f2,d⟩
theorem Inv.unpinned {pins pl:List (Addr×Obj)} {σ:St} {H:Hp} {s:Shared} (I:Inv X (pins++pl) σ H s):Inv X pins σ H s:=I.pins_of fun p hp=>I.pin p (List.mem_append_right _ (List.mem_append_left _ hp))
theorem zGZ {iter:Expr} {body:List Stmt} {wi:TI} {g:TG} {tb:TS} {pos:Pos} (hp:PassesOwn (model X.prog X.w) X.A X.env X.xe) (hc:X.calm=true) (hi:PI X tg iter wi) (hg:PG X tg g) (hb:PSs X body tb)
  (hs:∀ x,foldedSetIterable iter X.env x=pure x:=by intro _;rfl):PS X (.For tg iter body [] pos) (zJL wi g tb):=by
 intro pins s σ H D I h
 refine wpAny_For (thn (hi pins s σ H _ I h) fun v s1 h1=>thn h1 fun itv s2 h2=>?_) hs
 obtain ⟨it,fp,tn,J,H2,e,I2,T,st2,f2,W,⟨m0,w0⟩,turn⟩:=h2
 subst e
 have stat:∀ {H':Hp},(∀ b∈fp,H' b=none)->∀ b∈fp,kP X pins H' b:=fun hn b hb=>⟨hn b hb,(f2 b hb).2⟩
 refine codeAny_forLoop_any (fun n s'=>∃ i σ' H',Inv X pins σ' H' s'/\tn i s'.heap/\(∀ b∈fp,H' b=none)/\W i n σ' H') ?_ m0 ⟨0,σ,H2,I2,st2,fun b hb=>(f2 b hb).1,w0⟩
 rintro n s3 ⟨i,σ3,H3,I3,st3,fr3,w3⟩
 rcases turn i n σ3 H3 w3 with ⟨stop,qn⟩ | ⟨go,N,hN,step⟩
 ·refine wpAny_passesOwn hp (thn (T.done X rfl rfl rfl hc i pins s3 σ3 H3 X.xe I3 (stat fr3) st3 stop) fun r s4 ⟨hr,I4⟩=>?_)
  subst hr
  exact wpAny_execs_nil ⟨σ3,H3,I4,qn⟩
 ·refine wpAny_passesOwn hp (thn (T.item X rfl rfl rfl hc i pins s3 σ3 H3 X.xe I3 (stat fr3) st3 go) fun r s4 ⟨u,hr,h4⟩=>?_)
  subst hr
  refine wpAny_passesOwn hp (thn h4 fun _ s5 ⟨x,H5,I5,r5,y5,st5,fr5⟩=>?_)
  have I5':=I5.pinned (stat fr5) (T.obj _ _ st5)
  refine wpAny_passesOwn hp (thn (hg _ s5 σ3 H5 x u _ I5' r5 (step x H5 y5)) fun _ s6 ⟨σ6,H6,I6,q6⟩=>?_)
  refine wpAny_passesOwn hp (thn (hb _ s6 σ6 H6 _ I6 q6) fun f s7 q7=>?_)
  have again:∀ {σ7:St} {H7:Hp},Inv X (pins++mP fp s5.heap) σ7 H7 s7->N σ7 H7->∃ m,m < n/\∃ i σ' H',Inv X pins σ' H' s7/\tn i s7.heap/\(∀ b∈fp,H' b=none)/\W i m σ' H':=fun {σ7 H7} I7 n7=>by
   obtain ⟨m',hm,w7⟩:=hN σ7 H7 n7
   refine ⟨m',hm,i+1,σ7,H7,I7.unpinned,T.keep _ _ _ st5 fun b hb o e=>(I7.pin (b,o) (List.mem_append_right _ (List.mem_append_right _ (cM hb e)))).1,fun b hb=>?_,w7⟩
   obtain ⟨o,e,d⟩:=T.obj _ _ st5 b hb
   exact (I7.pin (b,o) (List.mem_append_right _ (List.mem_append_right _ (cM hb e)))).2.1
  cases f with
  | next=>obtain ⟨σ7,H7,I7,n7⟩:=q7;exact again I7 n7
  | cont=>obtain ⟨σ7,H7,I7,n7⟩:=q7;exact again I7 n7
  | brk=>obtain ⟨σ7,H7,I7,q7⟩:=q7;exact ⟨σ7,H7,I7.unpinned,q7⟩
  | ret v=>obtain ⟨x7,σ7,H7,I7,r7,q7⟩:=q7;exact ⟨x7,σ7,H7,I7.unpinned,r7,q7⟩
end
end L2
namespace L2
open PySem PySem.Spec PyProof.Rows
abbrev R2:=V->V->Hp->VK->Prop
def OpR (X:Cx) (f:Value->Value->Sem Value) (r:R2):Prop:=
 ∀ (pins:List (Addr×Obj)) (s:Shared) (σ:St) (H:Hp) (x y:V) (v u:Value) (Q:VK),Inv X pins σ H s->bU x v->bU y u->r x y H Q->
  wpAny (model X.prog X.w) X.A (f v u) (EP X pins σ Q) X.xe s
def UnR (X:Cx) (f:Value->Sem Value) (r:V->Hp->VK->Prop):Prop:=
 ∀ (pins:List (Addr×Obj)) (s:Shared) (σ:St) (H:Hp) (x:V) (v:Value) (Q:VK),Inv X pins σ H s->bU x v->r x H Q->
  wpAny (model X.prog X.w) X.A (f v) (EP X pins σ Q) X.xe s
def jR (X:Cx) (f:Value) (r:List V->Hp->VK->Prop):Prop:=
 ∀ (pins:List (Addr×Obj)) (s:Shared) (σ:St) (H:Hp) (xs:List V) (us:List Value) (Q:VK),Inv X pins σ H s->cG xs us->r xs H Q->
  wpAny (model X.prog X.w) X.A (call f us) (EP X pins σ Q) X.xe s
abbrev tOp (r:R2) (ta tb:TE):TE:=fun σ H Q=>ta σ H fun x H1=>tb σ H1 fun y H2=>r x y H2 Q
abbrev tUn (r:V->Hp->VK->Prop) (ta:TE):TE:=fun σ H Q=>ta σ H fun x H1=>r x H1 Q
def rI (C:Int->Int->Prop) (g:Int->Int->V):R2:=fun x y H Q=>∃ i j,x=.int i/\y=.int j/\C i j/\Q (g i j) H
def rI0 (g:Int->Int->V):R2:=fun x y H Q=>∃ i j,x=.int i/\y=.int j/\Q (g i j) H
def rU (g:Int->V):V->Hp->VK->Prop:=fun x H Q=>∃ i,x=.int i/\Q (g i) H
section
variable {X:Cx} {a b c:Expr} {ta tb tc:TE} {pos:Pos}
theorem zIp (ha:PE X a ta) (hb:PE X b tb) {pins:List (Addr×Obj)} {s:Shared} {σ:St} {H:Hp} {R:V->V->Hp->Prop} (I:Inv X pins σ H s)
  (h:ta σ H fun x H1=>tb σ H1 fun y H2=>R x y H2) {Q:Value->Shared->Prop} {f:Value->Value->Sem Value}
  (hf:∀ v u s2 x y H2,Inv X pins σ H2 s2->bU x v->bU y u->R x y H2->wpAny (model X.prog X.w) X.A (f v u) Q X.xe s2):
  wpAny (model X.prog X.w) X.A (eval a X.env) (fun v s₁=>wpAny (model X.prog X.w) X.A (eval b X.env) (fun u s₂=>wpAny (model X.prog X.w) X.A (f v u) Q X.xe s₂) X.xe s₁) X.xe s:=by
 refine thn (ha pins s σ H _ I h) fun v s1 ⟨x,H1,I1,r1,q1⟩=>?_
 refine thn (hb pins s1 σ H1 _ I1 q1) fun u s2 ⟨y,H2,I2,r2,q2⟩=>?_
 exact hf v u s2 x y H2 I2 r1 r2 q2
theorem zAs {op:Operator} {r:R2} (ho:OpR X (binaryOp op) r) (ha:PE X a ta) (hb:PE X b tb):PE X (.BinOp a op b pos) (tOp r ta tb):=by
 intro pins s σ H Q I h
 exact wpAny_BinOp (zIp ha hb I h fun v u s2 x y H2 I2 rx ry q=>ho pins s2 σ H2 x y v u Q I2 rx ry q)
theorem zIZ {op:UnaryOp} {r:V->Hp->VK->Prop} (ho:UnR X (unaryOp op) r) (ha:PE X a ta):PE X (.UnaryOp op a pos) (tUn r ta):=by
 intro pins s σ H Q I h
 exact UnaryOp_ (thn (ha pins s σ H _ I h) fun v s1 ⟨x,H1,I1,r1,q1⟩=>ho pins s1 σ H1 x v Q I1 r1 q1)
theorem opI {f:Value->Value->Sem Value} {C:Int->Int->Prop} {g:Int->Int->Int}
  (rule:∀ (i j:Int) (t u:Tok) (s:Shared) (Q:Value->Shared->Prop) (E:Value->Shared->Prop),C i j->Q (.int (g i j) s.toks) { s with toks:=s.toks+1 }->wpAny (model X.prog X.w) X.A (f (.int i t) (.int j u)) Q E s):
  OpR X f (rI C fun i j=>.int (g i j)):=by
 intro pins s σ H x y v u Q I rx ry h
 obtain ⟨i,j,rfl,rfl,hc,q⟩:=h
 obtain ⟨t,rfl⟩:=rx
 obtain ⟨t',rfl⟩:=ry
 exact rule i j t t' s _ _ hc ⟨.int (g i j),H,I.tok _,⟨_,rfl⟩,q⟩
theorem zJW {f:Value->Value->Sem Value} {g:Int->Int->Int}
  (rule:∀ (i j:Int) (t u:Tok) (s:Shared) (Q:Value->Shared->Prop) (E:Value->Shared->Prop),Q (.int (g i j) s.toks) { s with toks:=s.toks+1 }->wpAny (model X.prog X.w) X.A (f (.int i t) (.int j u)) Q E s):
  OpR X f (rI0 fun i j=>.int (g i j)):=by
 intro pins s σ H x y v u Q I rx ry h
 obtain ⟨i,j,rfl,rfl,q⟩:=h
 obtain ⟨t,rfl⟩:=rx
 obtain ⟨t',rfl⟩:=ry
 exact rule i j t t' s _ _ ⟨.int (g i j),H,I.tok _,⟨_,rfl⟩,q⟩
theorem zIS {f:Value->Value->Sem Value} {g:Int->Int->Bool}
  (rule:∀ (i j:Int) (t u:Tok) (s:Shared) (Q:Value->Shared->Prop) (E:Value->Shared->Prop),Q (.bool (g i j)) s->wpAny (model X.prog X.w) X.A (f (.int i t) (.int j u)) Q E s):
  OpR X f (rI0 fun i j=>.bl (g i j)):=by
 intro pins s σ H x y v u Q I rx ry h
 obtain ⟨i,j,rfl,rfl,q⟩:=h
 obtain ⟨t,rfl⟩:=rx
 obtain ⟨t',rfl⟩:=ry
 exact rule i j t t' s _ _ ⟨.bl (g i j),H,I,rfl,q⟩
def zIm (i j:Int):Prop:=(-(2^64) < i/\i < 2^64)∨(-(2^64) < j/\j < 2^64)
theorem zIm.ok {i j:Int} (h:zIm i j):IntMulOk i j:=by
 rcases h with ⟨h1,h2⟩ | ⟨h1,h2⟩
 ·exact .of_left (intBits_le_64 h1 h2)
 ·exact .of_right (intBits_le_64 h1 h2)
theorem zGI:OpR X (binaryOp .Add) (rI0 fun i j=>.int (i+j)):=zJW fun _ _ _ _ _ _ _ q=>add_int q
theorem bF:OpR X (binaryOp .Mod) (rI (fun _ j=>j≠0) fun i j=>.int (i.fmod j)):=opI fun _ _ _ _ _ _ _ hc q=>mod_int' hc q
theorem unI {f:Value->Sem Value} {g:Int->Int}
  (rule:∀ (i:Int) (t:Tok) (s:Shared) (Q:Value->Shared->Prop) (E:Value->Shared->Prop),Q (.int (g i) s.toks) { s with toks:=s.toks+1 }->wpAny (model X.prog X.w) X.A (f (.int i t)) Q E s):
  UnR X f (rU fun i=>.int (g i)):=by
 intro pins s σ H x v Q I rx h
 obtain ⟨i,rfl,q⟩:=h
 obtain ⟨t,rfl⟩:=rx
 exact rule i t s _ _ ⟨.int (g i),H,I.tok _,⟨_,rfl⟩,q⟩
theorem zGK:UnR X (unaryOp .USub) (rU fun i=>.int (-i)):=unI fun _ _ _ _ _ q=>neg_int q
end
section
variable {X:Cx} {a b c:Expr} {ta tb tc:TE} {pos:Pos}
theorem zDT {pins:List (Addr×Obj)} {σ:St} {H:Hp} {s:Shared} {Q:VK} {k k':Bool} (I:Inv X pins σ H s) (q:Q (.bl k) H) (e:k=k'):EP X pins σ Q (.bool k') s:=by
 subst e
 exact ⟨.bl k,H,I,rfl,q⟩
theorem zCn:OpR X (compareOp .Lt) (rI0 fun i j=>.bl (decide (i < j))):=zIS fun _ _ _ _ _ _ _ q=>lt_int q
theorem zGA:OpR X (compareOp .LtE) (rI0 fun i j=>.bl (decide (i<=j))):=zIS fun _ _ _ _ _ _ _ q=>le_int q
theorem yB:OpR X (compareOp .Gt) (rI0 fun i j=>.bl (decide (j < i))):=zIS fun _ _ _ _ _ _ _ q=>gt_int q
theorem yV:OpR X (compareOp .In) (fun x y H Q=>∃ i j,x=.str i/\y=.str j/\Q (.bl (!(Builtin.Str.occurrences j i 0 j.length 1).isEmpty)) H):=by
 intro pins s σ H x y v u Q I rx ry h
 obtain ⟨i,j,rfl,rfl,q⟩:=h
 obtain ⟨t,rfl⟩:=rx
 obtain ⟨t',rfl⟩:=ry
 exact in_str (zDT I q rfl)
theorem zDV:OpR X (compareOp .Is) (fun x y H Q=>y=.non/\Q (.bl (decide (x=.non))) H):=by
 intro pins s σ H x y v u Q I rx ry h
 obtain ⟨rfl,q⟩:=h
 cases ry
 refine is_none_gen (zDT I q ?_)
 cases x<;>first
  | (cases rx;rfl)
  | (obtain ⟨t,rfl⟩:=rx;rfl)
theorem OpR.or {f:Value->Value->Sem Value} {r r':R2} (h:OpR X f r) (h':OpR X f r'):OpR X f (fun x y H Q=>r x y H Q∨r' x y H Q):=by
 intro pins s σ H x y v u Q I rx ry q
 rcases q with q | q
 ·exact h pins s σ H x y v u Q I rx ry q
 ·exact h' pins s σ H x y v u Q I rx ry q
theorem bQ (b:Expr) {op:CmpOp} (h:op≠.In:=by decide) (h2:op≠.NotIn:=by decide):behindInMarks op b=false:=by
 have e1:(op==CmpOp.In)=false:=by cases op<;>first | rfl | exact absurd rfl h
 have e2:(op==CmpOp.NotIn)=false:=by cases op<;>first | rfl | exact absurd rfl h2
 cases b<;>simp [behindInMarks,e1,e2]
theorem zAH {op:CmpOp} {r:R2} (ho:OpR X (compareOp op) r) (ha:PE X a ta) (hb:PE X b tb) (hm:behindInMarks op b=false):PE X (.Compare a [op] [b] pos) (tOp r ta tb):=by
 intro pins s σ H Q I h
 exact wpAny_Compare1 (zIp ha hb I h fun v u s2 x y H2 I2 rx ry q=>ho pins s2 σ H2 x y v u Q I2 rx ry q) hm
abbrev zHo (t:TE):TT:=fun σ H Q=>t σ H fun x H'=>∃ k,x=.bl k/\Q k H'
theorem uQ {op:CmpOp} {r:R2} (ho:OpR X (compareOp op) r) (ha:PE X a ta) (hb:PE X b tb) (hm:behindInMarks op b=false):PT X (.Compare a [op] [b] pos) (zHo (tOp r ta tb)):=by
 intro pins s σ H Q I h
 refine wpAny_isTrue_Compare1 (thn (ha pins s σ H _ I h) fun v s1 ⟨x,H1,I1,r1,q1⟩=>thn (hb pins s1 σ H1 _ I1 q1) fun u s2 ⟨y,H2,I2,r2,q2⟩=>
  thn (ho pins s2 σ H2 x y v u _ I2 r1 r2 q2) fun c s3 ⟨z,H3,I3,r3,k,e,q3⟩=>?_) hm
 subst e
 cases r3
 exact wpAny_truthy_bool ⟨H3,I3,q3⟩
abbrev zDx (r r':R2) (ta tb tc:TE):TE:=fun σ H Q=>ta σ H fun x H1=>tb σ H1 fun y H2=>r x y H2 fun z H3=>∃ k,z=.bl k/\
 (if k=true then tc σ H3 fun w' H4=>r' y w' H4 Q else Q (.bl false) H3)
theorem zDo {op op':CmpOp} {r r':R2} (ho:OpR X (compareOp op) r) (ho':OpR X (compareOp op') r') (ha:PE X a ta) (hb:PE X b tb) (hc:PE X c tc)
  (hm:lastMarks [op,op'] [b,c]=false:=by with_unfolding_all rfl):PE X (.Compare a [op,op'] [b,c] pos) (zDx r r' ta tb tc):=by
 intro pins s σ H Q I h
 refine Compare_chain (thn (ha pins s σ H _ I h) fun v s1 ⟨x,H1,I1,r1,q1⟩=>chain_link (thn (hb pins s1 σ H1 _ I1 q1) fun u s2 ⟨y,H2,I2,r2,q2⟩=>
  thn (ho pins s2 σ H2 x y v u _ I2 r1 r2 q2) fun d s3 ⟨z,H3,I3,r3,k,e,q3⟩=>?_)) hm
 subst e
 cases r3
 refine wpAny_truthy_bool ?_
 cases k with
 | false=>exact ite_ff ⟨.bl false,H3,I3,rfl,q3⟩
 | true=>exact ite_tt (chain_last (thn (hc pins s3 σ H3 _ I3 q3) fun w' s4 ⟨z',H4,I4,r4,q4⟩=>ho' pins s4 σ H4 y z' u w' Q I4 r2 r4 q4))
theorem wV:(sizeLine:Nat) < 2^63:=by rw [sizeLine_eq];decide
theorem wX:OpR X (binaryOp .Add) (fun x y H Q=>∃ i j,x=.str i/\y=.str j/\i.length+j.length<=sizeLine/\Q (.str (i++j)) H):=by
 intro pins s σ H x y v u Q I rx ry h
 obtain ⟨i,j,rfl,rfl,hz,q⟩:=h
 obtain ⟨t,rfl⟩:=rx
 obtain ⟨t',rfl⟩:=ry
 exact add_str (fun t' tk=>⟨.str (i++j),H,I.tok _,⟨_,rfl⟩,q⟩) hz
def vP (b:Expr):Prop:=∀ o i,subscripted b false o i=operate [o,i] (getItem o i)
theorem uV (ha:PE X a ta) (hb:PE X b tb) (hs:vP b):
  PE X (.Subscript a b pos) (tOp (fun x y H Q=>∃ z i c,x=.str z/\y=.int i/\0<=i/\i < 2^63/\i < z.length/\z.cps[i.toNat]?=some c/\Q (.str ⟨#[c]⟩) H) ta tb):=by
 intro pins s σ H Q I h
 refine Subscript_ (zIp ha hb I h fun v u s2 x y H2 I2 rx ry q=>?_)
 obtain ⟨z,i,c,rfl,rfl,h0,h63,h1,hc,q⟩:=q
 obtain ⟨t,rfl⟩:=rx
 obtain ⟨t',rfl⟩:=ry
 have e:seqIndex? i z.length=some i.toNat:=PySem.StrLaws.seqIndex_nonneg h0 h1
 exact tail_any (typeIs_str s2 z t) slot_str_getitem.lookup (getItem_str (c:=c) (by
  have e1:decide (i < -(2^63:Int))=false:=decide_eq_false (by omega)
  have e2:decide (i ≥ 2^63)=false:=decide_eq_false (by omega)
  rw [e1,e2]<;>rfl) (by rw [e];exact hc) ⟨.str ⟨#[c]⟩,H2,I2.tok _,⟨_,rfl⟩,q⟩) (hs _ _)
theorem sN {x:V} {us:List Value} (r:cG [x] us):∃ u,us=[u]/\bU x u:=by
 cases r with
 | cons r1 r2=>cases r2;exact ⟨_,rfl,r1⟩
theorem zDY {x y:V} {us:List Value} (r:cG [x,y] us):∃ u w',us=[u,w']/\bU x u/\bU y w':=by
 cases r with
 | cons r1 r2=>
  cases r2 with
  | cons r3 r4=>cases r4;exact ⟨_,_,rfl,r1,r3⟩
theorem zAh (hc:X.calm=true):jR X (.builtin "min") (fun xs H Q=>∃ i j,xs=[.int i,.int j]/\Q (.int (if j < i then j else i)) H):=by
 intro pins s σ H xs us Q I r h
 obtain ⟨i,j,rfl,q⟩:=h
 obtain ⟨u,w',rfl,⟨t,rfl⟩,⟨t',rfl⟩⟩:=zDY r
 refine min_two_ints (I.ok.hd hc) fun h' tk k=>⟨_,H,I.kept k,?_,q⟩
 by_cases hj:j < i
 ·rw [if_pos hj,if_pos hj];exact ⟨_,rfl⟩
 ·rw [if_neg hj,if_neg hj];exact ⟨_,rfl⟩
def zJB (K:PySem.W.Frag) (x:V) (H:Hp) (n:Nat):Prop:=
 match x with
 | .str y=>y.length<=sizeLine/\n=y.length
 | .byt y=>y.size<=sizeLine/\n=y.size
 | .ref p=>(∃ xs,SqL K H p xs/\n=xs.length)∨∃ xs,SqT K H p xs/\n=xs.length
 | _=>False
theorem zDm:jR X (.builtin "len") (fun xs H Q=>∃ x n,xs=[x]/\zJB X.K x H n/\Q (.int n) H):=by
 intro pins s σ H xs us Q I r h
 obtain ⟨x,n,rfl,e,q⟩:=h
 obtain ⟨u,rfl,rx⟩:=sN r
 have hl:=wV
 have hs:sizeLine=16777216:=sizeLine_eq
 cases x with
 | str y=>
  obtain ⟨t,rfl⟩:=rx
  obtain ⟨hy,e'⟩:y.length<=sizeLine/\n=y.length:=e
  subst e'
  exact len_str (by omega) ⟨.int _,H,I.tok _,⟨_,rfl⟩,q⟩
 | byt y=>
  obtain ⟨t,rfl⟩:=rx
  obtain ⟨hy,e'⟩:y.size<=sizeLine/\n=y.size:=e
  subst e'
  exact PySem.W.len_bytes (by omega) ⟨.int _,H,I.tok _,⟨_,rfl⟩,q⟩
 | ref p=>
  cases rx
  have e':(∃ xs,SqL X.K H p xs/\n=xs.length)∨∃ xs,SqT X.K H p xs/\n=xs.length:=e
  rcases e' with ⟨xs,hx,e'⟩ | ⟨xs,hx,e'⟩
  ·subst e'
   obtain ⟨its,r',pl,hz⟩:=I.list hx
   have hlen:=r'.length
   exact Calls.call_len_list pl.isList (by simp only [List.size_toArray];omega) ⟨.int xs.length,H,I.tok _,⟨_,by simp only [List.size_toArray];rw [hlen]⟩,q⟩
  ·subst e'
   obtain ⟨its,r',pl,hz⟩:=I.tuple hx
   have hlen:=r'.length
   exact len_tuple pl (by simp only [List.size_toArray];omega) ⟨.int xs.length,H,I.tok _,⟨_,by simp only [List.size_toArray];rw [hlen]⟩,q⟩
 | _=>exact (show False from e).elim
end
end L2
namespace L2
open PySem PySem.Spec PyProof.Rows
structure ObjM (h:Heap) (x dx C:Addr) (mA:Str->Option Value):Prop where
 obj:h.get? x=some (PySem.W.instObj C dx)
 ns:h.Ns1 dx mA
 ne:dx≠x
theorem zBs {h:Heap} {dx:Addr} {mA:Str->Option Value} (n:h.Ns1 dx mA):∃ od,h.get? dx=some od/\∀ name,PySem.W.lookIn name od=some (mA name):=by
 obtain ⟨o,es,ep,ho,hd,hk,_,hm⟩:=n
 refine ⟨o,ho,fun name=>?_⟩
 have e:=hm name
 unfold nsFind findBy at e
 rw [<-Array.find?_toList] at e
 unfold PySem.W.lookIn
 rw [hd]
 dsimp only
 split
 ·rename_i y q
  rw [q] at e
  exact congrArg some e
 ·rename_i q
  rw [q] at e
  have a:es.toList.any (·.refKey)=false:=by
   rw [List.any_eq_false]
   intro y hy
   obtain ⟨z,t,hkey⟩:=hk y (Array.mem_toList_iff.mp hy)
   simp [DictEntry.refKey,hkey]
  have a':¬ es.toList.any (·.refKey)=true:=by rw [a];exact Bool.false_ne_true
  rw [if_neg a']
  exact congrArg some e
theorem ObjM.look {h:Heap} {x dx C:Addr} {mA:Str->Option Value} (I:ObjM h x dx C mA):∃ od,PySem.W.InstAt h x (PySem.W.instObj C dx) C (some od)/\∀ name,PySem.W.lookIn name od=some (mA name):=
 let ⟨od,ho,hl⟩:=zBs I.ns
 ⟨od,⟨I.obj,rfl,rfl,ho⟩,hl⟩
section
variable {prog:Program} {w:World} {A:Around} {E:Value->Shared->Prop} {s:Shared} {K:PySem.W.Frag} {x dx C f:Addr} {mA:Str->Option Value} {name:Str} {v:Value}
theorem zFx {expr:Bool} {Q:Value->Shared->Prop} (X:K.In s.heap) (I:ObjM s.heap x dx C mA) (hg:PySem.W.plainGet K C name=true) (hh:PySem.W.hasDictIn K C=true)
  (ha:PySem.W.findIn K (.ref C) name=some none) (hv:mA name=some v) (hv':PySem.W.handedIn v=true) (h:Q v { s with toks:=s.toks+1 }):
  wpAny (model prog w) A (getAttr (.ref x) name expr) Q E s:=by
 obtain ⟨od,J,hl⟩:=I.look
 exact PySem.W.get_value X J (PySem.W.plainGet_of hg).1 (PySem.W.findObj_own hh ha rfl (by rw [hl,hv])) hv' h
theorem zDi {pl:Sem Bool} {Q:Value×List Value->Shared->Prop} (X:K.In s.heap) (I:ObjM s.heap x dx C mA) (hg:PySem.W.plainGet K C name=true)
  (hf:PySem.W.findIn K (.ref C) name=some (some (.ref f))) (ht:PySem.W.isFn K (.ref f)=true) (hv:mA name=none) (h:Q (.ref f,[.ref x]) s):
  wpAny (model prog w) A (getMethod (.ref x) name pl) Q E s:=by
 obtain ⟨od,J,hl⟩:=I.look
 exact PySem.W.method_fn X J (PySem.W.plainGet_of hg).1 (PySem.W.plainGet_of hg).2 hf (beq_iff_eq.mp ht) (by show (PySem.W.lookIn name od).map (·.isSome)=some false;rw [hl,hv];rfl) h
theorem zEB {ns:List Str} {Q:Unit->Shared->Prop} (X:K.In s.heap) (I:ObjM s.heap x dx C mA)
  (hs:PySem.W.findIn K (.ref C) "__setattr__" = some (some (.builtin "object.__setattr__"))) (hp:PySem.W.plainOver K C=true) (ht:PySem.W.takerIn K C name=some none) (hh:PySem.W.hasDictIn K C=true)
  (hw:PySem.Within mA ns) (hsz:ns.length<=sizeLine)
  (h:∀ h',ObjM h' x dx C (fun y=>if y=name then some v else mA y)->Heap.SameBut dx s.heap h'->Q () { s with heap:=h',toks:=s.toks+2 }):
  wpAny (model prog w) A (setAttr (.ref x) name v) Q E s:=by
 obtain ⟨od,J,hl⟩:=I.look
 refine PySem.W.set_plain X J hs (PySem.W.osa_open (s:={ s with toks:=s.toks+1 }) (r:=none) X J hp ht fun b=>?_)
 obtain ⟨cd,hc,hd'⟩:=PySem.W.any_some hh
 have hx:s.heap.get? x=some ⟨.ref C,some dx,.plain,#[]⟩:=I.obj
 refine wpAny_bind (wpAny_pure (wpAny_bind (wpAny_bind (wpAny_loadPart hx (wpAny_bind (PySem.W.Looks.here (s:={ s with toks:=s.toks+1 }) (PySem.W.looks_clsIn X hc) ?_))))))
 rw [hd']
 refine wpAny_pure (a:=some dx) (wpAny_bind (wpAny_pure (wpAny_bind ?_)))
 refine wpAny_nsSet1 (s:={ s with toks:=s.toks+1 }) I.ns fun h' hn2 hs2=>?_
 obtain ⟨oD,esD,epD,hoD,hdD,hcD⟩:=hn2.count (PySem.Within.cons name v hw)
 refine wpAny_bind (wpAny_lookBehind hoD (by rw [hdD];exact pastItsLine_dict (Nat.le_trans hcD (by rw [List.length_cons];omega))) ?_)
 exact wpAny_pure (h _ ⟨(hs2.2 _ (Ne.symm I.ne)).trans I.obj,hn2,I.ne⟩ hs2)
theorem zCv {R:Result->Shared->Prop} {vs:List Value} {kw:List (Str×Value)} (X:K.In s.heap) (hm:PySem.W.makesIn K C=true)
    (hi:PySem.W.findIn K (.ref C) "__init__" = some (some (.ref f))) (hf:PySem.W.typeIn K (.ref f)=some (.type "function"))
    (h:codeAny (model prog w) (A.under (.builtin "type.__call__" ⟨.ref C::vs,kw⟩)) (.call (.ref f) ⟨.ref (s.heap.objs.size+1)::vs,kw⟩) (PySem.W.InitBack (s.heap.objs.size+1) R)
      { s with heap:=(s.heap.push PySem.W.emptyDict).push (PySem.W.instObj C s.heap.objs.size) }):
    codeAny (model prog w) A (.call (.ref C) ⟨vs,kw⟩) R s:=by
  obtain ⟨hh,g,d,t,os⟩:=s
  exact PySem.W.make_core (PySem.W.makes_of X hm) (PySem.W.looks_findIn X hi) (fun self=>PySem.W.bind_fn X self hf) (.inl rfl) h
end
def pU (f:Str) (v:V):List (Str×V)->List (Str×V)
 | []=>[(f,v)]
 | (g,x)::r=>if g=f then (g,v)::r else (g,x)::pU f v r
theorem lS (f g:Str) (v:V):∀ fs:List (Str×V),(pU f v fs).lookup g=if g=f then some v else fs.lookup g
 | []=>by
  show List.lookup g [(f,v)]=_
  by_cases h:g=f
  ·have hb:(g==f)=true:=beq_iff_eq.mpr h
   simp only [List.lookup,hb,if_pos h]
  ·have hb:(g==f)=false:=beq_eq_false_iff_ne.mpr h
   simp only [List.lookup,hb,if_neg h]
 | (k,x)::r=>by
  have ih:=lS f g v r
  rw [show pU f v ((k,x)::r)=(if k=f then (k,v)::r else (k,x)::pU f v r) from rfl]
  by_cases hk:k=f
  ·rw [if_pos hk]
   by_cases h:g=k
   ·have hb:(g==k)=true:=beq_iff_eq.mpr h
    simp only [List.lookup,hb,if_pos (h.trans hk)]
   ·have hb:(g==k)=false:=beq_eq_false_iff_ne.mpr h
    simp only [List.lookup,hb,if_neg (fun e:g=f=>h (e.trans hk.symm))]
  ·rw [if_neg hk]
   by_cases h:g=k
   ·have hb:(g==k)=true:=beq_iff_eq.mpr h
    simp only [List.lookup,hb,if_neg (fun e:g=f=>hk (h.symm.trans e))]
   ·have hb:(g==k)=false:=beq_eq_false_iff_ne.mpr h
    simp only [List.lookup,hb]
    exact ih
theorem mT (f:Str) (v:V):∀ fs:List (Str×V),f∈(pU f v fs).map (·.1)/\∀ g,g∈fs.map (·.1)->g∈(pU f v fs).map (·.1)
 | []=>⟨by simp [pU],fun g h=>by simp at h⟩
 | (k,x)::r=>by
  obtain ⟨i1,i2⟩:=mT f v r
  rw [show pU f v ((k,x)::r)=(if k=f then (k,v)::r else (k,x)::pU f v r) from rfl]
  by_cases hk:k=f
  ·rw [if_pos hk]
   subst hk
   exact ⟨by simp,fun g h=>by simpa using h⟩
  ·rw [if_neg hk]
   refine ⟨?_,fun g h=>?_⟩
   ·rw [List.map_cons]
    exact List.mem_cons_of_mem _ i1
   ·rw [List.map_cons] at h ⊢
    rcases List.mem_cons.mp h with e | e
    ·exact List.mem_cons.mpr (.inl e)
    ·exact List.mem_cons_of_mem _ (i2 g e)
theorem lM (f:Str) (v:V):∀ fs:List (Str×V),(pU f v fs).length<=fs.length+1
 | []=>by simp [pU]
 | (k,x)::r=>by
  have ih:=lM f v r
  rw [show pU f v ((k,x)::r)=(if k=f then (k,v)::r else (k,x)::pU f v r) from rfl]
  by_cases hk:k=f
  ·rw [if_pos hk,List.length_cons,List.length_cons];omega
  ·rw [if_neg hk,List.length_cons,List.length_cons];omega
theorem zBU.some_of {v:V} {o:Option Value} (r:zBU (some v) o):∃ u,o=some u/\bU v u:=by
 cases o with
 | none=>exact (show False from r).elim
 | some u=>exact ⟨u,rfl,r⟩
theorem zBU.none_of {o:Option Value} (r:zBU none o):o=none:=by
 cases o with
 | none=>rfl
 | some u=>exact (show False from r).elim
theorem zAJ {v:V} {u:Value} (r:bU v u):PySem.W.handedIn u=true:=by
 cases v with
 | non=>cases (show u=Value.none from r);rfl
 | bl b=>cases (show u=Value.bool b from r);rfl
 | int i=>obtain ⟨t,e⟩:=(show ∃ t,u=Value.int i t from r);cases e;rfl
 | str x=>obtain ⟨t,e⟩:=(show ∃ t,u=Value.str x t from r);cases e;rfl
 | byt b=>obtain ⟨t,e⟩:=(show ∃ t,u=Value.bytes b t from r);cases e;rfl
 | flt b=>obtain ⟨t,e⟩:=(show ∃ t,u=Value.float b t from r);cases e;rfl
 | ref a=>cases (show u=Value.ref a from r);rfl
 | ty n=>cases (show u=Value.type n from r);rfl
section
variable {P:Program} {w:World} {H H':Hp} {h h':Heap} {a C dx:Addr} {fs fs':List (Str×V)}
theorem uK (hok:HOk P w H h) (e:H a=some (.ins C dx fs)):∃ mA,ObjM h a dx C mA/\(∀ f,zBU (fs.lookup f) (mA f))/\PySem.Within mA (fs.map (·.1))/\fs.length<=1000/\H dx=some (.own a):=by
 obtain ⟨d,z,ne,ob,mA,n,r,q⟩:=(show fT P w H h a (.ins C dx fs) from hok a _ e)
 exact ⟨mA,⟨ob,n,ne⟩,r,q,z,d⟩
end
structure Cls (K:PySem.W.Frag) (C:Addr):Prop where
 pg:PySem.W.plainGet K C Str.empty=true
 hd:PySem.W.hasDictIn K C=true
 po:PySem.W.plainOver K C=true
 sa:PySem.W.findIn K (.ref C) "__setattr__" = some (some (.builtin "object.__setattr__"))
theorem Cls.get {K:PySem.W.Frag} {C:Addr} (c:Cls K C) (f:Str):PySem.W.plainGet K C f=true:=c.pg
def fW (K:PySem.W.Frag) (C:Addr) (f:Str):Prop:=PySem.W.findIn K (.ref C) f=some none
theorem fW.taker {K:PySem.W.Frag} {C:Addr} {f:Str} (n:fW K C f):PySem.W.takerIn K C f=some none:=by
 unfold PySem.W.takerIn
 rw [show PySem.W.findIn K (.ref C) f=some none from n]
 rfl
structure Meth (K:PySem.W.Frag) (C:Addr) (m:Str) (f:Addr):Prop where
 at_:PySem.W.findIn K (.ref C) m=some (some (.ref f))
 fn:PySem.W.isFn K (.ref f)=true
 kp:PySem.W.keepIn K (.ref f)=true
section
variable {X:Cx} {pins:List (Addr×Obj)} {σ:St} {H:Hp} {s:Shared} {a C dx:Addr} {fs:List (Str×V)} {f:Str} {v:V} {A:Around} {E:Value->Shared->Prop}
theorem xD {b:Bool} {Q:Value->Shared->Prop} (I:Inv X pins σ H s) (e:H a=some (.ins C dx fs)) (c:Cls X.K C) (n:fW X.K C f) (l:fs.lookup f=some v)
  (h:∀ u s',Inv X pins σ H s'->bU v u->Q u s'):wpAny (model X.prog X.w) A (getAttr (.ref a) f b) Q E s:=by
 obtain ⟨mA,O,r,_,_,_⟩:=uK I.hok e
 obtain ⟨u,hu,ru⟩:=zBU.some_of (v:=v) (o:=mA f) (by rw [<-l];exact r f)
 exact zFx I.kIn O (c.get f) c.hd n hu (zAJ ru) (h u _ (I.tok _) ru)
theorem oU {m:Str} {g:Addr} {pl:Sem Bool} {Q:Value×List Value->Shared->Prop} (I:Inv X pins σ H s) (e:H a=some (.ins C dx fs)) (c:Cls X.K C) (k:Meth X.K C m g) (l:fs.lookup m=none)
  (h:Q (.ref g,[.ref a]) s):wpAny (model X.prog X.w) A (getMethod (.ref a) m pl) Q E s:=by
 obtain ⟨mA,O,r,_,_,_⟩:=uK I.hok e
 have hn:mA m=none:=zBU.none_of (by rw [<-l];exact r m)
 exact zDi I.kIn O (c.get m) k.at_ k.fn hn h
theorem yD {y:V} {u:Value} {Q:Unit->Shared->Prop} (I:Inv X pins σ H s) (e:H a=some (.ins C dx fs)) (c:Cls X.K C) (n:fW X.K C f) (hl:fs.length < 1000) (ry:bU y u)
  (h:∀ s',Inv X pins σ (upd H a (.ins C dx (pU f y fs))) s'->Q () s'):wpAny (model X.prog X.w) A (setAttr (.ref a) f u) Q E s:=by
 obtain ⟨mA,O,r,wi,_,ho⟩:=uK I.hok e
 have hz:(fs.map (·.1)).length<=sizeLine:=by rw [List.length_map,sizeLine_eq];omega
 refine zEB I.kIn O c.sa c.po n.taker c.hd wi hz fun h' O' sb=>h _ ?_
 have hd:∃ o,h'.get? dx=some o:=let ⟨o,_,_,e',_⟩:=O'.ns;⟨o,e'⟩
 refine I.write (x:=a) (e:=dx) (by rw [e];exact True.intro) (.inr ho) (fun b q hb z=>(sb.2 b hb).trans z) hd ?_
 refine ⟨by rw [aJ O.ne];exact ho,?_,O.ne,O'.obj,_,O'.ns,fun g=>?_,fun g hg=>?_⟩
 ·have:=lM f y fs;omega
 ·show zBU ((pU f y fs).lookup g) (if g=f then some u else mA g)
  rw [lS]
  by_cases q:g=f
  ·rw [if_pos q,if_pos q];exact ry
  ·rw [if_neg q,if_neg q];exact r g
 ·by_cases q:g=f
  ·rw [q];exact (mT f y fs).1
  ·refine (mT f y fs).2 g (wi g fun z=>hg ?_)
   show (if g=f then some u else mA g)=none
   rw [if_neg q];exact z
theorem Inv.made (I:Inv X pins σ H s):Inv X pins σ (upd (upd H s.heap.objs.size (.own (s.heap.objs.size+1))) (s.heap.objs.size+1) (.ins C s.heap.objs.size []))
    { s with heap:=(s.heap.push PySem.W.emptyDict).push (PySem.W.instObj C s.heap.objs.size) }:=by
  have e1:(s.heap.push PySem.W.emptyDict).get? s.heap.objs.size=some PySem.W.emptyDict:=Heap.get?_push_size s.heap rfl
  have e2:((s.heap.push PySem.W.emptyDict).push (PySem.W.instObj C s.heap.objs.size)).get? (s.heap.objs.size+1)=some (PySem.W.instObj C s.heap.objs.size):=by
    have:=Heap.get?_push_size (s.heap.push PySem.W.emptyDict) (o:=PySem.W.instObj C s.heap.objs.size) rfl
    rwa [Heap.size_push] at this
  have e3:(s.heap.push PySem.W.emptyDict).Ns s.heap.objs.size (fun _=>none):=⟨PySem.W.emptyDict,#[],_,e1,rfl,(fun e he=>absurd he (by simp)),fun _=>rfl⟩
  have I1:=I.laid (a:=s.heap.objs.size) (o:=.own (s.heap.objs.size+1)) (h':=s.heap.push PySem.W.emptyDict) (t':=s.toks) (fun b u q=>Heap.get?_push_of_some _ q) (Nat.le_refl _) ⟨_,e1⟩
  refine I1.laid (a:=s.heap.objs.size+1) (o:=.ins C s.heap.objs.size []) (t':=s.toks) (fun b u q=>Heap.get?_push_of_some _ q) (Nat.le_of_eq (Heap.size_push _ _)) ?_
  have ne:s.heap.objs.size≠s.heap.objs.size+1:=Nat.ne_of_lt (Nat.lt_succ_self _)
  refine ⟨by rw [aJ ne,aI],Nat.zero_le _,ne,e2,fun _=>none,(Heap.Ns1.of_empty e3).at fun o q=>Heap.get?_push_of_some _ q,fun _=>True.intro,fun y hy=>absurd rfl hy⟩
theorem zEA {prog:Program} {w:World} {env:Env} {e:Expr} {f:Str} {pos:Pos} {s:Shared} {Q:Value->Shared->Prop} (hb:attributeBase e f env (eval e env)=eval e env)
  (h:wpAny (model prog w) A (eval e env) (fun o s₁=>wpAny (model prog w) A (getAttr o f true) Q E s₁) E s):wpAny (model prog w) A (eval (.Attribute e f pos) env) Q E s:=
 Attribute_any_ h (by rw [arm_eval_Attribute,hb])
end
def zKh (K:PySem.W.Frag) (ta:TE) (f:Str):TE:=fun σ H Q=>ta σ H fun x H1=>∃ a C dx fs v,x=.ref a/\H1 a=some (.ins C dx fs)/\Cls K C/\fW K C f/\fs.lookup f=some v/\Q v H1
def zKo (K:PySem.W.Frag) (ta tv:TE) (f:Str):TS:=fun D σ H=>tv σ H fun y H1=>ta σ H1 fun x H2=>∃ a C dx fs,x=.ref a/\H2 a=some (.ins C dx fs)/\Cls K C/\fW K C f/\fs.length < 1000/\
 D.nx σ (upd H2 a (.ins C dx (pU f y fs)))
section
variable {X:Cx} {o e value:Expr} {f:Str} {pos pos' tpos:Pos} {ta tv:TE}
theorem zHJ (he:PE X e ta) (hb:attributeBase e f X.env (eval e X.env)=eval e X.env):PE X (.Attribute e f pos) (zKh X.K ta f):=by
 intro pins s σ H Q I h
 refine zEA hb (thn (he pins s σ H _ I h) fun u s1 ⟨x,H1,I1,rx,a,C,dx,fs,v,ex,ea,c,n,l,q⟩=>?_)
 subst ex
 obtain rfl:u=Value.ref a:=rx
 exact xD I1 ea c n l fun u' s2 I2 ru=>⟨v,H1,I2,ru,q⟩
theorem zGh (ha:PE X o ta) (hv:PE X value tv) (hs:swapsWith value (some (.Attribute o f pos')) pos.line X.env=pure false):PS X (.Assign [.Attribute o f pos'] value pos) (zKo X.K ta tv f):=by
 intro pins s σ H D I h
 refine plainObj_wpAny_Assign_Attribute (thn (hv pins s σ H _ I h) fun u s1 ⟨y,H1,I1,ry,q⟩=>thn (ha pins s1 σ H1 _ I1 q) fun ov s2 ⟨x,H2,I2,rx,a,C,dx,fs,ex,ea,c,n,l,q2⟩=>?_) hs
 subst ex
 obtain rfl:ov=Value.ref a:=rx
 exact yD I2 ea c n l ry fun s3 I3=>⟨σ,_,I3,q2⟩
theorem zFz {pl:Sem Bool} {m:Str} {apos:Pos} {args:List Expr} {pins:List (Addr×Obj)} {s:Shared} {σ:St} {H:Hp} {Q:Value->Shared->Prop} {te:TE} (he:PE X e te) (I:Inv X pins σ H s)
  (h:te σ H fun x H1=>∃ a C dx fs g,x=.ref a/\H1 a=some (.ins C dx fs)/\Cls X.K C/\Meth X.K C m g/\fs.lookup m=none/\
   ∀ s1,Inv X pins σ H1 s1->wpAny (model X.prog X.w) X.A (callWith pos (.ref g) [.ref a] (backTo pos (starEach args X.env)) (backToKw pos (keywordEach [] X.env))) Q X.xe s1)
  (ht:eval (.Call (.Attribute e m apos) args [] pos) X.env=(do
   let ov <-eval e X.env
   standAt apos.atName
   let (f,first) <-holding [ov] (getMethod ov m pl)
   callWith pos f first (backTo pos (starEach args X.env)) (backToKw pos (keywordEach [] X.env)))):
  wpAny (model X.prog X.w) X.A (eval (.Call (.Attribute e m apos) args [] pos) X.env) Q X.xe s:=by
 refine PySem.W.methodCall_KW (pl:=pl) (thn (he pins s σ H _ I h) fun u s1 ⟨x,H1,I1,rx,a,C,dx,fs,g,ex,ea,c,k,l,q⟩=>?_) ht
 subst ex
 obtain rfl:u=Value.ref a:=rx
 exact oU I1 ea c k l (q s1 I1)
end
section
variable {X:Cx} {pins:List (Addr×Obj)} {σ:St} {H:Hp} {s:Shared} {A:Around} {E:Value->Shared->Prop} {Q:Value->Shared->Prop} {c:Value} {b:Bool}
end
end L2
namespace L2
open PySem PySem.Spec PyProof.Rows
structure Room (k:Nat) (A:Around):Prop where
 hd:A.handled=none
 dp:A.depth+3 * k+5 < recursionLimit
 un:A.units+16 * k+200 < cLine
theorem Room.mono {j k:Nat} {A:Around} (r:Room k A) (h:j<=k):Room j A:=⟨r.hd,by have:=r.dp;omega,by have:=r.un;omega⟩
theorem Room.deeper {k:Nat} {A:Around} (r:Room (k+1) A) (env:Env):Room k (A.deeper env):=
 ⟨r.hd,by have:=r.dp;show A.depth+1+3 * k+5 < _;omega,by have:=r.un;show A.units+3+16 * k+200 < _;omega⟩
theorem xF {A:Around} {C:Addr} {us:List Value} {kw:List (Str×Value)}:(A.under (.builtin "type.__call__" ⟨.ref C::us,kw⟩)).depth=A.depth+1:=by
 first | rfl | simp [Around.under,Code.weight,Code.isCreation,Code.isGuard,Code.isCaller,Code.frames,Code.isFrame,guardIds]
theorem xY {A:Around} {C:Addr} {us:List Value} {kw:List (Str×Value)}:(A.under (.builtin "type.__call__" ⟨.ref C::us,kw⟩)).units=A.units+1:=by
 first | rfl | simp [Around.under,Code.cUnits,Code.frames,Code.isFrame]
theorem Room.make {k:Nat} {A:Around} (r:Room (k+1) A) (C:Addr) (us:List Value) (kw:List (Str×Value)):Room k (A.under (.builtin "type.__call__" ⟨.ref C::us,kw⟩)):=
 ⟨r.hd,by have:=r.dp;rw [xF];omega,by have:=r.un;rw [xY];omega⟩
theorem Room.depth {k:Nat} {A:Around} (r:Room k A):A.depth < recursionLimit:=by have:=r.dp;omega
theorem Room.units {k:Nat} {A:Around} (r:Room k A):A.units+64 < cLine:=by have:=r.un;omega
abbrev zJw:TA:=fun _ H Q=>Q [] H
abbrev zJr (ta:TE) (tr:TA):TA:=fun σ H Q=>ta σ H fun x H1=>tr σ H1 fun xs H2=>Q (x::xs) H2
section
variable {X:Cx} {e:Expr} {es:List Expr} {te:TE} {t:TA} {pos:Pos}
theorem gB:PA X [] zJw:=fun _ _ _ _ H Q I h=>Calls.spliced_nil ⟨[],H,I,.nil,h⟩
theorem cZ (ha:PE X e te) (hr:PA X es t) (hs:starEach (e::es) X.env=(false,eval e X.env)::starEach es X.env:=by rfl):PA X (e::es) (zJr te t):=by
 intro pos pins s σ H Q I h
 rw [hs]
 show wpAny _ _ (spliced ((false,eval e X.env)::backTo pos (starEach es X.env))) _ _ s
 refine Calls.spliced_cons (thn (ha pins s σ H _ I h) fun u s1 ⟨x,H1,I1,r1,q1⟩=>?_)
 exact thn (hr pos pins s1 σ H1 _ I1 q1) fun us s2 ⟨xs,H2,I2,r2,q2⟩=>⟨x::xs,H2,I2,.cons r1 r2,q2⟩
abbrev zJV (t:TA):TE:=fun σ H Q=>t σ H fun xs H1=>xs.length<=sizeLine/\∀ p,H1 p=none->Q (.ref p) (upd H1 p (.tup xs))
abbrev zKe (t:TA):TE:=fun σ H Q=>t σ H fun xs H1=>xs.length<=sizeLine/\∀ p,H1 p=none->Q (.ref p) (upd H1 p (.lst xs))
theorem zHP {x1} (h:PA X es t):PE X (.Tuple es x1 pos) (zJV t):=by
 intro pins s σ H Q I hq
 refine wpAny_Tuple_spliced (thn (h pos pins s σ H _ I hq) fun us s1 ⟨xs,H1,I1,r,z,q⟩=>⟨by rw [<-r.length];exact z,?_⟩)
 have hf:H1 s1.heap.objs.size=none:=I1.hok.fresh (Nat.le_refl _)
 refine ⟨.ref s1.heap.objs.size,upd H1 s1.heap.objs.size (.tup xs),I1.laid (t':=s1.toks) (fun b u e=>Heap.get?_push_of_some _ e) (Nat.le_refl _) ?_,rfl,q _ hf⟩
 exact ⟨z,us,r,⟨_,Heap.get?_push_size _ rfl,rfl,_,rfl⟩⟩
theorem zGi (h:PA X es t):PE X (.List es pos) (zKe t):=by
 intro pins s σ H Q I hq
 refine wpAny_List_spliced (thn (h pos pins s σ H _ I hq) fun us s1 ⟨xs,H1,I1,r,z,q⟩=>⟨by rw [<-r.length];exact z,?_⟩)
 have hf:H1 s1.heap.objs.size=none:=I1.hok.fresh (Nat.le_refl _)
 refine ⟨.ref s1.heap.objs.size,upd H1 s1.heap.objs.size (.lst xs),I1.laid (t':=s1.toks) (fun b u e=>Heap.get?_push_of_some _ e) (Nat.le_refl _) ?_,rfl,q _ hf⟩
 exact ⟨z,us,0,r,Heap.get?_push_size _ rfl⟩
end
abbrev Sp:=List V->Hp->VK->XK->Prop
abbrev CXT:=List Env->Hp->Shared->XK->Value->Shared->Prop
structure Env0 (P:Program) (w:World) (K:PySem.W.Frag) (mg:Str->Option Value) (base:Heap) (A:Around) (outer:List Env) (s:Shared) (H:Hp):Prop where
 frames:A.frames=some outer
 mod:Mod K mg base
 bs:∀ b o,base.get? b=some o->s.heap.get? b=some o/\H b=none
 bsz:base.objs.size<=s.heap.objs.size
 funs:s.heap.FunFrames base outer
 frf:∀ b∈frs outer,H b=none
 hok:HOk P w H s.heap
 bare:AllBare s.gens
def CE (outer:List Env) (P:Program) (w:World) (H:Hp) (s:Shared) (Q:VK) (u:Value) (s':Shared):Prop:=
 ∃ v H',s'.os=s.os/\AllBare s'.gens/\Un (frs outer) [] H H' s.heap s'.heap/\HOk P w H' s'.heap/\bU v u/\Q v H'
def CR (CX:CXT) (outer:List Env) (P:Program) (w:World) (H:Hp) (s:Shared) (Q:VK) (E:XK) (r:Result) (s':Shared):Prop:=
 match r with
 | .ok (.ret u)=>CE outer P w H s Q u s'
 | .ok _=>False
 | .error e=>CX outer H s E e s'
structure FnOk (P:Program) (w:World) (K:PySem.W.Frag) (mg:Str->Option Value) (base:Heap) (CX:CXT) (k:Nat) (f:Addr) (fd:FuncData) (ps:List Str) (sp:Sp):Prop where
 len:∀ vs H Q E,sp vs H Q E->vs.length=ps.length
 run:∀ (A:Around) (outer:List Env) (s:Shared) (H:Hp) (args:Args) (us:List Value) (vs:List V) (Q:VK) (E:XK),Room k A->Env0 P w K mg base A outer s H->BindsTo s fd args (ps.zip us)->cG vs us->sp vs H Q E->
  codeAny (model P w) A (.call (.ref f) args) (CR CX outer P w H s Q E) s
theorem FnOk.mono {P:Program} {w:World} {K:PySem.W.Frag} {mg:Str->Option Value} {base:Heap} {CX:CXT} {j k:Nat} {f:Addr} {fd:FuncData} {ps:List Str} {sp:Sp} (F:FnOk P w K mg base CX j f fd ps sp) (h:j<=k):
  FnOk P w K mg base CX k f fd ps sp:=⟨F.len,fun A outer s H args us vs Q E hr=>F.run A outer s H args us vs Q E (hr.mono h)⟩
theorem FnOk.imp {P:Program} {w:World} {K:PySem.W.Frag} {mg:Str->Option Value} {base:Heap} {CX:CXT} {k:Nat} {f:Addr} {fd:FuncData} {ps:List Str} {sp sp':Sp} (F:FnOk P w K mg base CX k f fd ps sp)
  (h:∀ vs H Q E,sp' vs H Q E->sp vs H Q E):FnOk P w K mg base CX k f fd ps sp':=
 ⟨fun vs H Q E q=>F.len vs H Q E (h _ _ _ _ q),fun A outer s H args us vs Q E hr he hb hv hs=>F.run A outer s H args us vs Q E hr he hb hv (h _ _ _ _ hs)⟩
theorem Env0.make {P:Program} {w:World} {K:PySem.W.Frag} {mg:Str->Option Value} {base:Heap} {A:Around} {outer:List Env} {s:Shared} {H:Hp} (e:Env0 P w K mg base A outer s H) (C:Addr) (us:List Value) (kw:List (Str×Value)):
  Env0 P w K mg base (A.under (.builtin "type.__call__" ⟨.ref C::us,kw⟩)) outer s H:=⟨by first | exact e.frames | (simpa [Around.under,Code.envs,Code.isFrame,pushEnvs] using e.frames),e.mod,e.bs,e.bsz,e.funs,e.frf,e.hok,e.bare⟩
theorem Env0.in1 {P:Program} {w:World} {K:PySem.W.Frag} {mg:Str->Option Value} {base:Heap} {A:Around} {outer:List Env} {s:Shared} {H:Hp} (e:Env0 P w K mg base A outer s H):
  Env0 P w K mg base A.in1 outer s H:=⟨e.frames,e.mod,e.bs,e.bsz,e.funs,e.frf,e.hok,e.bare⟩
section
variable {X:Cx} {pins:List (Addr×Obj)} {σ:St} {H:Hp} {s s':Shared}
theorem Inv.env0 (I:Inv X pins σ H s):Env0 X.prog X.w X.K X.mg X.base X.A X.stack s H:=
 ⟨I.ok.frames,I.ok.mod,I.bs,Nat.le_trans I.ok.bsz I.sz,I.stack,I.stkFree,I.hok,I.bare⟩
theorem Inv.after {Q:VK} {u:Value} (I:Inv X pins σ H s) (h:CE X.stack X.prog X.w H s Q u s'):EP X pins σ Q u s':=by
 obtain ⟨v,H',os,bare,un,hok,r,q⟩:=h
 obtain ⟨hh,g,d,t,os'⟩:=s'
 obtain rfl:os'=s.os:=os
 exact ⟨v,H',I.call (h':=hh) (g':=g) (d':=d) (t':=t) (ch:=[]) un hok bare (fun b z=>absurd z (by simp)),r,q⟩
end
abbrev zEE (sp:Sp) (dvs:List V) (E:XK) (t:TA):TE:=fun σ H Q=>t σ H fun vs H1=>sp (vs++dvs) H1 Q E
def zIE (C:Addr) (m:Str) (sp:Sp) (dvs:List V) (E:XK) (ta:TE) (t:TA):TE:=fun σ H Q=>ta σ H fun x H1=>∃ a dx fs,x=.ref a/\H1 a=some (.ins C dx fs)/\fs.lookup m=none/\
 t σ H1 fun vs H2=>sp (x::(vs++dvs)) H2 Q E
def jS (K:PySem.W.Frag) (fd:FuncData) (ps:List Str) (ds:List Value):Prop:=
 ∀ (s:Shared) (us:List Value),K.In s.heap->(us++ds).length=ps.length->BindsTo s fd ⟨us,[]⟩ (ps.zip (us++ds))
theorem jS.all {K:PySem.W.Frag} {fd:FuncData} {ps:List Str} (h:∀ us:List Value,us.length=ps.length->bindArgs fd ⟨us,[]⟩=pure (ps.zip us)):jS K fd ps []:=fun s us _ hl=>by
 rw [List.append_nil] at hl ⊢
 exact .of_eq (h us hl)
def rV (CX:CXT) (X:Cx) (E:XK):Prop:=∀ (pins:List (Addr×Obj)) (σ:St) (H:Hp) (s:Shared) (e:Value) (s':Shared),Inv X pins σ H s->CX X.stack H s E e s'->X.xe e s'
section
variable {X:Cx} {CX:CXT} {k:Nat} {f C:Addr} {fd:FuncData} {ps:List Str} {sp:Sp} {dvs:List V} {ds:List Value} {E:XK} {x m:Str} {p pos apos:Pos} {e o:Expr} {es:List Expr} {ta:TE} {t:TA}
theorem zDs {pins:List (Addr×Obj)} {σ:St} {H:Hp} {s:Shared} {Q:VK} {us:List Value} {vs:List V} (F:FnOk X.prog X.w X.K X.mg X.base CX k f fd ps sp) (hr:Room k X.A) (hb:jS X.K fd ps ds) (hd:cG dvs ds) (hx:rV CX X E)
  (I:Inv X pins σ H s) (r:cG vs us) (h:sp (vs++dvs) H Q E):wpAny (model X.prog X.w) X.A (call (.ref f) us) (EP X pins σ Q) X.xe s:=by
 have r2:cG (vs++dvs) (us++ds):=r.append hd
 have hl:(us++ds).length=ps.length:=by rw [<-r2.length];exact F.len _ _ _ _ h
 refine wpAny_call (codeAny_mono (F.run X.A X.stack s H ⟨us,[]⟩ (us++ds) (vs++dvs) Q E hr I.env0 (hb s us I.kIn hl) r2 h) fun r s' hq=>?_)
 cases r with
 | error e=>exact hx pins σ H s e s' I hq
 | ok fl=>
  cases fl with
  | ret u=>exact I.after hq
  | next=>exact False.elim hq
  | brk=>exact False.elim hq
  | cont=>exact False.elim hq
theorem uP (F:FnOk X.prog X.w X.K X.mg X.base CX k f fd ps sp) (hr:Room k X.A) (hg:Gl X x) (hm:X.mg x=some (.ref f)) (hk:PySem.W.keepIn X.K (.ref f)=true) (hb:jS X.K fd ps ds) (hd:cG dvs ds) (hx:rV CX X E)
  (ha:PA X (e::es) t) (hdb:(x==("__debug__" : Str))=false:=by decide) (he:starEach (e::es) X.env=(false,eval e X.env)::starEach es X.env:=by rfl) (hpl:(backTo pos (starEach es X.env)).any (·.1)=false:=by rfl):
  PE X (.Call (.Name x p) (e::es) [] pos) (zEE sp dvs E t):=by
 intro pins s σ H Q I h
 refine wpAny_Call_Name_kw (kC I hg hm ?_ hdb)
 refine PySem.W.callWith_K (h₀:=X.base) I.ok.mod.kin hk (thn (ha pos pins s σ H _ I h) fun us s1 ⟨vs,H1,I1,r,q⟩=>⟨I1.kIn,?_⟩) he hpl
 exact zDs F hr hb hd hx I1 r q
theorem zCg {pl:Sem Bool} (he:PE X o ta) (c:Cls X.K C) (hm:Meth X.K C m f) (F:FnOk X.prog X.w X.K X.mg X.base CX k f fd ps sp) (hr:Room k X.A) (hb:jS X.K fd ps ds) (hd:cG dvs ds) (hx:rV CX X E)
  (ht:eval (.Call (.Attribute o m apos) [] [] pos) X.env=(do
   let ov <-eval o X.env
   standAt apos.atName
   let (f,first) <-holding [ov] (getMethod ov m pl)
   callWith pos f first (backTo pos (starEach [] X.env)) (backToKw pos (keywordEach [] X.env))):=by rfl):
  PE X (.Call (.Attribute o m apos) [] [] pos) (zIE C m sp dvs E ta zJw):=by
 intro pins s σ H Q I h
 refine PySem.W.methodCall_KW (pl:=pl) (thn (he pins s σ H _ I h) fun u s1 ⟨x,H1,I1,rx,a,dx,fs,ex,ea,l,q⟩=>?_) ht
 subst ex
 obtain rfl:u=Value.ref a:=rx
 refine oU I1 ea c hm l ?_
 exact PySem.W.callWith_K0 (first:=[.ref a]) I1.kIn hm.kp (zDs (us:=[.ref a]) (vs:=[.ref a]) F hr hb hd hx I1 (.cons rfl .nil) q)
structure Mk (K:PySem.W.Frag) (C f:Addr):Prop where
 makes:PySem.W.makesIn K C=true
 init:PySem.W.findIn K (.ref C) "__init__" = some (some (.ref f))
 fn:PySem.W.isFn K (.ref f)=true
 kp:PySem.W.keepIn K (.ref C)=true
end
section
variable {X:Cx} {CX:CXT} {k:Nat} {f C:Addr} {fd:FuncData} {ps ks:List Str} {sp:Sp} {E:XK} {x m:Str} {p pos apos kpos:Pos} {e o:Expr} {es:List Expr} {kws:List Keyword} {te ta:TE} {t tk:TA} {nm:Option Str}
variable {g:List Value->List Value->List Value} {gV:List V->List V->List V}
end
structure FnScope (N P:List Str) (sc:Scope):Prop where
 kind:sc.kind=.function
 co:sc.isCoroutine=false
 gen:sc.isGenerator=false
 nd:N.Nodup
 pre:N.take P.length=P
 par:∀ x∈P,sc.names.lookup x=some .local∨sc.names.lookup x=some .cell
 nofree:∀ y∈sc.names,y.2≠.free
theorem tP {kindOf:Str->Option NameKind} {x:Str}:∀ {binds:List (Str×Value)} {m:Str->Option Value},(∀ v,(x,v)∉binds)->bindL kindOf binds m x=m x
 | [],_,_=>rfl
 | (n,v)::r,m,h=>by
  unfold bindL
  rw [tP fun w hw=>h w (List.mem_cons_of_mem _ hw)]
  split
  ·have:x≠n:=by rintro rfl;exact h v List.mem_cons_self
   simp [this]
  ·rfl
theorem sR {kindOf:Str->Option NameKind} {x:Str}:∀ {binds:List (Str×Value)} {m:Str->Option Value},(∀ v,(x,v)∉binds)->bindC kindOf binds m x=m x
 | [],_,_=>rfl
 | (n,v)::r,m,h=>by
  unfold bindC
  rw [sR fun w hw=>h w (List.mem_cons_of_mem _ hw)]
  split
  ·rfl
  ·have:x≠n:=by rintro rfl;exact h v List.mem_cons_self
   simp [this]
theorem tM {kindOf:Str->Option NameKind} {x:Str} {v:Value}:∀ {P:List Str} {vs:List Value} {i:Nat} {m:Str->Option Value},P.Nodup->P[i]?=some x->vs[i]?=some v->kindOf x=some .local->
  bindL kindOf (P.zip vs) m x=some v
 | [],_,_,_,_,h,_,_=>by simp at h
 | _::_,[],_,_,_,_,h,_=>by simp at h
 | p::P,w::vs,0,m,nd,h1,h2,hk=>by
  simp at h1 h2;subst h1;subst h2
  show bindL kindOf ((p,w)::P.zip vs) m p=_
  unfold bindL
  rw [tP fun v hv=>(List.nodup_cons.mp nd).1 (List.of_mem_zip hv).1,if_pos hk]
  simp
 | p::P,w::vs,i+1,m,nd,h1,h2,hk=>by
  show bindL kindOf ((p,w)::P.zip vs) m x=_
  unfold bindL
  exact tM (i:=i) (List.nodup_cons.mp nd).2 (by simpa using h1) (by simpa using h2) hk
theorem rM {kindOf:Str->Option NameKind} {x:Str} {v:Value}:∀ {P:List Str} {vs:List Value} {i:Nat} {m:Str->Option Value},P.Nodup->P[i]?=some x->vs[i]?=some v->kindOf x≠some .local->
  bindC kindOf (P.zip vs) m x=some v
 | [],_,_,_,_,h,_,_=>by simp at h
 | _::_,[],_,_,_,_,h,_=>by simp at h
 | p::P,w::vs,0,m,nd,h1,h2,hk=>by
  simp at h1 h2;subst h1;subst h2
  show bindC kindOf ((p,w)::P.zip vs) m p=_
  unfold bindC
  rw [sR fun v hv=>(List.nodup_cons.mp nd).1 (List.of_mem_zip hv).1,if_neg hk]
  simp
 | p::P,w::vs,i+1,m,nd,h1,h2,hk=>by
  show bindC kindOf ((p,w)::P.zip vs) m x=_
  unfold bindC
  exact rM (i:=i) (List.nodup_cons.mp nd).2 (by simpa using h1) (by simpa using h2) hk
def start (N:List Str) (vs:List V):St:=vs.map some++List.replicate (N.length - vs.length) none
def xH (CX:CXT) (P:Program) (w:World) (K:PySem.W.Frag) (mg:Str->Option Value) (base:Heap) (N:List Str) (qual:Str) (scope:Scope) (f:Addr) (cd:Value) (A:Around) (outer:List Env) (s:Shared) (H:Hp) (E:XK):Cx where
 prog:=P
 w:=w
 K:=K
 mg:=mg
 base:=base
 A:=A.deeper (envOfC qual scope s.heap.objs.size f cd)
 N:=N
 s₀:=s
 H₀:=H
 env:=envOfC qual scope s.heap.objs.size f cd
 outer:=outer
 stack:=envOfC qual scope s.heap.objs.size f cd::outer
 ex:=[]
 calm:=true
 fn:=fun _=>true
 pn:=[]
 xe:=fun e s'=>wpAny (model P w) (A.deeper (envOfC qual scope s.heap.objs.size f cd)) (leaving (envOfC qual scope s.heap.objs.size f cd) e) (fun _ s''=>CX outer H s E e s'') (fun e' s''=>CX outer H s E e' s'') s'
theorem wN {sc:Scope} {n:Nat} {x:Str} (h:sc.names.lookup x=some .cell):∃ c,(cellsFrom n sc.names []).lookup x=some c:=by
 have q:=PySem.W.cellsFrom_some sc.names n [] (.inl h)
 exact Option.isSome_iff_exists.mp q
theorem zE {CX:CXT} {P:Program} {w:World} {K:PySem.W.Frag} {mg:Str->Option Value} {base:Heap} {N ps:List Str} {qual:Str} {scope:Scope} {f:Addr} {cd:Value} {A:Around} {outer:List Env} {s s1:Shared} {H:Hp} {E:XK} {us:List Value} {vs:List V}
  (S:FnScope N ps scope) (hd:A.handled=none) (e0:Env0 P w K mg base A outer s H) (hl:vs.length=ps.length) (r:cG vs us)
  (x:InCallC s s.heap.objs.size (bindL (envOfC qual scope s.heap.objs.size f cd).kindOf (ps.zip us) fun _=>none) (cellsFrom (s.heap.objs.size+1) scope.names []) (bindC (envOfC qual scope s.heap.objs.size f cd).kindOf (ps.zip us) fun _=>none) s1):
  Inv (xH CX P w K mg base N qual scope f cd A outer s H E) [] (start N vs) H s1:=by
 have hpl:ps.length<=N.length:=by have:=congrArg List.length S.pre;rw [List.length_take] at this;omega
 obtain ⟨h1,tk,rfl,hk⟩:=x.done
 have noA:∀ b:Addr,b∉(xH CX P w K mg base N qual scope f cd A outer s H E).ex:=fun b z=>absurd (show b∈([]:List Addr) from z) (by simp)
 refine ⟨⟨e0.mod,S.kind,rfl,rfl,Nat.le_refl _,fun y z c h1 h2=>?_,fun y hy=>?_,fun y c _ h=>?_,fun _=>hd,Around.frames_deeper e0.frames,.inr ⟨rfl,rfl⟩,fun b z=>absurd z (noA b),e0.bs,e0.bsz,fun b _ _=>noA b,fun b z=>absurd z (noA b),e0.funs,e0.frf⟩,
  rfl,e0.bare,Un.kept hk,⟨_,x.toInCall.ns,fun i y v h1 h2 h3=>?_⟩,fun y c h=>⟨_,x.cell y c h⟩,e0.hok.fresh (Nat.le_refl _),fun y c h=>?_,fun p hp=>absurd (show p∈([]:List (Addr×Obj)) from hp) (by simp),e0.hok.kept hk,?_⟩
 ·exact name_of_addr x.apart (PySem.mem_of_lookup h1) (PySem.mem_of_lookup h2)
 ·have hy:scope.names.lookup y=some .cell∨scope.names.lookup y=some .free:=hy
  rcases hy with hy | hy
  ·exact wN hy
  ·exact absurd rfl (S.nofree _ (PySem.mem_of_lookup hy))
 ·exact Nat.le_of_lt (x.above y c (PySem.mem_of_lookup h))
 ·have hi:i < vs.length:=by
   unfold start at h2
   by_cases hi:i < vs.length
   ·exact hi
   ·rw [List.getElem?_append_right (by simpa using hi)] at h2
    rw [List.getElem?_replicate] at h2
    split at h2<;>cases h2
  have ha:vs[i]?=some v:=by
   unfold start at h2
   rw [List.getElem?_append_left (by simpa using hi),List.getElem?_map] at h2
   cases e:vs[i]? with
   | none=>rw [e] at h2;cases h2
   | some a=>rw [e] at h2;cases h2;rfl
  obtain ⟨u,hu,rv⟩:=r.get ha
  have hp:ps[i]?=some y:=by
   rw [<-S.pre,List.getElem?_take_of_lt (by omega)];exact h1
  have ndP:ps.Nodup:=by rw [<-S.pre];exact S.nd.sublist (List.take_sublist _ _)
  refine ⟨u,rv,?_⟩
  rcases S.par y (List.mem_of_getElem? hp) with k | k
  ·exact .inl ⟨k,tM ndP hp hu k⟩
  ·obtain ⟨c,e⟩:=wN (n:=s.heap.objs.size+1) k
   refine .inr ⟨.inl k,c,e,?_⟩
   have q:=x.cell y c e
   rw [rM ndP hp hu (by show scope.names.lookup y≠_;rw [k];decide)] at q
   exact q
 ·exact e0.hok.fresh (Nat.le_of_lt (x.above y c (PySem.mem_of_lookup h)))
 ·unfold start
  show _=N.length
  rw [List.length_append,List.length_map,List.length_replicate]
  omega
theorem zBA {CX:CXT} {P:Program} {w:World} {K:PySem.W.Frag} {mg:Str->Option Value} {base:Heap} {k:Nat} {f:Addr} {name qual:Str} {params:Arguments} {body:List Stmt} {scope:Scope} {dV kV doc pm cdv ct oc:Value} {an od:Option Addr}
  {osl:Array (Option Value)} {N ps:List Str} {sp:Sp} (lk:K.lookup f=some ⟨oc,od,.func (PySem.W.fnOf name qual params body scope dV kV doc pm an cdv ct),osl⟩) (hcd:PySem.W.codeIn K cdv qual=true) (S:FnScope N ps scope)
  (len:∀ vs H Q E,sp vs H Q E->vs.length=ps.length)
  (hbody:∀ (A:Around) (outer:List Env) (s:Shared) (H:Hp) (vs:List V) (Q:VK) (E:XK),Room k (A.deeper (envOfC qual scope s.heap.objs.size f cdv))->sp vs H Q E->
   ∃ t,PSs (xH CX P w K mg base N qual scope f cdv A outer s H E) body t/\t { nx:=fun _ H'=>Q .non H',rt:=Q } (start N vs) H):
  FnOk P w K mg base CX (k+1) f (PySem.W.fnOf name qual params body scope dV kV doc pm an cdv ct) ps sp:=by
 refine ⟨len,fun A outer s H args us vs Q E hr e0 hb r hsp=>?_⟩
 have hl:=len _ _ _ _ hsp
 have KX:K.In s.heap:=e0.mod.kin.keeps fun b o e=>(e0.bs b o e).1
 have lim:s.heap.NoLimit:=e0.mod.nolimit.keeps fun b o e=>(e0.bs b o e).1
 have hkind:∀ y∈ps.zip us,scope.names.lookup y.1=some .local∨(scope.names.lookup y.1=some .cell/\((cellsFrom (s.heap.objs.size+1) scope.names []).lookup y.1).isSome=true):=fun ⟨n,v⟩ hy=>by
  rcases S.par n (List.of_mem_zip hy).1 with q | q
  ·exact .inl q
  ·exact .inr ⟨q,PySem.W.cellsFrom_some _ _ _ (.inl q)⟩
 refine codeAny_call_function hr.depth (KX _ _ lk) rfl S.co S.gen rfl (PySem.W.codeRec_of KX hcd) (hb _ _ _ _ ?_)
 refine wpAny_newFunctionEnv_cells S.kind hkind fun env he s1 x=>?_
 subst he
 refine ⟨lim.keeps x.toInCall.keep,codeAny_func ?_⟩
 obtain ⟨t,ht,hq⟩:=hbody A outer s H vs Q E (hr.deeper _) hsp
 have I:Inv (xH CX P w K mg base N qual scope f cdv A outer s H E) [] (start N vs) H s1:=zE S hr.hd e0 hl r x
 refine wpAny_mono (ht [] s1 (start N vs) H _ I hq) (fun fl s' hs=>?_) fun e s' hs=>hs
 have fin:∀ {σ':St} {H':Hp} {v:V} {u:Value},Inv (xH CX P w K mg base N qual scope f cdv A outer s H E) [] σ' H' s'->bU v u->Q v H'->CE outer P w H s Q u s':=
  fun {σ' H' v u} J rv q=>⟨v,H',J.os,J.bare,J.base,J.hok,rv,q⟩
 cases fl with
 | ret u=>
  obtain ⟨v,σ',H',J,rv,q⟩:=hs
  exact fin J rv q
 | next=>
  obtain ⟨σ',H',J,q⟩:=hs
  exact fin (v:=V.non) (u:=Value.none) J rfl q
 | brk=>
  obtain ⟨_,_,_,q⟩:=hs
  exact False.elim q
 | cont=>
  obtain ⟨_,_,_,q⟩:=hs
  exact False.elim q
end L2
namespace L2
open PySem PySem.Spec PyProof.Rows
section
variable {X:Cx} {x:Str} {p pos:Pos} {e:Expr} {es:List Expr} {t:TA} {id T:String} {r:List V->Hp->VK->Prop}
abbrev tCB (r:List V->Hp->VK->Prop) (t:TA):TE:=fun σ H Q=>t σ H fun vs H1=>r vs H1 Q
theorem lB (hc:jR X (.builtin id) r) (hg:Gl X x) (hm:X.mg x=none) (hv:bootBuiltins x=some (.builtin id)) (ha:PA X (e::es) t) (hn:x ≠ "__name__" := by decide) (hdb:(x==("__debug__" : Str))=false:=by decide)
  (he:starEach (e::es) X.env=(false,eval e X.env)::starEach es X.env:=by rfl) (hpl:(backTo pos (starEach es X.env)).any (·.1)=false:=by rfl):PE X (.Call (.Name x p) (e::es) [] pos) (tCB r t):=by
 intro pins s σ H Q I h
 refine wpAny_Call_Name_kw (iT I hg hm hv ?_ hn hdb)
 exact PyProof.Rows.callWith_builtin1 (thn (ha pos pins s σ H _ I h) fun us s1 ⟨vs,H1,I1,r1,q1⟩=>hc pins s1 σ H1 vs us Q I1 r1 q1) he hpl
theorem tK (hc:jR X (.type T) r) (hg:Gl X x) (hm:X.mg x=none) (hv:bootBuiltins x=some (.type T)) (ha:PA X (e::es) t) (hn:x ≠ "__name__" := by decide) (hdb:(x==("__debug__" : Str))=false:=by decide)
  (he:starEach (e::es) X.env=(false,eval e X.env)::starEach es X.env:=by rfl) (hpl:(backTo pos (starEach es X.env)).any (·.1)=false:=by rfl):PE X (.Call (.Name x p) (e::es) [] pos) (tCB r t):=by
 intro pins s σ H Q I h
 refine wpAny_Call_Name_kw (iT I hg hm hv ?_ hn hdb)
 exact PyProof.Rows.callWith_type1 (thn (ha pos pins s σ H _ I h) fun us s1 ⟨vs,H1,I1,r1,q1⟩=>hc pins s1 σ H1 vs us Q I1 r1 q1) he hpl
end
end L2
namespace HT
open PySem PyProof.Rows
section
open PySem.SeqAt
open PySem.AutoSeq1 (wpAny_loadPart')
open PySem.MeetsSeq PySem.MeetsSeq2 PySem.MeetsSeq3
end
section
variable {prog:Program} {w:World} {A:Around} {E:Value->Shared->Prop} {s:Shared}
theorem cat_tup {t b:Addr} {vs ws:List Value} {Q:Value->Shared->Prop} (ht:IsTup s.heap t vs.toArray) (hb:IsTup s.heap b ws.toArray) (hv:vs≠[])
  (h1:ws=[]->Q (.ref t) s) (h2:ws≠[]->Q (.ref s.heap.objs.size) { s with heap:=s.heap.push { cls:=.type "tuple", data:=.seq (vs++ws).toArray } })
  (hsz:vs.length+ws.length<=sizeLine):wpAny (model prog w) A (binaryOp .Add (.ref t) (.ref b)) Q E s:=by
 obtain ⟨⟨cls,dd,data,sl⟩,ho,hc,n,hd⟩:=id ht
 obtain ⟨⟨cls2,dd2,data2,sl2⟩,ho2,hc2,n2,hd2⟩:=id hb
 simp only at hc hd hc2 hd2
 subst hc hd hc2 hd2
 have e:vs.toArray++ws.toArray=(vs++ws).toArray:=by simp
 by_cases hw:ws=[]
 ·exact concat_meets ⟨_,ho,rfl⟩ ⟨_,ho2,rfl⟩ noFill_tuple_add seq_tuple_add PySem.F.slot_tuple_add PySem.F.entry_tuple_add (PySem.F.args_tuple_add_2 _ _)
   (tuple_addW1 t b vs.toArray ws.toArray n n2 dd dd2 sl sl2 (by simpa using hv) (by simp [hw])) ⟨ho,ho2,h1 hw⟩
 ·refine concat_meets ⟨_,ho,rfl⟩ ⟨_,ho2,rfl⟩ noFill_tuple_add seq_tuple_add PySem.F.slot_tuple_add PySem.F.entry_tuple_add (PySem.F.args_tuple_add_2 _ _)
   (tuple_addW2 t b vs.toArray ws.toArray n n2 dd dd2 sl sl2 (by simpa using hv) (by simpa using hw) (by rw [List.size_toArray,List.size_toArray];exact hsz)) ⟨ho,ho2,?_⟩
  rw [e]
  exact h2 hw
def sIx (n d:Nat):Option Int->Nat
 | none=>d
 | some v=>if v < 0 then (v+(n:Int)).toNat else min v.toNat n
theorem zHd (n d:Nat) (hd:d<=n) (o:Option Int):sIx n d o<=n:=by
 cases o with
 | none=>exact hd
 | some v=>
  show (if v < 0 then (v+(n:Int)).toNat else min v.toNat n)<=n
  by_cases hv:v < 0
  ·rw [if_pos hv];omega
  ·rw [if_neg hv];exact Nat.min_le_right _ _
theorem zAT (v:Int) (n d:Nat):(if v < 0 then max (v+(n:Int)) 0 else min v (n:Int))=((sIx n d (some v):Nat):Int):=by
 show (if v < 0 then max (v+(n:Int)) 0 else min v (n:Int))=(((if v < 0 then (v+(n:Int)).toNat else min v.toNat n):Nat):Int)
 by_cases hv:v < 0
 ·simp only [if_pos hv];omega
 ·simp only [if_neg hv];omega
theorem yQ (lo hi:Option Int) (n:Nat):Builtin.Slice.sliceAdjust lo hi 1 (n:Int)=(((sIx n 0 lo:Nat):Int),((sIx n n hi:Nat):Int)):=by
 have h1:¬ ((1:Int) < 0):=by omega
 unfold Builtin.Slice.sliceAdjust
 simp only [h1,if_false]
 refine Prod.ext ?_ ?_
 ·cases lo with
  | none=>rfl
  | some v=>exact zAT v n 0
 ·cases hi with
  | none=>rfl
  | some v=>exact zAT v n n
theorem yK (i j:Nat):Builtin.Slice.slicePlaces (i:Int) (j:Int) 1=j - i:=by
 unfold Builtin.Slice.slicePlaces
 have h1:(1:Int) > 0:=by omega
 simp only [h1,if_true,Int.ediv_one]
 split<;>omega
theorem oM {v:Value} {o:Option Int} {Q:Option Int->Shared->Prop} (p:IsPart v o) (h:Q o s):wpAny (model prog w) A (Builtin.Slice.slicePartIndex v) Q E s:=by
 cases p with
 | none=>exact slicePart_none h
 | int i t=>exact slicePart_int h
theorem sliceApplied_gen {sl:Addr} {vl vu:Value} {lo hi:Option Int} {n:Nat} {Q:Int×Int×Nat->Shared->Prop} (hs:s.heap.IsSliceOf sl vl vu .none) (pl:IsPart vl lo) (pu:IsPart vu hi)
  (h:Q (((sIx n 0 lo:Nat):Int),1,sIx n n hi - sIx n 0 lo) s):wpAny (model prog w) A (Builtin.Slice.sliceApplied (.ref sl) (pure (n:Int))) Q E s:=by
 obtain ⟨os,hos,hcs,hds⟩:=id hs
 unfold Builtin.Slice.sliceApplied Builtin.Slice.sliceFields
 refine wpAny_bind (wpAny_bind (wpAny_field hos hds (x:=vl) rfl (wpAny_bind (wpAny_field hos hds (x:=vu) rfl (wpAny_bind (wpAny_field hos hds (x:=.none) rfl (wpAny_pure ?_)))))))
 refine wpAny_bind (slicePart_none ?_)
 show wpAny _ _ (if ((1:Int)==0)=true then _ else _) _ _ s
 rw [if_neg (by decide)]
 refine wpAny_bind (oM pl (wpAny_bind (oM pu (wpAny_bind (wpAny_pure ?_)))))
 show wpAny _ _ (match Builtin.Slice.sliceAdjust lo hi 1 (n:Int) with | (lo,hi)=>pure (lo,(1:Int),Builtin.Slice.slicePlaces lo hi 1)) _ _ s
 rw [yQ lo hi n]
 show wpAny _ _ (pure (((sIx n 0 lo:Nat):Int),(1:Int),Builtin.Slice.slicePlaces ((sIx n 0 lo:Nat):Int) ((sIx n n hi:Nat):Int) 1)) _ _ s
 rw [yK]
 exact wpAny_pure h
theorem zCp (xs:Array Value) (i k:Nat):((List.range k).filterMap fun (m:Nat)=>xs[((i:Int)+(m:Int) * 1).toNat]?).toArray=((xs.toList.drop i).take k).toArray:=by
 have e:(fun (m:Nat)=>xs[((i:Int)+(m:Int) * 1).toNat]?)=fun m=>xs[i+m]?:=by
  funext m
  have:((i:Int)+(m:Int) * 1).toNat=i+m:=by omega
  rw [this]
 rw [e]
 have:=pick_run xs i k
 rw [List.filterMap_map] at this
 have e2:((fun x=>xs[x]?) ∘ fun x=>i+x)=fun m=>xs[i+m]?:=rfl
 rw [e2] at this
 rw [this]
theorem getItem_tuple_cut {t sl:Addr} {items:Array Value} {vl vu:Value} {lo hi:Option Int} {Q:Value->Shared->Prop} (ht:IsTup s.heap t items) (hs:s.heap.IsSliceOf sl vl vu .none) (pl:IsPart vl lo) (pu:IsPart vu hi)
  (hw:¬ (sIx items.size 0 lo=0/\sIx items.size items.size hi=items.size))
  (h:Q (.ref s.heap.objs.size) { s with heap:=s.heap.push { cls:=.type "tuple", data:=.seq ((items.toList.drop (sIx items.size 0 lo)).take (sIx items.size items.size hi - sIx items.size 0 lo)).toArray } })
  (hsz:items.size<=sizeLine):wpAny (model prog w) A (getItem (.ref t) (.ref sl)) Q E s:=by
 have htake:sizeOk (.seq ((items.toList.drop (sIx items.size 0 lo)).take (sIx items.size items.size hi - sIx items.size 0 lo)).toArray):=by
  show ((items.toList.drop (sIx items.size 0 lo)).take (sIx items.size items.size hi - sIx items.size 0 lo)).toArray.size<=sizeLine
  rw [List.size_toArray,List.length_take,List.length_drop,Array.length_toList]
  omega
 have hj:sIx items.size items.size hi<=items.size:=zHd _ _ (Nat.le_refl _) hi
 obtain ⟨os,hos,hcs,hds⟩:=id hs
 have hTs:s.TypeIs (.ref sl) "slice" := ⟨os,hos,hcs⟩
 unfold getItem
 try with_reducible refine wpAny_holding ?_
 first | refine wpAny_bind (wpAny_pure ?_) | skip
 refine wpAny_bind (wpAny_sequenceKey ht.typeIs (by decide) ?_)
 refine wpAny_bind (wpAny_callSpecial?_slot (name:=Str.ofString "__getitem__") ht.typeIs PyProof.Rows.slot_tuple_getitem
  (wpAny_call_entry PyProof.Rows.slot_tuple_getitem ht.typeIs entry_tuple_getitem ?_ (args_tuple_getitem _ _)))
 show wpAny _ _ (Builtin.Tuple.tupleItemsOf (.ref t) >>= _) _ _ s
 refine wpAny_bind (tupleItemsOf_ ht ?_)
 refine wpAny_bind (wpAny_typeOf hTs ?_)
 rw [if_pos (by decide)]
 refine wpAny_bind (sliceApplied_gen hs pl pu ?_)
 have hno:¬ ((((sIx items.size 0 lo:Nat):Int)==0 && (1:Int)==1 && (sIx items.size items.size hi - sIx items.size 0 lo)==items.size)=true):=by
  intro q
  rw [Bool.and_eq_true,Bool.and_eq_true] at q
  have q1:((sIx items.size 0 lo:Nat):Int)=0:=eq_of_beq q.1.1
  have q2:sIx items.size items.size hi - sIx items.size 0 lo=items.size:=eq_of_beq q.2
  exact hw ⟨by omega,by omega⟩
 show wpAny _ _ (if (((sIx items.size 0 lo:Nat):Int)==0 && (1:Int)==1 && (sIx items.size items.size hi - sIx items.size 0 lo)==items.size)=true then _ else _) _ _ s
 rw [if_neg hno,zCp]
 first
  | exact wpAny_bind (m:=Builtin.Tuple.tupleExact _) (wpAny_newObj_type (wpAny_pure ⟨_,rfl,wpAny_pure h⟩) htake)
  | exact wpAny_bind (m:=Builtin.Tuple.tupleExact _) (wpAny_newObj_type (wpAny_bind (wpAny_pure (wpAny_pure ⟨_,rfl,wpAny_pure h⟩))) htake)
  | exact wpAny_bind (wpAny_bind (m:=Builtin.Tuple.tupleExact _) (wpAny_newObj_type (wpAny_pure (wpAny_pure ⟨_,rfl,wpAny_pure h⟩)) htake))
  | exact wpAny_bind (wpAny_bind (m:=Builtin.Tuple.tupleExact _) (wpAny_newObj_type (wpAny_pure ⟨_,rfl,wpAny_pure h⟩) htake))
end
end HT
namespace L2
open PySem PySem.Spec PyProof.Rows
abbrev TO:=St->Hp->(Option Int->Hp->Prop)->Prop
def PO (X:Cx) (e:Option Expr) (t:TO):Prop:=
 ∀ (pins:List (Addr×Obj)) (s:Shared) (σ:St) (H:Hp) (Q:Option Int->Hp->Prop),Inv X pins σ H s->t σ H Q->
  wpAny (model X.prog X.w) X.A (evalPart e X.env) (fun u s'=>∃ o H',Inv X pins σ H' s'/\IsPart u o/\Q o H') X.xe s
abbrev zEs:TO:=fun _ H Q=>Q none H
abbrev zJp (t:TE):TO:=fun σ H Q=>t σ H fun x H1=>∃ i,x=.int i/\Q (some i) H1
section
variable {X:Cx} {e:Expr} {te:TE} {lo hi:Option Expr} {tl th:TO} {pos p2:Pos}
theorem zFw:PO X none zEs:=by
 intro pins s σ H Q I h
 rw [evalPart_none]
 exact wpAny_pure ⟨none,H,I,.none,h⟩
theorem zEW (h:PE X e te):PO X (some e) (zJp te):=by
 intro pins s σ H Q I hw
 rw [evalPart_some]
 refine thn (h pins s σ H _ I hw) fun u s1 ⟨x,H1,I1,r1,q1⟩=>?_
 obtain ⟨i,rfl,q⟩:=q1
 obtain ⟨t,rfl⟩:=r1
 exact ⟨some i,H1,I1,.int i t,q⟩
def SlR (X:Cx) (r:V->Option Int->Option Int->Hp->VK->Prop):Prop:=
 ∀ (pins:List (Addr×Obj)) (s:Shared) (σ:St) (H:Hp) (x:V) (v vl vu:Value) (lo hi:Option Int) (sl:Addr) (Q:VK),Inv X pins σ H s->bU x v->s.heap.IsSliceOf sl vl vu .none->IsPart vl lo->IsPart vu hi->r x lo hi H Q->
  ∃ T id,typeLookup (.type T) "__getitem__" = pure (some (.builtin id))/\s.TypeIs v T/\wpAny (model X.prog X.w) X.A (getItem v (.ref sl)) (EP X pins σ Q) X.xe s
theorem SlR.or {r r':V->Option Int->Option Int->Hp->VK->Prop} (h:SlR X r) (h':SlR X r'):SlR X (fun x lo hi H Q=>r x lo hi H Q∨r' x lo hi H Q):=by
 intro pins s σ H x v vl vu lo hi sl Q I rx hs pl pu q
 rcases q with q | q
 ·exact h pins s σ H x v vl vu lo hi sl Q I rx hs pl pu q
 ·exact h' pins s σ H x v vl vu lo hi sl Q I rx hs pl pu q
abbrev tSl (r:V->Option Int->Option Int->Hp->VK->Prop) (te:TE) (tl th:TO):TE:=fun σ H Q=>te σ H fun x H1=>tl σ H1 fun l H2=>th σ H2 fun u H3=>r x l u H3 Q
theorem wQ {r:V->Option Int->Option Int->Hp->VK->Prop} (hr:SlR X r) (he:PE X e te) (hl:PO X lo tl) (hu:PO X hi th):PE X (.Subscript e (.Slice lo hi none p2) pos) (tSl r te tl th):=by
 intro pins s σ H Q I h
 refine Subscript_ (thn (he pins s σ H _ I h) fun v s1 ⟨x,H1,I1,r1,q1⟩=>?_)
 refine wpAny_Slice (thn (hl pins s1 σ H1 _ I1 q1) fun vl s2 ⟨l,H2,I2,pl,q2⟩=>thn (hu pins s2 σ H2 _ I2 q2) fun vu s3 ⟨u,H3,I3,pu,q3⟩=>?_)
 rw [evalPart_none]
 refine wpAny_pure ?_
 have I4:Inv X pins σ H3 { s3 with heap:=s3.heap.push { cls:=.type "slice", data:=.fields #[vl,vu,.none] } }:=I3.kept (t':=s3.toks) fun b ob q=>Heap.get?_push_of_some _ q
 obtain ⟨T,id,hT,ht,hg⟩:=hr pins { s3 with heap:=s3.heap.push { cls:=.type "slice", data:=.fields #[vl,vu,.none] } } σ H3 x v vl vu l u s3.heap.objs.size Q I4 r1 (Heap.IsSliceOf.new ..) pl pu q3
 show wpAny (model X.prog X.w) X.A (subscriptTail e (.Slice lo hi none p2) v (.ref s3.heap.objs.size)) (EP X pins σ Q) X.xe { s3 with heap:=s3.heap.push { cls:=.type "slice", data:=.fields #[vl,vu,.none] } }
 exact tail_any (ops:=[.ref s3.heap.objs.size,v]) ht hT hg (by with_unfolding_all rfl)
def zBX (xs:List V) (lo hi:Option Int):List V:=(xs.drop (HT.sIx xs.length 0 lo)).take (HT.sIx xs.length xs.length hi - HT.sIx xs.length 0 lo)
theorem mB (xs:List V) (lo hi:Option Int):(zBX xs lo hi).length<=xs.length:=by
 unfold zBX
 rw [List.length_take,List.length_drop]
 omega
def zJX (K:PySem.W.Frag):V->Option Int->Option Int->Hp->VK->Prop:=fun x lo hi H Q=>∃ a xs,x=.ref a/\SqT K H a xs/\
 ¬ (HT.sIx xs.length 0 lo=0/\HT.sIx xs.length xs.length hi=xs.length)/\∀ p,H p=none->Q (.ref p) (upd H p (.tup (zBX xs lo hi)))
theorem zHZ:SlR X (zJX X.K):=by
 intro pins s σ H x v vl vu lo hi sl Q I rx hs pl pu h
 obtain ⟨a,xs,rfl,hx,hw,q⟩:=h
 cases rx
 obtain ⟨its,r,ht,hz⟩:=I.tuple hx
 have hlen:its.toArray.size=xs.length:=by rw [List.size_toArray];exact r.length.symm
 refine ⟨"tuple", _,PyProof.Rows.slot_tuple_getitem.lookup,ht.typeIs,?_⟩
 refine HT.getItem_tuple_cut ht hs pl pu (by rw [hlen];exact hw) ?_ (by rw [hlen];exact hz)
 rw [hlen]
 refine ⟨.ref s.heap.objs.size,_,I.laid (t':=s.toks) (o:=.tup (zBX xs lo hi)) (fun b ob q=>Heap.get?_push_of_some _ q) (Nat.le_refl _) ?_,rfl,q _ (I.hok.fresh (Nat.le_refl _))⟩
 exact ⟨Nat.le_trans (mB xs lo hi) hz,_,(r.drop (HT.sIx xs.length 0 lo)).take (HT.sIx xs.length xs.length hi - HT.sIx xs.length 0 lo),IsTup.new _ _⟩
def zHC (K:PySem.W.Frag):R2:=fun x y H Q=>∃ a b xs ys,x=.ref a/\y=.ref b/\SqT K H a xs/\SqT K H b ys/\xs≠[]/\xs.length+ys.length<=sizeLine/\
 (ys=[]->Q (.ref a) H)/\(ys≠[]->∀ p,H p=none->Q (.ref p) (upd H p (.tup (xs++ys))))
theorem cG.nil_iff {xs:List V} {us:List Value} (r:cG xs us):us=[] ↔ xs=[]:=by
 cases r with
 | nil=>simp
 | cons _ _=>simp
theorem zES:OpR X (binaryOp .Add) (zHC X.K):=by
 intro pins s σ H x y v u Q I rx ry h
 obtain ⟨a,b,xs,ys,rfl,rfl,ha,hb,hx,hz,q1,q2⟩:=h
 cases rx
 cases ry
 obtain ⟨its,r1,p1,_⟩:=I.tuple ha
 obtain ⟨its2,r2,p2,_⟩:=I.tuple hb
 refine HT.cat_tup p1 p2 (fun z=>hx (r1.nil_iff.mp z)) (fun z=>⟨.ref a,H,I,rfl,q1 (r2.nil_iff.mp z)⟩) (fun z=>?_) (by rw [<-r1.length,<-r2.length];exact hz)
 refine ⟨.ref s.heap.objs.size,_,I.laid (t':=s.toks) (o:=.tup (xs++ys)) (fun b ob q=>Heap.get?_push_of_some _ q) (Nat.le_refl _) ?_,rfl,q2 (fun w=>z (r2.nil_iff.mpr w)) _ (I.hok.fresh (Nat.le_refl _))⟩
 exact ⟨by rw [List.length_append];exact hz,_,r1.append r2,IsTup.new _ _⟩
end
end L2
namespace L2
open PySem PySem.Spec PyProof.Rows
def ixN (n:Nat) (i:Int):Option Nat:=if 0<=i then (if i < n then some i.toNat else none) else if -(n:Int)<=i then some (i+n).toNat else none
def atI {α:Type} (xs:List α) (i:Int):Option α:=(ixN xs.length i).bind fun j=>xs[j]?
theorem zEV {n:Nat} {i:Int} {j:Nat} (h:ixN n i=some j):seqIndex? i n=some j/\j < n/\-(n:Int)<=i/\i < n:=by
 unfold ixN at h
 by_cases h0:0<=i
 ·rw [if_pos h0] at h
  by_cases h1:i < n
  ·rw [if_pos h1] at h
   have e:i.toNat=j:=Option.some.inj h
   exact ⟨by rw [seqIndex_of h0 h1,e],by omega,by omega,h1⟩
  ·rw [if_neg h1] at h;cases h
 ·rw [if_neg h0] at h
  by_cases h1:-(n:Int)<=i
  ·rw [if_pos h1] at h
   have e:(i+n).toNat=j:=Option.some.inj h
   exact ⟨by rw [seqIndex_neg (by omega) h1,e],by omega,h1,by omega⟩
  ·rw [if_neg h1] at h;cases h
theorem zAD {α:Type} {xs:List α} {i:Int} {v:α} (h:atI xs i=some v):∃ j,seqIndex? i xs.length=some j/\xs[j]?=some v/\j < xs.length/\-(xs.length:Int)<=i/\i < xs.length:=by
 unfold atI at h
 cases e:ixN xs.length i with
 | none=>rw [e] at h;cases h
 | some j=>
  rw [e] at h
  obtain ⟨h1,h2,h3,h4⟩:=zEV e
  exact ⟨j,h1,h,h2,h3,h4⟩
theorem uT {α:Type} {xs:List α} {j:Nat} {v:α} (h:xs[j]?=some v):atI xs (j:Int)=some v:=by
 have hj:j < xs.length:=(List.getElem?_eq_some_iff.mp h).1
 have e:ixN xs.length (j:Int)=some j:=by
  unfold ixN
  rw [if_pos (by omega),if_pos (by omega)];simp
 unfold atI;rw [e];exact h
def zBv (b:Expr):Prop:=∀ o i,subscripted b false o i=operate [o,i] (getItem o i)
def IxR (X:Cx) (r:R2):Prop:=
 ∀ (value slice:Expr) (pins:List (Addr×Obj)) (s:Shared) (σ:St) (H:Hp) (x y:V) (v u:Value) (Q:VK),Inv X pins σ H s->bU x v->bU y u->r x y H Q->
  subscripted slice false v u=operate [v,u] (getItem v u)->wpAny (model X.prog X.w) X.A (subscriptTail value slice v u) (EP X pins σ Q) X.xe s
def MtR (X:Cx) (id:String) (r:V->List V->Hp->VK->Prop):Prop:=
 ∀ (pins:List (Addr×Obj)) (s:Shared) (σ:St) (H:Hp) (x:V) (xs:List V) (v:Value) (us:List Value) (Q:VK),Inv X pins σ H s->bU x v->cG xs us->r x xs H Q->
  wpAny (model X.prog X.w) X.A (call (.builtin id) (v::us)) (EP X pins σ Q) X.xe s
section
variable {X:Cx} {a b:Expr} {ta tb:TE} {pos:Pos}
theorem IxR.or {r r':R2} (h:IxR X r) (h':IxR X r'):IxR X (fun x y H Q=>r x y H Q∨r' x y H Q):=by
 intro value slice pins s σ H x y v u Q I rx ry q hs
 rcases q with q | q
 ·exact h value slice pins s σ H x y v u Q I rx ry q hs
 ·exact h' value slice pins s σ H x y v u Q I rx ry q hs
theorem zAY {r:R2} (hr:IxR X r) (ha:PE X a ta) (hb:PE X b tb) (hs:zBv b):PE X (.Subscript a b pos) (tOp r ta tb):=by
 intro pins s σ H Q I h
 exact Subscript_ (zIp ha hb I h fun v u s2 x y H2 I2 rx ry q=>hr a b pins s2 σ H2 x y v u Q I2 rx ry q (hs _ _))
def zIy (K:PySem.W.Frag):R2:=fun x y H Q=>∃ p xs i v,x=.ref p/\y=.int i/\SqL K H p xs/\atI xs i=some v/\Q v H
def zIg (K:PySem.W.Frag):R2:=fun x y H Q=>∃ p xs i v,x=.ref p/\y=.int i/\SqT K H p xs/\atI xs i=some v/\Q v H
theorem zEJ:IxR X (zIy X.K):=by
 intro value slice pins s σ H x y v u Q I rx ry h hs
 obtain ⟨p,xs,i,z,rfl,rfl,hq,he,q⟩:=h
 cases rx
 obtain ⟨t,rfl⟩:=ry
 obtain ⟨its,r,pl,hz⟩:=I.list hq
 obtain ⟨j,h1,h2,h3,h4,h5⟩:=zAD he
 obtain ⟨w,ew,rw'⟩:=r.get h2
 have hl:=r.length
 have hn:=wV
 have fin:EP X pins σ Q w s:=⟨z,H,I,rw',q⟩
 by_cases h0:0<=i
 ·have hj:i.toNat=j:=by
   rw [seqIndex_of h0 h5] at h1
   exact Option.some.inj h1
  exact item_listR pl.isList h0 (by omega) (by rw [hj];simpa using ew) fin hs
 ·have hj:(i+(its.toArray.size:Int)).toNat=j:=by
   rw [seqIndex_neg (by omega) h4] at h1
   rw [List.size_toArray,<-hl]
   exact Option.some.inj h1
  exact subscriptTail_builtinR (x:=w) pl.isList.typeIs slot_list_getitem.lookup
   (wpAny_getItem_list_neg (Q:=fun r s'=>r=w/\EP X pins σ Q r s') pl.isList (by omega) (by rw [List.size_toArray]<;>omega) (by omega) (by rw [hj];simpa using ew) ⟨rfl,fin⟩) hs
theorem zGV:IxR X (zIg X.K):=by
 intro value slice pins s σ H x y v u Q I rx ry h hs
 obtain ⟨p,xs,i,z,rfl,rfl,hq,he,q⟩:=h
 cases rx
 obtain ⟨t,rfl⟩:=ry
 obtain ⟨its,r,pl,hz⟩:=I.tuple hq
 obtain ⟨j,h1,h2,h3,h4,h5⟩:=zAD he
 obtain ⟨w,ew,rw'⟩:=r.get h2
 have hl:=r.length
 have hn:=wV
 have fin:EP X pins σ Q w s:=⟨z,H,I,rw',q⟩
 exact subscriptTail_builtinR (x:=w) pl.typeIs slot_tuple_getitem.lookup
  (getItem_tuple (j:=j) (Q:=fun r s'=>r=w/\EP X pins σ Q r s') pl (by omega) (by omega) (by rw [List.size_toArray,<-hl];exact h1) (by simpa using ew) ⟨rfl,fin⟩) hs
theorem tV (lo hi:Option Int) (n:Nat):(sliceBounds lo hi none n).1=((HT.sIx n 0 lo:Nat):Int)/\(sliceBounds lo hi none n).2.1=((HT.sIx n n hi:Nat):Int)/\(sliceBounds lo hi none n).2.2=1:=by
 refine ⟨?_,?_,rfl⟩
 ·cases lo with
  | none=>simp [sliceBounds,HT.sIx]
  | some i=>
   simp only [sliceBounds,HT.sIx,Option.getD_none,show (1:Int) > 0 by decide,if_true]
   by_cases h:i < 0
   ·simp only [h,if_true]<;>omega
   ·simp only [h,if_false]<;>omega
 ·cases hi with
  | none=>simp [sliceBounds,HT.sIx]
  | some i=>
   simp only [sliceBounds,HT.sIx,Option.getD_none,show (1:Int) > 0 by decide,if_true]
   by_cases h:i < 0
   ·simp only [h,if_true]<;>omega
   ·simp only [h,if_false]<;>omega
theorem qI (its:List Value) (lo hi:Option Int):slicePick its.toArray lo hi none=((its.drop (HT.sIx its.length 0 lo)).take (HT.sIx its.length its.length hi - HT.sIx its.length 0 lo)).toArray:=by
 obtain ⟨h1,h2,h3⟩:=tV lo hi its.toArray.size
 unfold slicePick
 rw [h1,h2,h3]
 simp only [sliceRange_one,pick_run,List.size_toArray]<;>rfl
def zJQ (K:PySem.W.Frag):V->Option Int->Option Int->Hp->VK->Prop:=fun x lo hi H Q=>∃ a xs,x=.ref a/\SqL K H a xs/\∀ p,H p=none->Q (.ref p) (upd H p (.lst (zBX xs lo hi)))
theorem zAQ:SlR X (zJQ X.K):=by
 intro pins s σ H x v vl vu lo hi sl Q I rx hs pl pu h
 obtain ⟨a,xs,rfl,hx,q⟩:=h
 cases rx
 obtain ⟨its,r,ht,hz⟩:=I.list hx
 have hlen:=r.length
 refine ⟨"list", _,slot_list_getitem.lookup,ht.isList.typeIs,?_⟩
 refine wpAny_getItem_list_slice ht.isList hs pl pu .none (by simp) ?_ (by rw [List.size_toArray]<;>omega)
 rw [qI,<-hlen]
 refine ⟨.ref s.heap.objs.size,_,I.laid (t':=s.toks) (o:=.lst (zBX xs lo hi)) (fun b ob q=>Heap.get?_push_of_some _ q) (Nat.le_refl _) ?_,rfl,q _ (I.hok.fresh (Nat.le_refl _))⟩
 exact ⟨Nat.le_trans (mB xs lo hi) hz,_,0,(r.drop (HT.sIx xs.length 0 lo)).take (HT.sIx xs.length xs.length hi - HT.sIx xs.length 0 lo),Heap.get?_push_size _ rfl⟩
theorem aK:jR X (.builtin "len") (fun xs H Q=>∃ p ys,xs=[.ref p]/\(SqL X.K H p ys∨SqT X.K H p ys)/\Q (.int ys.length) H):=by
 intro pins s σ H xs us Q I r h
 obtain ⟨p,ys,rfl,hq,q⟩:=h
 obtain ⟨u,rfl,rx⟩:=sN r
 cases rx
 have hn:=wV
 rcases hq with hq | hq
 ·obtain ⟨its,r',pl,hz⟩:=I.list hq
  have hlen:=r'.length
  exact Calls.call_len_list pl.isList (by simp only [List.size_toArray]<;>omega) ⟨.int ys.length,H,I.tok _,⟨s.toks+1,by rw [List.size_toArray,hlen]⟩,q⟩
 ·obtain ⟨its,r',pl,hz⟩:=I.tuple hq
  have hlen:=r'.length
  exact len_tuple pl (by simp only [List.size_toArray]<;>omega) ⟨.int ys.length,H,I.tok _,⟨s.toks+1,by rw [List.size_toArray,hlen]⟩,q⟩
theorem tH:jR X (.type "list") (fun xs H Q=>∃ p ys,xs=[.ref p]/\(SqL X.K H p ys∨SqT X.K H p ys)/\∀ l,H l=none->Q (.ref l) (upd H l (.lst ys))):=by
 intro pins s σ H xs us Q I r h
 obtain ⟨p,ys,rfl,hq,q⟩:=h
 obtain ⟨u,rfl,rx⟩:=sN r
 cases rx
 have fin:∀ (its:List Value),cG ys its->ys.length<=sizeLine->∀ (h':Heap) (c':Nat),(∀ b o',s.heap.get? b=some o'->h'.get? b=some o')->
   h'.get? s.heap.objs.size=some { cls:=.type "list", dict:=none,data:=.seq its.toArray c',slots:=#[] }->EP X pins σ Q (.ref s.heap.objs.size) { s with heap:=h' }:=fun its r' hz h' c' kp e=>
  ⟨.ref s.heap.objs.size,_,I.laid (t':=s.toks) kp (Nat.le_refl _) (show fT X.prog X.w _ h' _ (.lst ys) from ⟨hz,its,c',r',e⟩),rfl,q _ (I.hok.fresh (Nat.le_refl _))⟩
 rcases hq with hq | hq
 ·obtain ⟨its,r',pl,hz⟩:=I.list hq
  have hlen:=r'.length
  obtain ⟨o,ho,hc,n,hd⟩:=pl.isList
  exact call_list_seq p (.inl rfl) ho hc hd (fun h' c' kp e=>fin its r' hz h' c' kp e) (by simp only [List.size_toArray]<;>omega)
 ·obtain ⟨its,r',pl,hz⟩:=I.tuple hq
  have hlen:=r'.length
  obtain ⟨o,ho,hc,n,hd⟩:=pl
  exact call_list_seq p (.inr rfl) ho hc hd (fun h' c' kp e=>fin its r' hz h' c' kp e) (by simp only [List.size_toArray]<;>omega)
theorem fR:jR X (.type "tuple") (fun xs H Q=>∃ p ys,xs=[.ref p]/\((SqL X.K H p ys/\∀ l,H l=none->Q (.ref l) (upd H l (.tup ys)))∨(SqT X.K H p ys/\Q (.ref p) H))):=by
 intro pins s σ H xs us Q I r h
 obtain ⟨p,ys,rfl,h⟩:=h
 obtain ⟨u,rfl,rx⟩:=sN r
 cases rx
 rcases h with ⟨hq,q⟩ | ⟨hq,q⟩
 ·obtain ⟨its,r',pl,hz⟩:=I.list hq
  have hlen:=r'.length
  refine call_tuple_list pl.isList (fun h' kp=>?_) (by simp only [List.size_toArray]<;>omega)
  have I1:Inv X pins σ H { s with heap:=h' }:=I.kept (t':=s.toks) kp
  have I2:Inv X pins σ (upd H h'.objs.size (.tup ys)) { s with heap:=h'.push { cls:=.type "tuple", data:=.seq its.toArray } }:=
   I1.laid (t':=s.toks) (fun b o e=>Heap.get?_push_of_some _ e) (Nat.le_refl _) (show fT X.prog X.w _ _ _ (.tup ys) from ⟨hz,its,r',IsTup.new _ _⟩)
  exact ⟨.ref h'.objs.size,_,I2,rfl,q _ (I1.hok.fresh (Nat.le_refl _))⟩
 ·obtain ⟨its,r',pl,hz⟩:=I.tuple hq
  exact call_tuple_same pl ⟨.ref p,H,I,rfl,q⟩
def tyV (K:PySem.W.Frag) (T:String) (x:V) (H:Hp):Prop:=match x with
 | .str _=>T = "str"
 | .int _=>T = "int"
 | .ref p=>(T = "list" /\ ∃ xs,SqL K H p xs)∨(T = "tuple" /\ ∃ o,K.lookup p=some o/\o.cls=.type "tuple" /\ o.dict=none)∨
   (T = "dict" /\ ((∃ kvs,H p=some (.dK kvs))∨∃ kvs,H p=some (.dT kvs)))∨(T = "set" /\ ∃ S n,H p=some (.set S n))
 | _=>False
theorem zHQ {pins:List (Addr×Obj)} {σ:St} {H:Hp} {s:Shared} {T:String} {x:V} {v:Value} (I:Inv X pins σ H s) (r:bU x v) (ty:tyV X.K T x H):
  s.TypeIs v T/\∀ a,v=.ref a->∃ ob,s.heap.get? a=some ob/\ob.dict=none:=by
 cases x with
 | str z=>
  obtain ⟨t,rfl⟩:=r
  cases (show T = "str" from ty)
  exact ⟨typeIs_str s z t,fun _ e=>nomatch e⟩
 | int i=>
  obtain ⟨t,rfl⟩:=r
  cases (show T = "int" from ty)
  exact ⟨typeIs_int s i t,fun _ e=>nomatch e⟩
 | ref p=>
  cases r
  rcases ty with ⟨rfl,xs,hq⟩ | ⟨rfl,o,hk,hc,hd⟩ | ⟨rfl,hk⟩ | ⟨rfl,S,n,hk⟩
  ·obtain ⟨its,_,pl,_⟩:=I.list hq
   refine ⟨pl.isList.typeIs,fun a e=>?_⟩
   cases e
   obtain ⟨o,n,e,c,hd,_⟩:=pl
   exact ⟨o,e,hd⟩
  ·refine ⟨⟨o,I.kIn p o hk,hc⟩,fun a e=>?_⟩
   cases e
   exact ⟨o,I.kIn _ o hk,hd⟩
  ·have z:∃ o,s.heap.get? p=some o/\o.ExactDict:=by
    rcases hk with ⟨kvs,hk⟩ | ⟨kvs,hk⟩
    ·obtain ⟨_,_,_,_,o,_,_,e,ex,_⟩:=I.hok p _ hk
     exact ⟨o,e,ex⟩
    ·obtain ⟨_,_,_,_,o,_,_,e,ex,_⟩:=I.hok p _ hk
     exact ⟨o,e,ex⟩
   obtain ⟨o,e,ex⟩:=z
   refine ⟨⟨o,e,ex.1⟩,fun a e2=>?_⟩
   cases e2
   exact ⟨o,e,ex.2.1⟩
  ·obtain ⟨o,_,_,_,e,ex,_⟩:=I.hok p _ hk
   refine ⟨⟨o,e,ex.1⟩,fun a e2=>?_⟩
   cases e2
   exact ⟨o,e,ex.2.1⟩
 | _=>exact False.elim ty
abbrev tBM (K:PySem.W.Frag) (T:String) (r:V->List V->Hp->VK->Prop) (to:TE) (t:TA):TE:=fun σ H Q=>to σ H fun x H1=>tyV K T x H1/\t σ H1 fun xs H2=>r x xs H2 Q
variable {o e:Expr} {es:List Expr} {to:TE} {t:TA} {name:Str} {apos cpos:Pos} {T id:String} {r:V->List V->Hp->VK->Prop}
theorem zFL (pa:PlainAttrs T) (slot:Slot T name id) (hty:typeOf (.builtin id)=pure (.type "method_descriptor")) (hm:MtR X id r) (ho:PE X o to) (ha:PA X (e::es) t)
  (hbase:attributeBase o name X.env (eval o X.env)=eval o X.env:=by rfl)
  (hfew:((backTo cpos (starEach (e::es) X.env)).all (fun x=>!x.1) && (backToKw cpos (keywordEach [] X.env)).all (fun x=>x.1.isSome)
   && decide ((e::es).length+([]:List Keyword).length+(if ([]:List Keyword).isEmpty then 0 else 1) < 30))=true:=by rfl)
  (hline:(apos.endLine==cpos.line)=true:=by rfl) (hs:starEach (e::es) X.env=(false,eval e X.env)::starEach es X.env:=by rfl) (hplain:(backTo cpos (starEach es X.env)).any (·.1)=false:=by rfl):
  PE X (.Call (.Attribute o name apos) (e::es) [] cpos) (tBM X.K T r to t):=by
 intro pins s σ H Q I h
 refine wpAny_Call_method_late hbase hfew hline rfl (thn (ho pins s σ H _ I h) fun v s1 ⟨x,H1,I1,r1,ty,q1⟩=>?_)
 obtain ⟨h1,h2⟩:=zHQ I1 r1 ty
 refine ⟨T,id,pa,slot,hty,h1,h2,?_⟩
 have hA:=ha cpos pins s1 σ H1 _ I1 q1
 rw [hs] at hA ⊢
 refine Calls.callWith_builtin (by show (false || (backTo cpos (starEach es X.env)).any (·.1))=false;rw [hplain]<;>rfl) (Calls.evalArgs_plain ?_)
 exact thn hA fun us s2 ⟨vs,H2,I2,r2,q2⟩=>hm pins s2 σ H2 x vs v us Q I2 r1 r2 q2
end
end L2
namespace L2
open PySem PySem.Spec PyProof.Rows
def MtM (X:Cx) (id:String) (r:V->List V->Hp->VK->Prop):Prop:=
 ∀ (pins:List (Addr×Obj)) (s:Shared) (σ:St) (H:Hp) (x:V) (xs:List V) (v:Value) (us:List Value) (Q:VK),Inv X pins σ H s->bU x v->cG xs us->r x xs H Q->
  wpAny (model X.prog X.w) X.A (call (.builtin id) (v::us)) (EP X pins σ Q) X.xe s
theorem cG.one:∀ {x:V} {us:List Value},cG [x] us->∃ u,us=[u]/\bU x u
 | _,_,.cons r .nil=>⟨_,rfl,r⟩
theorem cG.rep {xs:List V} {us:List Value} (h:cG xs us):∀ k:Nat,cG (List.replicate k xs).flatten (List.replicate k us).flatten
 | 0=>.nil
 | k+1=>by
  rw [List.replicate_succ,List.replicate_succ,List.flatten_cons,List.flatten_cons]
  exact cG.append h (cG.rep h k)
theorem sX (its:List Value):∀ (k:Nat) (acc:List Value),
  List.foldl (fun x1 x2=>x1++x2) acc.toArray (List.replicate k its.toArray)=(acc++(List.replicate k its).flatten).toArray
 | 0,acc=>by simp
 | k+1,acc=>by
  have e:acc.toArray++its.toArray=(acc++its).toArray:=by simp
  have e2:(acc++its)++(List.replicate k its).flatten=acc++(List.replicate (k+1) its).flatten:=by
   rw [List.replicate_succ,List.flatten_cons,List.append_assoc]
  rw [<-e2,<-sX its k (acc++its),<-e,List.replicate_succ,List.foldl_cons]
section
variable {X:Cx} {pins:List (Addr×Obj)} {σ:St} {H:Hp} {s:Shared} {l b:Addr} {xs ys zs:List V}
theorem Inv.lset {its its':List Value} {n:Nat} {f:Array Value->Array Value} {t':Nat} (I:Inv X pins σ H s) (hH:H l=some (.lst xs))
  (e:s.heap.get? l=some { cls:=.type "list", data:=.seq its.toArray n }) (hf:f its.toArray=its'.toArray) (hv:cG ys its') (hz:ys.length<=sizeLine):
  Inv X pins σ (upd H l (.lst ys)) { s with heap:=s.heap.update l (Obj.mapSeq f),toks:=t' }:=by
 have q:=PySem.IsL.update e f
 rw [hf] at q
 refine I.write (x:=l) (e:=l) (by rw [hH];exact trivial) (.inl rfl) (fun b' u hb hu=>(Heap.get?_update_other s.heap (Obj.mapSeq f) (Ne.symm hb)).trans hu) ⟨_,q⟩ ?_
 exact ⟨hz,its',_,hv,q⟩
theorem Inv.lnew {its:List Value} {t':Nat} (I:Inv X pins σ H s) (hv:cG ys its) (hz:ys.length<=sizeLine):
  Inv X pins σ (upd H s.heap.objs.size (.lst ys)) { s with heap:=s.heap.push { cls:=.type "list", data:=.seq its.toArray },toks:=t' }:=
 I.laid (fun _ _ q=>Heap.get?_push_of_some _ q) (Nat.le_refl _) ⟨hz,its,0,hv,Heap.get?_push_size _ rfl⟩
theorem Inv.fresh (I:Inv X pins σ H s):H s.heap.objs.size=none:=I.hok.fresh (Nat.le_refl _)
theorem Inv.lstM (I:Inv X pins σ H s) (hH:H l=some (.lst xs)):xs.length<=sizeLine/\∃ (its:List Value) (n:Nat),cG xs its/\xs.length=its.length/\s.heap.get? l=some { cls:=.type "list", data:=.seq its.toArray n }:=by
 obtain ⟨z,its,n,r,e⟩:=I.hok l _ hH
 exact ⟨z,its,n,r,r.length,e⟩
theorem vQ {n:Nat} (h:n<=sizeLine):Builtin.List.listTooLong n=false:=by
 unfold Builtin.List.listTooLong
 exact decide_eq_false (by omega)
end
section
variable {X:Cx}
def zEc:V->List V->Hp->VK->Prop:=fun x vs H Q=>∃ l xs y,x=.ref l/\vs=[y]/\H l=some (.lst xs)/\xs.length < sizeLine/\Q .non (upd H l (.lst (xs++[y])))
theorem lT:MtM X "list.append" zEc:=by
 intro pins s σ H x vs v us Q I rx rv h
 obtain ⟨l,xs,y,rfl,rfl,hH,hz,q⟩:=h
 cases rx
 obtain ⟨u,rfl,ru⟩:=rv.one
 obtain ⟨z,its,n,r,hl,e⟩:=I.lstM hH
 refine call_meets F.slot_list_append ⟨_,e,rfl⟩ F.entry_list_append (F.args_list_append_2 _ _) (PySem.list_append l its.toArray n u (by rw [List.size_toArray];omega)) ⟨e,?_⟩
 refine ⟨.non,_,I.lset (its':=its++[u]) hH e (by simp) (r.append (.cons ru .nil)) ?_,rfl,q⟩
 rw [List.length_append,List.length_singleton]
 omega
def zEo:V->List V->Hp->VK->Prop:=fun x vs H Q=>∃ l b xs zs,x=.ref l/\vs=[.ref b]/\H l=some (.lst xs)/\H b=some (.lst zs)/\xs.length+zs.length<=sizeLine/\Q .non (upd H l (.lst (xs++zs)))
theorem zAe:MtM X "list.extend" zEo:=by
 intro pins s σ H x vs v us Q I rx rv h
 obtain ⟨l,b,xs,zs,rfl,rfl,hH,hB,hz,q⟩:=h
 cases rx
 obtain ⟨u,rfl,ru⟩:=rv.one
 cases ru
 obtain ⟨z,its,n,r,hl,e⟩:=I.lstM hH
 obtain ⟨z2,its2,n2,r2,hl2,e2⟩:=I.lstM hB
 have hsz:its.toArray.size+its2.toArray.size<=sizeLine:=by rw [List.size_toArray,List.size_toArray];omega
 have hlong:¬ (!its.toArray.isEmpty && Builtin.List.listTooLong (its.toArray.size+its2.toArray.size))=true:=by
  rw [vQ hsz,Bool.and_false]
  exact Bool.false_ne_true
 refine call_meets F.slot_list_extend ⟨_,e,rfl⟩ F.entry_list_extend (F.args_list_extend_2 _ _)
  (AutoSeq1.list_extend_list_list_0 l its.toArray n b its2.toArray n2 hlong (by rw [List.size_toArray];omega) (by omega)) ⟨e,e2,?_⟩
 refine ⟨.non,_,I.lset (its':=its++its2) hH e (by simp) (r.append r2) ?_,rfl,q⟩
 rw [List.length_append]
 omega
def zKg:R2:=fun x y H Q=>∃ l k xs,x=.ref l/\y=.int k/\H l=some (.lst xs)/\-(2^63)<=k/\k < 2^63/\xs.length * k.toNat<=sizeLine/\
 ∀ p,H p=none->Q (.ref p) (upd H p (.lst (List.replicate k.toNat xs).flatten))
theorem zEU {α:Type} (xs:List α) (k:Nat):(List.replicate k xs).flatten.length=k * xs.length:=by
 induction k with
 | zero=>simp
 | succ k ih=>rw [List.replicate_succ,List.flatten_cons,List.length_append,ih,Nat.succ_mul,Nat.add_comm]
theorem zHN:OpR X (binaryOp .Mult) zKg:=by
 intro pins s σ H x y v u Q I rx ry h
 obtain ⟨l,k,xs,rfl,rfl,hH,h1,h2,hz,q⟩:=h
 cases rx
 obtain ⟨t,rfl⟩:=ry
 obtain ⟨z,its,n,r,hl,e⟩:=I.lstM hH
 have hlen:its.toArray.size * k.toNat<=sizeLine:=by rw [List.size_toArray,<-hl];exact hz
 have hcap:¬ its.toArray.size * k.toNat > (2^63 - 1) / 8:=by
  have:(sizeLine:Nat)<=(2^63 - 1) / 8:=by decide
  omega
 have hfit:¬ (!Builtin.List.listFitsIndex k)=true:=by
  rw [fitsIndex_both h1 h2]
  exact Bool.false_ne_true
 have hlong:¬ Builtin.List.listTooLong (its.toArray.size * k.toNat)=true:=by
  rw [vQ hlen]
  exact Bool.false_ne_true
 have hnew:List.foldl (fun x1 x2=>x1++x2) #[] (List.replicate (if its.toArray.isEmpty=true then 0 else k.toNat) its.toArray)=(List.replicate k.toNat its).flatten.toArray:=by
  have f0:∀ m:Nat,List.foldl (fun x1 x2=>x1++x2) #[] (List.replicate m its.toArray)=(List.replicate m its).flatten.toArray:=fun m=>by
   have:=sX its m []
   rw [List.nil_append] at this
   exact this
  rw [f0]
  cases its with
  | nil=>simp
  | cons a r'=>rw [if_neg (by simp)]
 refine wpAny_binaryOp_repeat_ref (T := "list") (U := "int") (by decide) ⟨_,e,rfl⟩ (fun s'=>typeIs_int s' k t) noFill_list_mul F.fills_int_mul F.slot_int_rmul repeat_list F.slot_int_index.lookup
  (call_meets F.slot_int_rmul (typeIs_int s k t) F.entry_int_rmul (F.args_int_rmul_2 _ _) (int___rmul___int_list k t l its.toArray n)
   ⟨e,rfl,⟨_,e,rfl⟩,call_meets F.slot_list_mul ⟨_,e,rfl⟩ F.entry_list_mul (F.args_list_mul_2 _ _) (AutoListH.list___mul___list_int_3 l its.toArray n k t hfit hcap hlong) ⟨e,?_⟩⟩)
 rw [hnew]
 exact ⟨.ref _,_,I.lnew (t':=s.toks) (r.rep k.toNat) (by rw [zEU,Nat.mul_comm];exact hz),rfl,q _ I.fresh⟩
end
section
variable {prog:Program} {w:World} {A:Around} {E:Value->Shared->Prop} {s:Shared}
set_option maxRecDepth 100000 in
end
section
variable {X:Cx}
end
end L2
namespace Att
open PySem PySem.W PySem.Calls PyProof.Rows
theorem lP {P:Params} {h:Heap}:∀ (ns:List Int) (vs:List Value),WellAll P h vs (ns.map WData.int)->IntsAre vs ns:=by
 intro ns
 induction ns with
 | nil=>
  intro vs w
  rw [List.map_nil] at w
  cases w
  exact .nil
 | cons n ns ih=>
  intro vs w
  rw [List.map_cons] at w
  cases w with
  | cons a b=>
   cases a
   exact .cons _ _ (ih _ b)
theorem script_of {l:OpenLaw} {n:Nat} (hn:l.most=some n) {P:Params} {h:Heap} {args:List WData} {vals:List Value}
  (hpre:l.row.toRowW.claim.pre args=true) (hwl:WellAll P h vals args):
  ∃ a vs ns,vals=[Value.ref a]/\args=[WData.list (ns.map WData.int)]/\h.get? a=some { cls:=.type "list", data:=.seq vs.toArray }/\IntsAre vs ns/\ns.length<=n:=by
 have hsh:WShape.hasAll [] args [.list .int]=true:=(pre_splitW hpre).1
 have hc:l.pre.holds [] { args:=args }=true:=(pre_splitW hpre).2
 obtain ⟨d,r,rfl,h1,h2⟩:=hasAllW_cons hsh
 obtain rfl:=hasAllW_nil h2
 obtain ⟨xs,rfl,h3⟩:=hasW_list h1
 obtain ⟨ns,rfl⟩:=items_int h3
 have hlen:ns.length<=n:=by
  unfold OpenLaw.pre at hc
  have h4:(WTm.not (.lt (.lit (.int (n:Int))) (.len (.arg 0)))).holds [] { args:=[.list (ns.map .int)] }=true:=by
   have h4:=(holds_andW hc).1
   rw [hn] at h4
   exact h4
  have h5:=condW_of h4 (w_not (w_lt w_lit (w_len_list (w_arg rfl))))
  rw [List.length_map] at h5
  refine Nat.le_of_not_lt fun q=>?_
  have q':(n:Int) < ((ns.length:Nat):Int):=by omega
  first
   | (rw [decide_eq_true q'] at h5;exact absurd h5 (by decide))
   | (simp at h5;omega)
 cases hwl with
 | cons w1 w2=>
  cases w2
  cases w1 with
  | list ho hall=>exact ⟨_,_,ns,rfl,rfl,ho,lP ns _ hall,hlen⟩
theorem post_true (l:OpenLaw) (args:List WData):l.row.toRowW.claim.post args (.bool true) args=true:=
 postW_of (r:=l.row.toRowW) (X:=(true==true))
  (show WShape.has [] (.bool true) .bool=true by first | rfl | decide | simp [WShape.has,WShape.arms,WShape.armsAll])
  (show (WTm.eq .res (.lit (.bool true))).value [] { args:=args,res:=some (.bool true),after:=args }=some (.bool (true==true)) from w_eq_bool (w_res rfl) w_lit) rfl
section
variable {prog:Program} {w:World} {A:Around} {E:Value->Shared->Prop} {s:Shared} {K:Frag}
end
end Att
namespace L2
open PySem PySem.Spec PyProof.Rows
theorem sK:∀ {vs:List Value} {ns:List Int},IntsAre vs ns->cG (ns.map V.int) vs
 | _,_,.nil=>.nil
 | _,_,.cons n t h=>.cons ⟨t,rfl⟩ (sK h)
def zKm (H:Hp):Prop:=∀ b,H b=none∨∃ o xs,H b=some (.frz o (.lst xs))
end L2
namespace L2
open PySem PySem.Spec PyProof.Rows
end L2
namespace L2
open PySem PySem.Spec PyProof.Rows
def dC (s:Stmt):Arguments:=match s with
 | .FunctionDef _ a _ _ _ _ _ _ _ _=>a
 | _=>{ posonlyargs:=[],args:=[],vararg:=none,kwonlyargs:=[],kw_defaults:=[],kwarg:=none,defaults:=[] }
def bL (s:Stmt):List Stmt:=match s with
 | .FunctionDef _ _ b _ _ _ _ _ _ _=>b
 | _=>[]
def aE (s:Stmt):Scope:=match s with
 | .FunctionDef _ _ _ _ _ _ sc _ _ _=>sc
 | _=>{ kind:=.function,names:=[],isGenerator:=false,isCoroutine:=false }
structure Fun (K:PySem.W.Frag) (x qual:Str) (st:Stmt) (f:Addr) (fd:FuncData):Prop where
 ex:∃ (oc:Value) (od:Option Addr) (kV doc pm:Value) (an:Option Addr) (cdv ct:Value) (osl:Array (Option Value)),
  fd=PySem.W.fnOf x qual (dC st) (bL st) (aE st) .none kV doc pm an cdv ct/\K.lookup f=some ⟨oc,od,.func fd,osl⟩/\PySem.W.codeIn K cdv qual=true
 kp:PySem.W.keepIn K (.ref f)=true
section
variable {P:Program} {w:World} {K:PySem.W.Frag} {mg:Str->Option Value} {base:Heap}
theorem Fun.binds {x qual:Str} {st:Stmt} {f:Addr} {fd:FuncData} {ps:List Str} (F:Fun K x qual st f fd)
  (h:∀ (kV doc pm:Value) (an:Option Addr) (cdv ct:Value) (us:List Value),us.length=ps.length->bindArgs (PySem.W.fnOf x qual (dC st) (bL st) (aE st) .none kV doc pm an cdv ct) ⟨us,[]⟩=pure (ps.zip us)):jS K fd ps []:=by
 obtain ⟨oc,od,kV,doc,pm,an,cdv,ct,osl,rfl,lk,hcd⟩:=F.ex
 exact .all (h kV doc pm an cdv ct)
theorem kN {x qual:Str} {st:Stmt} {f:Addr} {oc:Value} {od an:Option Addr} {osl:Array (Option Value)} {kV doc pm cdv ct:Value} (l:K.lookup f=some ⟨oc,od,.func (PySem.W.fnOf x qual (dC st) (bL st) (aE st) .none kV doc pm an cdv ct),osl⟩)
  (c:PySem.W.codeIn K cdv qual=true) (k:PySem.W.keepIn K (.ref f)=true):Fun K x qual st f (PySem.W.fnOf x qual (dC st) (bL st) (aE st) .none kV doc pm an cdv ct):=⟨⟨oc,od,kV,doc,pm,an,cdv,ct,osl,rfl,l,c⟩,k⟩
end
section
variable {X:Cx}
theorem pv (i:Nat) {x:Str} {pos:Pos} (hN:X.N[i]?=some x:=by rfl) (hv:Vis X.env.scope x:=by first | exact Or.inl rfl | exact Or.inr (Or.inl rfl) | exact Or.inr (Or.inr rfl)) (hd:(x==("__debug__" : Str))=false:=by decide)
  (hcd:(x==("__classdict__" : Str))=false:=by decide):PE X (.Name x pos) (rZ i):=lO hN hv hd hcd
end
def Same (H H':Hp):Prop:=∀ b o,H b=some o->H' b=some o
theorem Same.refl (H:Hp):Same H H:=fun _ _ h=>h
theorem Same.trans {H H1 H2:Hp} (a:Same H H1) (b:Same H1 H2):Same H H2:=fun c o h=>b c o (a c o h)
end L2
set_option maxHeartbeats 4000000
set_option exponentiation.threshold 20000
namespace L2
open PySem PySem.Spec PyProof.Rows
section
variable {X:Cx}
variable {tg:Expr}
end
end L2
namespace L2
open PySem PySem.Spec PyProof.Rows
end L2
namespace L2
open PySem PySem.Spec PyProof.Rows
section
variable {P:Program} {w:World} {H H':Hp} {h:Heap} {a:Addr} {o:HO}
theorem fT.here (x:fT P w H h a o):∃ ob,h.get? a=some ob:=by
 cases o with
 | lst xs=>obtain ⟨_,_,_,_,e⟩:=x;exact ⟨_,e⟩
 | tup xs=>obtain ⟨_,_,_,e⟩:=x;obtain ⟨ob,e,_⟩:=e;exact ⟨_,e⟩
 | dK kvs=>obtain ⟨_,_,_,_,e⟩:=x;obtain ⟨ob,_,_,e,_⟩:=e;exact ⟨_,e⟩
 | dT kvs=>obtain ⟨_,_,_,_,ob,_,_,e,_⟩:=x;exact ⟨_,e⟩
 | set S n=>obtain ⟨ob,_,_,_,e,_⟩:=x;exact ⟨_,e⟩
 | ins C dx fs=>obtain ⟨_,_,_,e,_⟩:=x;exact ⟨_,e⟩
 | own y=>exact x
 | xd fs=>obtain ⟨_,⟨ob,_,_,e,_⟩,_⟩:=x;exact ⟨_,e⟩
 | met f y=>exact ⟨_,x⟩
 | rng lo hi=>obtain ⟨_,_,_,e⟩:=x;exact ⟨_,e⟩
 | frz ob u=>exact ⟨_,x.1⟩
 | tbl ps=>exact ⟨_,x⟩
 | ext φ=>exact x.2.1
theorem HOk.none_of (ok:HOk P w H h) (e:h.get? a=none):H a=none:=by
 cases q:H a with
 | none=>rfl
 | some o=>
  obtain ⟨ob,z⟩:=(ok a o q).here
  rw [e] at z;cases z
end
structure Fly (P:Program) (w:World) (l:List Env) (H H':Hp) (s:Shared) (ea:Addr) (cls:Value) (s':Shared):Prop where
 os:s'.os=s.os
 bare:AllBare s'.gens
 un:Un (frs l) [] H H' s.heap s'.heap
 hok:HOk P w H' s'.heap
 ne:H' ea=none
 new:s.heap.get? ea=none
 fly:∃ B a0,Heap.FlyingW B l ea cls a0 s'.heap/\(∀ b o,s'.heap.get? b=some o->((∃ o',s.heap.get? b=some o')∨H' b≠none)->b∉frs l->B.get? b=some o)
def CX1 (P:Program) (w:World):CXT:=fun outer H s E e s'=>∃ ea cls H',e=.ref ea/\Fly P w outer H H' s ea cls s'/\E cls none H'
structure Own (X:Cx):Prop where
 stk:X.stack=X.env::X.outer
 fr:X.env.frame=some X.env.locals
 ex:X.ex=[]
section
variable {X:Cx} {pins:List (Addr×Obj)} {σ:St} {H H':Hp} {s s':Shared} {ea:Addr} {cls:Value}
theorem vT (O:Own X):frs X.stack=X.env.locals::X.fs:=by
 rw [O.stk]
 show List.filterMap _ (_::_)=_
 rw [List.filterMap_cons,O.fr]
 rfl
theorem Inv.there0 (I:Inv X pins σ H s) (O:Own X) {b:Addr} {o:Obj} (e:X.s₀.heap.get? b=some o):∃ o',s.heap.get? b=some o':=I.base.there b o e (by rw [O.ex];simp)
theorem Inv.ne0 (I:Inv X pins σ H s) {b:Addr} {o:Obj} (e:X.s₀.heap.get? b=some o):b≠X.env.locals:=Nat.ne_of_lt (Nat.lt_of_lt_of_le (Heap.lt_size e) I.ok.above)
theorem Fly.leave (I:Inv X pins σ H s) (O:Own X) (F:Fly X.prog X.w X.stack H H' s ea cls s') {h':Heap} {B:Heap} {a0:Value}
  (hf:Heap.FlyingW B X.stack ea cls a0 s'.heap) (cov:∀ b o,s'.heap.get? b=some o->((∃ o',s.heap.get? b=some o')∨H' b≠none)->b∉frs X.stack->B.get? b=some o)
  (hf':Heap.FlyingW B X.outer ea cls a0 h') (up:s'.heap.UpToSlots h'):Fly X.prog X.w X.outer X.H₀ H' X.s₀ ea cls { s' with heap:=h' }:=by
 have fst:frs X.stack=X.env.locals::X.fs:=vT O
 have nin:∀ {b:Addr},b≠X.env.locals->b∉X.fs->b∉frs X.stack:=fun h1 h2=>by rw [fst];simp [h1,h2]
 have trk:∀ {b:Addr},H' b≠none->b∉frs X.stack:=fun {b} hb hm=>by
  have h1:=I.stkFree b hm
  obtain ⟨_,o,ho,_⟩:=I.stack.mem hm
  exact hb (F.un.free b o ho h1 (by simp))
 have keepB:∀ {b:Addr} {o:Obj},s'.heap.get? b=some o->((∃ o',s.heap.get? b=some o')∨H' b≠none)->b∉frs X.stack->h'.get? b=some o:=fun e1 e2 e3=>hf'.1 _ _ (cov _ _ e1 e2 e3)
 have slotOf:∀ {b:Addr} {o:Obj},b∈frs X.stack->s'.heap.get? b=some o->∃ sl,h'.get? b=some { o with slots:=sl }:=fun {b o} hm e=>by
  obtain ⟨_,o',ho',hn⟩:=hf.2.2.1.mem hm
  rw [e] at ho';cases ho'
  exact up b o e hn
 refine ⟨F.os.trans I.os,F.bare,⟨?_,?_,?_,?_,?_,?_,?_⟩,?_,F.ne,?_,⟨B,a0,hf',?_⟩⟩
 ·intro b o e n hb hx
  have e1:=I.base.keep b o e n hb (by rw [O.ex];simp)
  have n1:=I.base.free b o e n (by rw [O.ex];simp)
  have hs:b∉frs X.stack:=nin (I.ne0 e) hb
  exact keepB (F.un.keep b o e1 n1 hs (by simp)) (.inl ⟨o,e1⟩) hs
 ·intro b o e n hb hx
  obtain ⟨sl,e1⟩:=I.base.slot b o e n hb (by rw [O.ex];simp)
  have n1:=I.base.free b o e n (by rw [O.ex];simp)
  have hs:b∈frs X.stack:=by rw [fst];exact List.mem_cons_of_mem _ hb
  obtain ⟨sl2,e2⟩:=F.un.slot b _ e1 n1 hs (by simp)
  obtain ⟨sl3,e3⟩:=slotOf hs e2
  exact ⟨sl3,e3⟩
 ·intro b o e n hx
  obtain ⟨o1,e1⟩:=I.there0 O e
  exact F.un.free b o1 e1 (I.base.free b o e n (by rw [O.ex];simp)) (by simp)
 ·intro b o e hx
  obtain ⟨o1,e1⟩:=I.there0 O e
  obtain ⟨o2,e2⟩:=F.un.there b o1 e1 (by simp)
  by_cases hs:b∈frs X.stack
  ·obtain ⟨sl,e3⟩:=slotOf hs e2
   exact ⟨_,e3⟩
  ·exact ⟨o2,keepB e2 (.inl ⟨o1,e1⟩) hs⟩
 ·exact fun b xs e=>F.un.tups b xs (I.base.tups b xs e)
 ·exact fun b o u e=>F.un.frzs b o u (I.base.frzs b o u e)
 ·intro b ps e
  obtain ⟨m1,e1⟩:=I.base.tbls b ps e
  obtain ⟨m2,e2⟩:=F.un.tbls b _ e1
  exact ⟨m1++m2,by rw [e2,Array.append_assoc]⟩
 ·intro a o e
  refine (F.hok a o e).stay (fun b u hb z=>?_) (fun b z=>z) (fun b xs z=>z)
  have hb':H' b≠none:=by
   rcases hb with rfl | hb
   ·rw [e];simp
   ·rw [hb];simp
  exact keepB z (.inr hb') (trk hb')
 ·show X.s₀.heap.get? ea=none
  cases q:X.s₀.heap.get? ea with
  | none=>rfl
  | some o=>
   obtain ⟨o1,e1⟩:=I.there0 O q
   rw [F.new] at e1;cases e1
 ·intro b o e c hb
  have c':(∃ o',s.heap.get? b=some o')∨H' b≠none:=by
   rcases c with ⟨o',c⟩ | c
   ·exact .inl (I.there0 O c)
   ·exact .inr c
  have hs:b∉frs X.stack:=by
   rcases c with ⟨o',c⟩ | c
   ·exact nin (I.ne0 c) hb
   ·exact trk c
  have ex:∃ o2,s'.heap.get? b=some o2:=by
   rcases c' with ⟨o',c1⟩ | c1
   ·exact F.un.there b o' c1 (by simp)
   ·cases q:H' b with
    | none=>exact absurd q c1
    | some u=>exact (F.hok b u q).here
  obtain ⟨o2,e2⟩:=ex
  have z:=keepB e2 c' hs
  have z':h'.get? b=some o:=e
  rw [z] at z';cases z'
  exact cov b o e2 c' hs
end
end L2
namespace L2
open PySem PySem.Spec PyProof.Rows
section
variable {X:Cx} {pins:List (Addr×Obj)} {σ:St} {H H':Hp} {s s':Shared} {ea:Addr} {cls:Value}
theorem zHv (l:List Env):∀ env∈l,∀ b,env.frame=some b->b∈frs l:=fun env he b hb=>List.mem_filterMap.mpr ⟨env,he,hb⟩
theorem Fly.made (I:Inv X pins σ H s) (O:Own X) {vs:List Value} (hx:Heap.MadeExcOf s.heap s'.heap ea cls vs) (hos:s'.os=s.os) (hg:AllBare s'.gens) {h':Heap} {t:Addr}
  (hf':Heap.FlyingW (PySem.W.hideAll s.heap (frs X.stack)) X.outer ea cls (.ref t) h') (up:s'.heap.UpToSlots h'):Fly X.prog X.w X.outer X.H₀ H X.s₀ ea cls { s' with heap:=h' }:=by
 have fst:frs X.stack=X.env.locals::X.fs:=vT O
 have nin:∀ {b:Addr},b≠X.env.locals->b∉X.fs->b∉frs X.stack:=fun h1 h2=>by rw [fst];simp [h1,h2]
 have trk:∀ {b:Addr},H b≠none->b∉frs X.stack:=fun {b} hb hm=>hb (I.stkFree b hm)
 have keepB:∀ {b:Addr} {o:Obj},s.heap.get? b=some o->b∉frs X.stack->h'.get? b=some o:=fun e1 e3=>hf'.1 _ _ (PySem.W.hideAll_get _ e1 e3)
 have slotOf:∀ {b:Addr} {o:Obj},b∈frs X.stack->s.heap.get? b=some o->∃ sl,h'.get? b=some { o with slots:=sl }:=fun {b o} hm e=>by
  obtain ⟨_,o',ho',hn⟩:=I.stack.mem hm
  rw [e] at ho';cases ho'
  exact up b o (hx.keeps b o e) hn
 refine ⟨hos.trans I.os,hg,⟨?_,?_,?_,?_,?_,?_,?_⟩,?_,?_,?_,⟨_,_,hf',?_⟩⟩
 ·intro b o e n hb hx'
  exact keepB (I.base.keep b o e n hb (by rw [O.ex];simp)) (nin (I.ne0 e) hb)
 ·intro b o e n hb hx'
  obtain ⟨sl,e1⟩:=I.base.slot b o e n hb (by rw [O.ex];simp)
  have hs:b∈frs X.stack:=by rw [fst];exact List.mem_cons_of_mem _ hb
  obtain ⟨sl3,e3⟩:=slotOf hs e1
  exact ⟨sl3,e3⟩
 ·exact fun b o e n hx'=>I.base.free b o e n (by rw [O.ex];simp)
 ·intro b o e hx'
  obtain ⟨o1,e1⟩:=I.there0 O e
  by_cases hs:b∈frs X.stack
  ·obtain ⟨sl,e3⟩:=slotOf hs e1
   exact ⟨_,e3⟩
  ·exact ⟨o1,keepB e1 hs⟩
 ·exact fun b xs e=>I.base.tups b xs e
 ·exact fun b o u e=>I.base.frzs b o u e
 ·exact fun b ps e=>I.base.tbls b ps e
 ·intro a o e
  refine (I.hok a o e).stay (fun b u hb z=>?_) (fun b z=>z) (fun b xs z=>z)
  have hb':H b≠none:=by
   rcases hb with rfl | hb
   ·rw [e];simp
   ·rw [hb];simp
  exact keepB z (trk hb')
 ·exact I.hok.none_of hx.new
 ·show X.s₀.heap.get? ea=none
  cases q:X.s₀.heap.get? ea with
  | none=>rfl
  | some o=>
   obtain ⟨o1,e1⟩:=I.there0 O q
   rw [hx.new] at e1;cases e1
 ·intro b o e c hb
  have hs:b∉frs X.stack:=by
   rcases c with ⟨o',c⟩ | c
   ·exact nin (I.ne0 c) hb
   ·exact trk c
  have ex:∃ o2,s.heap.get? b=some o2:=by
   rcases c with ⟨o',c1⟩ | c1
   ·exact I.there0 O c1
   ·cases q:H b with
    | none=>exact absurd q c1
    | some u=>exact (I.hok b u q).here
  obtain ⟨o2,e2⟩:=ex
  have z:=keepB e2 hs
  have z':h'.get? b=some o:=e
  rw [z] at z';cases z'
  exact PySem.W.hideAll_get _ e2 hs
end
section
variable {CX:CXT} {P:Program} {w:World} {K:PySem.W.Frag} {mg:Str->Option Value} {base:Heap} {N:List Str} {qual:Str} {scope:Scope} {f:Addr} {cd:Value} {A:Around} {outer:List Env} {s₀:Shared} {H₀:Hp} {E:XK}
theorem zBp:Own (xH CX P w K mg base N qual scope f cd A outer s₀ H₀ E):=⟨rfl,rfl,rfl⟩
theorem zHm {E':XK} (h:∀ c H',E' c none H'->E c none H'):rV (CX1 P w) (xH (CX1 P w) P w K mg base N qual scope f cd A outer s₀ H₀ E) E':=by
 intro pins σ H s e s' I hc
 obtain ⟨ea,cls,H',rfl,F,q⟩:=hc
 obtain ⟨B,a0,hf,cov⟩:=F.fly
 have O:Own (xH (CX1 P w) P w K mg base N qual scope f cd A outer s₀ H₀ E):=zBp
 exact wpAny_leaves_onW (I.ok.frames.trans (congrArg some O.stk)) O.fr hf fun h' hf' up=>⟨ea,cls,H',rfl,F.leave I O hf cov hf' up,h _ _ q⟩
theorem uU {pins:List (Addr×Obj)} {σ:St} {H:Hp} {s s':Shared} {ea:Addr} {cls:Value} {vs:List Value} (I:Inv (xH (CX1 P w) P w K mg base N qual scope f cd A outer s₀ H₀ E) pins σ H s)
  (hx:Heap.MadeExcOf s.heap s'.heap ea cls vs) (hos:s'.os=s.os) (hg:AllBare s'.gens) (q:E cls none H):(xH (CX1 P w) P w K mg base N qual scope f cd A outer s₀ H₀ E).xe (.ref ea) s':=by
 have O:Own (xH (CX1 P w) P w K mg base N qual scope f cd A outer s₀ H₀ E):=zBp
 have hst:=O.stk
 exact wpAny_leaves_madeW (base:=PySem.W.hideAll s.heap (frs (xH (CX1 P w) P w K mg base N qual scope f cd A outer s₀ H₀ E).stack)) (h:=s.heap) (I.ok.frames.trans (congrArg some O.stk)) O.fr (fun b o z=>PySem.W.of_hideAll _ z)
  (PySem.W.funFrames_hide (I.stack) (zHv _)) hx fun h' t hf' _ _ up=>⟨ea,cls,H,rfl,Fly.made I O hx hos hg hf' up,q⟩
end
structure Err (K:PySem.W.Frag) (mg:Str->Option Value) (x:Str) (C:Addr):Prop where
 own:∀ h:Heap,K.In h->∃ bm newId B initId,OwnCls x C bm newId mg h/\ExcBaseFacts B newId initId bm
end L2
namespace L3
open PySem
inductive D where
 | non | bl (b:Bool) | int (i:Int) | str (x:Str) | tup (ds:List D) | lst (ds:List D)
inductive Res (α:Type) where
 | ok (a:α) | err (c:Str) | no
def Res.bind {α β:Type} (x:Res α) (f:α->Res β):Res β:=match x with
 | .ok a=>f a
 | .err c=>.err c
 | .no=>.no
inductive Sl where
 | un | val (d:D) | own (ds:List D) | exc (c:Str) | tab (T:List (Str×Str)) | ins (c:Str) (fs:List (Str×D))
abbrev Rho:=List Sl
inductive Rt where
 | v (d:D) | f (ds:List D)
def Rt.d:Rt->D
 | .v d=>d
 | .f ds=>.lst ds
inductive Fl where
 | nx (ρ:Rho) | ret (r:Rt) | brk (ρ:Rho) | ctn (ρ:Rho)
abbrev Ev:=Rho->Res D
abbrev Fv:=Rho->Res (List D)
abbrev Tv:=Rho->Res Bool
abbrev Sv:=Rho->Res Fl
abbrev Mir:=List D->Res Rt
mutual
def eqD:D->D->Bool
 | .non,.non=>true
 | .bl a,.bl b=>a==b
 | .bl a,.int b=>(if a then 1 else 0)==b
 | .int a,.bl b=>a==(if b then 1 else 0)
 | .int a,.int b=>a==b
 | .str a,.str b=>a==b
 | .tup ds,.tup es=>zAB ds es
 | .lst ds,.lst es=>zAB ds es
 | _,_=>false
def zAB:List D->List D->Bool
 | [],[]=>true
 | d::ds,e::es=>eqD d e && zAB ds es
 | _,_=>false
end
mutual
def dep:D->Nat
 | .tup ds=>depS ds+1
 | .lst ds=>depS ds+1
 | _=>0
def depS:List D->Nat
 | []=>0
 | d::ds=>max (dep d) (depS ds)
end
mutual
def noL:D->Bool
 | .tup ds=>noLs ds
 | .lst _=>false
 | _=>true
def noLs:List D->Bool
 | []=>true
 | d::ds=>noL d && noLs ds
end
theorem jL:∀ {ds:List D} {d:D},d∈ds->dep d<=depS ds
 | e::ds,d,h=>by
  rw [depS]
  rcases List.mem_cons.mp h with rfl | h
  ·exact Nat.le_max_left ..
  ·exact Nat.le_trans (jL h) (Nat.le_max_right ..)
theorem zCY:∀ {ds:List D},noLs ds=true ↔ ∀ d∈ds,noL d=true
 | []=>by simp [noLs]
 | d::ds=>by rw [noLs,Bool.and_eq_true,zCY];simp
theorem gP:∀ (ds es:List D),zAB ds es=((List.range (min ds.length es.length)).all (fun j=>eqD (ds.getD j .non) (es.getD j .non)) && ds.length==es.length)
 | [],[]=>rfl
 | [],e::es=>by simp [zAB]
 | d::ds,[]=>by simp [zAB]
 | d::ds,e::es=>by
  rw [zAB,gP ds es]
  have h:min (d::ds).length (e::es).length=min ds.length es.length+1:=by simp only [List.length_cons];omega
  rw [h,List.range_succ_eq_map]
  simp [List.all_map,Function.comp_def,Bool.and_assoc]
mutual
theorem lF:∀ d:D,eqD d d=true
 | .non=>rfl
 | .bl b=>by simp [eqD]
 | .int i=>by simp [eqD]
 | .str x=>by simp [eqD]
 | .tup ds=>by rw [eqD];exact mE ds
 | .lst ds=>by rw [eqD];exact mE ds
theorem mE:∀ ds:List D,zAB ds ds=true
 | []=>rfl
 | d::ds=>by rw [zAB,lF d,mE ds];rfl
end
def nb (i:Int):Nat:=i.natAbs.log2+1
theorem zEN (i:Int):i.natAbs < 2^nb i:=Nat.lt_log2_self
theorem zJk {i:Int} {m:Nat} (h:i.natAbs < 2^m) (hm:0 < m):nb i<=m:=by
 unfold nb
 by_cases h0:i.natAbs=0
 ·rw [h0];exact hm
 ·exact (Nat.log2_lt h0).mpr h
def gG (i j:Int):Bool:=(decide (-(2^64) < i) && decide (i < 2^64)) || (decide (-(2^64) < j) && decide (j < 2^64)) || decide (nb i+nb j<=134217728)
def iZ (j:Int):Bool:=decide (j≠0) && decide (nb j<=9000)
def lV (i j:Int):Bool:=decide (0<=j) && decide ((nb i:Int) * j<=2^27)
abbrev Op2:=D->D->Res D
def rB:Op2
 | .int i,.int j=>.ok (.int (i+j))
 | .tup a,.tup b=>if a.length+b.length<=16777216 then .ok (.tup (a++b)) else .no
 | _,_=>.no
def zKk:Op2
 | .int i,.int j=>.ok (.int (i+j))
 | _,_=>.no
def zKb:Op2
 | .int i,.int j=>.ok (.int (i - j))
 | _,_=>.no
def zFR:Op2
 | .int i,.int j=>if gG i j=true then .ok (.int (i * j)) else .no
 | _,_=>.no
def mY:Op2
 | .int i,.int j=>if iZ j=true then .ok (.int (i.fdiv j)) else .no
 | _,_=>.no
def iX:Op2
 | .int i,.int j=>if j≠0 then .ok (.int (i.fmod j)) else .no
 | _,_=>.no
def yO:Op2
 | .int i,.int j=>if lV i j=true then .ok (.int (i^j.toNat)) else .no
 | _,_=>.no
def oEq (x y:D):Res D:=if dep x<=50 then .ok (.bl (eqD x y)) else .no
def oNe (x y:D):Res D:=if dep x<=50 then .ok (.bl (!eqD x y)) else .no
def oLt:Op2
 | .int i,.int j=>.ok (.bl (decide (i < j)))
 | _,_=>.no
def oLe:Op2
 | .int i,.int j=>.ok (.bl (decide (i<=j)))
 | _,_=>.no
def oGt:Op2
 | .int i,.int j=>.ok (.bl (decide (j < i)))
 | _,_=>.no
def oGe:Op2
 | .int i,.int j=>.ok (.bl (decide (j<=i)))
 | _,_=>.no
def atD (ds:List D) (i:Int):Option D:=if 0<=i then ds[i.toNat]? else if 0<=(ds.length:Int)+i then ds[((ds.length:Int)+i).toNat]? else none
def ofO {α:Type}:Option α->Res α
 | some a=>.ok a
 | none=>.no
def oIx:Op2
 | .tup ds,.int i=>ofO (atD ds i)
 | .lst ds,.int i=>ofO (atD ds i)
 | _,_=>.no
def oIn:Op2
 | d,.lst ds=>if depS ds<=50 then .ok (.bl (ds.any fun e=>eqD e d)) else .no
 | d,.tup ds=>if depS ds<=50 then .ok (.bl (ds.any fun e=>eqD e d)) else .no
 | _,_=>.no
def oO:Op2
 | d,.lst ds=>if depS ds<=50 then .ok (.bl (!(ds.any fun e=>eqD e d))) else .no
 | d,.tup ds=>if depS ds<=50 then .ok (.bl (!(ds.any fun e=>eqD e d))) else .no
 | _,_=>.no
def zIt:D->Res D
 | .int i=>.ok (.int (-i))
 | _=>.no
def zJf:D->Res D
 | .bl b=>.ok (.bl (!b))
 | _=>.no
def aG (i:Nat) (ρ:Rho):Res D:=match ρ[i]? with
 | some (.val d)=>.ok d
 | _=>.no
def eC (d:D) (_ρ:Rho):Res D:=.ok d
def eOp (o:Op2) (a b:Ev) (ρ:Rho):Res D:=(a ρ).bind fun x=>(b ρ).bind fun y=>o x y
def eUn (o:D->Res D) (a:Ev) (ρ:Rho):Res D:=(a ρ).bind o
def zEC (a b:Ev) (ρ:Rho):Res D:=(a ρ).bind fun x=>match x with
 | .bl c=>if c=true then b ρ else .ok (.bl false)
 | _=>.no
def eOr (a b:Ev) (ρ:Rho):Res D:=(a ρ).bind fun x=>match x with
 | .bl c=>if c=true then .ok (.bl true) else b ρ
 | _=>.no
def eIf (t:Tv) (a b:Ev) (ρ:Rho):Res D:=(t ρ).bind fun c=>if c=true then a ρ else b ρ
def aNil (_ρ:Rho):Res (List D):=.ok []
def aD (e:Ev) (r:Fv) (ρ:Rho):Res (List D):=(e ρ).bind fun d=>(r ρ).bind fun ds=>.ok (d::ds)
def zFB (a:Fv) (ρ:Rho):Res D:=(a ρ).bind fun ds=>if ds.length<=16777216 then .ok (.tup ds) else .no
def bK (m:Mir) (a:Fv) (ρ:Rho):Res D:=(a ρ).bind fun ds=>(m ds).bind fun r=>.ok r.d
def iD:List D->Res D
 | [.lst ds]=>.ok (.int ds.length)
 | [.tup ds]=>.ok (.int ds.length)
 | _=>.no
def zJU:List D->Res D
 | [.int i]=>.ok (.int (if i < 0 then -i else i))
 | _=>.no
def zKq:List D->Res D
 | [.int i,.int j]=>.ok (.int (if j > i then j else i))
 | _=>.no
def zGx:List D->Res D
 | [.int i,.int j]=>.ok (.int (if j < i then j else i))
 | _=>.no
def zCe:List D->Res D
 | [.lst ds]=>.ok (.tup ds)
 | [.tup ds]=>.ok (.tup ds)
 | _=>.no
def eB (b:List D->Res D) (a:Fv) (ρ:Rho):Res D:=(a ρ).bind b
def tyN:D->String
 | .non => "NoneType" | .bl _ => "bool" | .int _ => "int" | .str _ => "str" | .tup _ => "tuple" | .lst _ => "list"
def isT (T:String) (d:D):Bool:=tyN d==T || (T == "int" && tyN d == "bool")
def zBO (T:String) (a:Ev) (ρ:Rho):Res D:=(a ρ).bind fun d=>.ok (.bl (isT T d))
def isNon:D->Bool
 | .non=>true
 | _=>false
def zFP (a:Ev) (ρ:Rho):Res D:=(a ρ).bind fun d=>.ok (.bl (isNon d))
def Sl.frz:Sl->Sl
 | .own ds=>.val (.lst ds)
 | s=>s
def zIr (e:Ev) (ρ:Rho):Res D:=(e (ρ.map Sl.frz)).bind fun d=>if noL d=true then .ok d else .no
def iL (a:Fv) (ρ:Rho):Res (List D):=(a ρ).bind fun ds=>if ds.length<=16777216 then .ok ds else .no
def lW (m:Mir) (a:Fv) (ρ:Rho):Res (List D):=(a ρ).bind fun ds=>(m ds).bind fun r=>match r with
 | .f ds=>.ok ds
 | .v _=>.no
def qO (a:Fv) (ρ:Rho):Res (List D):=(a ρ).bind fun ds=>match ds with
 | [.lst ds]=>.ok ds
 | [.tup ds]=>.ok ds
 | _=>.no
def zFo (a b:Ev) (ρ:Rho):Res (List D):=(a ρ).bind fun x=>(b ρ).bind fun y=>match x,y with
 | .lst ds,.lst es=>if ds.length+es.length<=16777216 then .ok (ds++es) else .no
 | _,_=>.no
def eF (f:Fv) (ρ:Rho):Res D:=(f ρ).bind fun ds=>.ok (.lst ds)
def zIi (f:Fv) (ρ:Rho):Res (List D):=(f (ρ.map Sl.frz)).bind fun ds=>if noLs ds=true then .ok ds else .no
def cut (n:Nat) (i:Option Int) (d:Nat):Nat:=match i with
 | none=>d
 | some i=>if 0<=i then min i.toNat n else ((n:Int)+i).toNat
def bW (ds:List D) (lo hi:Option Int):List D:=(ds.drop (cut ds.length lo 0)).take (cut ds.length hi ds.length - cut ds.length lo 0)
abbrev Ov:=Rho->Res (Option Int)
def oN (_ρ:Rho):Res (Option Int):=.ok none
def oS (e:Ev) (ρ:Rho):Res (Option Int):=(e ρ).bind fun d=>match d with
 | .int i=>.ok (some i)
 | _=>.no
def fSl (a:Ev) (lo hi:Ov) (ρ:Rho):Res (List D):=(a ρ).bind fun x=>(lo ρ).bind fun l=>(hi ρ).bind fun h=>match x with
 | .lst ds=>.ok (bW ds l h)
 | _=>.no
def zKp (a:Ev) (lo hi:Ov) (ρ:Rho):Res D:=(a ρ).bind fun x=>(lo ρ).bind fun l=>(hi ρ).bind fun h=>match x with
 | .tup ds=>if (bW ds l h).length < ds.length then .ok (.tup (bW ds l h)) else .no
 | _=>.no
def dU (e:Ev) (ρ:Rho):Res Bool:=(e ρ).bind fun d=>match d with
 | .bl b=>.ok b
 | _=>.no
def uZ (t:Tv) (ρ:Rho):Res Bool:=(t ρ).bind fun b=>.ok (!b)
def zCx (t u:Tv) (ρ:Rho):Res Bool:=(t ρ).bind fun b=>if b=true then u ρ else .ok false
def yT (t u:Tv) (ρ:Rho):Res Bool:=(t ρ).bind fun b=>if b=true then .ok true else u ρ
def sNext (ρ:Rho):Res Fl:=.ok (.nx ρ)
def bT (a b:Sv) (ρ:Rho):Res Fl:=(a ρ).bind fun f=>match f with
 | .nx ρ'=>b ρ'
 | f=>.ok f
def sIf (t:Tv) (a b:Sv) (ρ:Rho):Res Fl:=(t ρ).bind fun c=>if c=true then a ρ else b ρ
def eJ (i:Nat) (e:Ev) (ρ:Rho):Res Fl:=(e ρ).bind fun d=>.ok (.nx (ρ.set i (.val d)))
def zDG (i:Nat) (f:Fv) (ρ:Rho):Res Fl:=(f ρ).bind fun ds=>.ok (.nx (ρ.set i (.own ds)))
def zAb (e:Ev) (ρ:Rho):Res Fl:=(e ρ).bind fun _=>.ok (.nx ρ)
def fF (e:Ev) (ρ:Rho):Res Fl:=(e (ρ.map Sl.frz)).bind fun d=>.ok (.ret (.v d))
def qR (f:Fv) (ρ:Rho):Res Fl:=(f (ρ.map Sl.frz)).bind fun ds=>.ok (.ret (.f ds))
def iF (i:Nat) (ρ:Rho):Res Fl:=match ρ[i]? with
 | some (.own ds)=>.ok (.ret (.f ds))
 | _=>.no
def sRetN (_ρ:Rho):Res Fl:=.ok (.ret (.v .non))
def iM (c:Str) (a:Fv) (ρ:Rho):Res Fl:=(a ρ).bind fun ds=>if ds.length<=16777216 then .err c else .no
def sNo (_ρ:Rho):Res Fl:=.no
def zDD (i:Nat) (e:Ev) (ρ:Rho):Res Fl:=match ρ[i]? with
 | some (.own ds)=>(e ρ).bind fun d=>if ds.length < 16777216 then .ok (.nx (ρ.set i (.own (ds++[d])))) else .no
 | _=>.no
def zHE (i:Nat) (e:Fv) (ρ:Rho):Res Fl:=match ρ[i]? with
 | some (.own ds)=>(e ρ).bind fun es=>if ds.length+es.length<=16777216 then .ok (.nx (ρ.set i (.own (ds++es)))) else .no
 | _=>.no
def zJJ (i:Nat) (o:Op2) (e:Ev) (ρ:Rho):Res Fl:=match ρ[i]? with
 | some (.val x)=>(e ρ).bind fun y=>(o x y).bind fun d=>.ok (.nx (ρ.set i (.val d)))
 | _=>.no
def sFrz (s:Sv) (ρ:Rho):Res Fl:=s (ρ.map Sl.frz)
def frzAt (i:Nat) (ρ:Rho):Rho:=match ρ[i]? with
 | some (.own ds)=>ρ.set i (.val (.lst ds))
 | _=>ρ
def sFrzAt (i:Nat) (s:Sv) (ρ:Rho):Res Fl:=s (frzAt i ρ)
def noErr {α:Type}:Res α->Res α
 | .err _=>.no
 | r=>r
def zIn (i:Nat) (m:Mir) (a:Fv) (ρ:Rho):Res Fl:=(noErr (a ρ)).bind fun ds=>(m ds).bind fun r=>.ok (.nx (ρ.set i (.val r.d)))
def xIf (t:Tv) (a b:Sv) (ρ:Rho):Res Fl:=(noErr (t ρ)).bind fun c=>if c=true then a ρ else b ρ
def zIb (tb:List Str) (i:Nat) (b h:Sv) (ρ:Rho):Res Fl:=match b ρ with
 | .err c=>if tb.contains c=true then (match h (ρ.set i (.exc c)) with
   | .ok (.nx ρ')=>.ok (.nx (ρ'.set i .un))
   | _=>.no) else .no
 | r=>r
def zFW (anc:List (Str×List Str)) (i:Nat) (cs:List Str) (ρ:Rho):Res D:=match ρ[i]? with
 | some (.exc c)=>(match anc.lookup c with
  | some l=>.ok (.bl (cs.any fun x=>l.contains x))
  | none=>.no)
 | _=>.no
abbrev Gv:=D->Rho->Res Rho
def gName (i:Nat) (d:D) (ρ:Rho):Res Rho:=.ok (ρ.set i (.val d))
def zCb (gs:List D->Rho->Res Rho) (d:D) (ρ:Rho):Res Rho:=match d with
 | .tup ds=>gs ds ρ
 | _=>.no
def zBV (ds:List D) (ρ:Rho):Res Rho:=match ds with
 | []=>.ok ρ
 | _=>.no
def jA (g:Gv) (r:List D->Rho->Res Rho) (ds:List D) (ρ:Rho):Res Rho:=match ds with
 | d::ds=>(g d ρ).bind fun ρ'=>r ds ρ'
 | []=>.no
def zJY (g:Gv) (f:Ev) (ρ:Rho):Res Fl:=(f ρ).bind fun d=>(g d ρ).bind fun ρ'=>.ok (.nx ρ')
def loop (g:Gv) (b:Sv):List D->Rho->Res Fl
 | [],ρ=>.ok (.nx ρ)
 | d::ds,ρ=>(g d ρ).bind fun ρ1=>(b ρ1).bind fun f=>match f with
  | .nx ρ2=>loop g b ds ρ2
  | .ctn ρ2=>loop g b ds ρ2
  | .brk ρ2=>.ok (.nx ρ2)
  | .ret r=>.ok (.ret r)
def uD (it:Fv) (g:Gv) (b:Sv) (ρ:Rho):Res Fl:=(it ρ).bind fun ds=>loop g b ds ρ
def yR (e:Ev) (ρ:Rho):Res (List D):=(e ρ).bind fun d=>match d with
 | .lst ds=>.ok ds
 | .tup ds=>.ok ds
 | _=>.no
def rng (lo:Int) (n:Nat) (c:Int):List D:=(List.range n).map fun (i:Nat)=>D.int (lo+(i:Int) * c)
def sY (a:Fv) (ρ:Rho):Res (List D):=(a ρ).bind fun ds=>match ds with
 | [.int j]=>if -(2^62)<=j/\j < 2^62 then .ok (rng 0 j.toNat 1) else .no
 | _=>.no
def wh (t:Tv) (b:Sv):Nat->Rho->Res Fl
 | 0,_=>.no
 | n+1,ρ=>(t ρ).bind fun c=>if c=true then (b ρ).bind fun f=>match f with
   | .nx ρ2=>wh t b n ρ2
   | .ctn ρ2=>wh t b n ρ2
   | .brk ρ2=>.ok (.nx ρ2)
   | .ret r=>.ok (.ret r)
  else .ok (.nx ρ)
def zFX (f:Fv) (g:Ev) (ρ:Rho):Res (List D):=(f ρ).bind fun ds=>(g ρ).bind fun d=>match d with
 | .int k=>if 0<=k/\k < 2^62/\ds.length * k.toNat<=16777216 then .ok (List.replicate k.toNat ds).flatten else .no
 | _=>.no
def xC (_ρ:Rho):Res Bool:=.ok true
def eI (t:Tv) (f:Ev) (ρ:Rho):List D->Res (List D)
 | []=>.ok []
 | d::ds=>(noErr (t (ρ++[.val d]))).bind fun c=>if c=true then (noErr (f (ρ++[.val d]))).bind fun e=>(eI t f ρ ds).bind fun es=>.ok (e::es) else eI t f ρ ds
def xV (it:Fv) (t:Tv) (f:Ev) (ρ:Rho):Res (List D):=(it ρ).bind fun ds=>if ds.length<=16777215 then eI t f ρ ds else .no
def start (n:Nat) (ds:List D):Rho:=ds.map Sl.val++List.replicate (n - ds.length) .un
def fin:Fl->Res Rt
 | .nx _=>.ok (.v .non)
 | .ret r=>.ok r
 | .brk _=>.no
 | .ctn _=>.no
def fn (p n:Nat) (b:Sv) (ds:List D):Res Rt:=if ds.length=p then (b (start n ds)).bind fin else .no
def zCc:D->Option (List D)
 | .lst ds=>some ds
 | .tup ds=>some ds
 | _=>none
def iG:List D->List D->List D
 | a::r,b::q=>.tup [a,b]::iG r q
 | _,_=>[]
def zHr (a:Fv) (ρ:Rho):Res (List D):=(a ρ).bind fun ds=>match ds with
 | [x,y]=>match zCc x,zCc y with
  | some xs,some ys=>.ok (iG xs ys)
  | _,_=>.no
 | _=>.no
def gI:Nat->List D->List D
 | _,[]=>[]
 | n,d::r=>.tup [.int n,d]::gI (n+1) r
def zDd (e:Ev) (ρ:Rho):Res (List D):=(e ρ).bind fun d=>match d with
 | .lst ds=>.ok (gI 0 ds)
 | .tup ds=>.ok (gI 0 ds)
 | _=>.no
def cW (f:Ev) (ρ:Rho):List D->Res (List D)
 | []=>.ok []
 | .tup [a,b]::ds=>(noErr (f (ρ++[.val a,.val b]))).bind fun e=>(cW f ρ ds).bind fun es=>.ok (e::es)
 | _::_=>.no
def oK (it:Fv) (f:Ev) (ρ:Rho):Res (List D):=(it ρ).bind fun ds=>if ds.length<=16777215 then cW f ρ ds else .no
def slQ (l h:Option Int):D->Res D
 | .lst ds=>.ok (.lst (bW ds l h))
 | .tup ds=>.ok (.tup (bW ds l h))
 | _=>.no
def zIs (a:Ev) (lo hi:Ov) (ρ:Rho):Res D:=(a ρ).bind fun x=>(lo ρ).bind fun l=>(hi ρ).bind fun h=>slQ l h x
def zEd:D->Option Str
 | .str x=>some x
 | .int i=>if i.natAbs.log2 < 1920 then some (toString i) else none
 | _=>none
def rC:Str->List D->Option Str
 | a,[]=>some a
 | a,d::r=>match zEd d with
  | some x=>if x.length<=sizeLine/\(a++x).length<=sizeLine then rC (a++x) r else none
  | none=>none
def zGF (ds:List D):Res D:=match rC Str.empty ds with
 | some x=>.ok (.str x)
 | none=>.no
def zFN (fs:Fv) (ρ:Rho):Res D:=(fs ρ).bind zGF
def kW:List D->Option (List Str)
 | []=>some []
 | .str x::r=>(kW r).map (x::·)
 | _::_=>none
def sP (sep:Str):D->Res D
 | .lst ds=>match kW ds with
  | some l=>if l.foldl (fun n x=>n+x.length+sep.length) 0<=sizeLine then .ok (.str (Builtin.Str.glued sep l)) else .no
  | none=>.no
 | _=>.no
def zDX (sep:Str) (e:Ev) (ρ:Rho):Res D:=(e ρ).bind (sP sep)
def gU:List D->Option (List Int)
 | []=>some []
 | .int i::ds=>match gU ds with
  | some ns=>some (i::ns)
  | none=>none
 | _::_=>none
def zFQ:List D->Res D
 | [.lst ds]=>(match gU ds with
  | some ns=>.ok (.int ns.sum)
  | none=>.no)
 | [.tup ds]=>(match gU ds with
  | some ns=>.ok (.int ns.sum)
  | none=>.no)
 | _=>.no
def zAc:Op2
 | .str x,.str y=>if x.length+y.length<=sizeLine then .ok (.str (x++y)) else .no
 | _,_=>.no
def zJZ (x:Str) (n:Int):Str:=if n < 1 then Str.empty else if (n==1 || x.length==0)=true then x else ⟨(List.replicate n.toNat x.cps).foldl (·++·) #[]⟩
def zJS:Op2
 | .str x,.int n=>if -(2^63)<=n/\n < 2^63/\x.length * n.toNat<=sizeLine then .ok (.str (zJZ x n)) else .no
 | _,_=>.no
def chO:Option Nat->Res D
 | some c=>.ok (.str ⟨#[c]⟩)
 | none=>.no
def zCi:Op2
 | .str z,.int i=>if 0<=i/\i < 2^63 then chO z.cps[i.toNat]? else .no
 | _,_=>.no
def inS (i j:Str):Bool:=!(Builtin.Str.occurrences j i 0 j.length 1).isEmpty
def zHa:Op2
 | .str i,.str j=>.ok (.bl (inS i j))
 | _,_=>.no
def zBt:List D->Res D
 | [.str x]=>if x.length<=sizeLine then .ok (.int x.length) else .no
 | _=>.no
def kH:List D->Option (List Bool)
 | []=>some []
 | .bl b::r=>(kH r).map (b::·)
 | _=>none
def zHA:List D->Res D
 | [.lst ds]=>(match kH ds with | some bs=>.ok (.bl (bs.all id)) | none=>.no)
 | _=>.no
def zGr (o:Op2) (h:Ev) (ρ:Rho) (y:D):D->Res D
 | .bl true=>(h ρ).bind fun w=>o y w
 | .bl false=>.ok (.bl false)
 | _=>.no
def vV (o o':Op2) (f g h:Ev) (ρ:Rho):Res D:=(f ρ).bind fun x=>(g ρ).bind fun y=>(o x y).bind (zGr o' h ρ y)
def slS (l u:Option Int):D->Res D
 | .str x=>if x.length<=sizeLine then .ok (.str (Txt.slice x l u)) else .no
 | _=>.no
def zIB:D->Res (List D)
 | .str x=>.ok (x.cps.toList.map fun c=>.str ⟨#[c]⟩)
 | _=>.no
def zIJ (f:Ev) (ρ:Rho):Res (List D):=(f ρ).bind zIB
def jY (T:List (Str×Str)):D->Res D
 | .str x=>.ok (.bl (!(T.lookup x).isSome))
 | _=>.no
def qC:Int->List Int->Int
 | a,[]=>a
 | a,b::r=>qC (if b > a then b else a) r
def vG:List D->Res D
 | [.lst ds,.int d]=>(match gU ds with | some (a::r)=>.ok (.int (qC a r)) | some []=>.ok (.int d) | none=>.no)
 | _=>.no
end L3
namespace L3
open PySem
end L3
namespace L3
open PySem
def vU (kz:List Int) (π:List Nat):Prop:=π.Perm (List.range kz.length)/\π.Pairwise (fun i j=>kz.getD i 0<=kz.getD j 0)/\π.Pairwise (fun i j=>kz.getD i 0=kz.getD j 0->i < j)
def zFO (b:Int):D->Res Int
 | .tup [.int t,.int d]=>if iZ d && gG t (b.fdiv d) then .ok (t * b.fdiv d) else .no
 | _=>.no
def vD (b:Int):List D->Res (List Int)
 | []=>.ok []
 | d::r=>(zFO b d).bind fun k=>(vD b r).bind fun ks=>.ok (k::ks)
def zFu (π:List Nat):List D:=π.map fun i:Nat=>D.int (i:Int)
theorem zEO {b k:Int} {d:D} (h:zFO b d=.ok k):∃ t c,d=.tup [.int t,.int c]/\iZ c=true/\gG t (b.fdiv c)=true/\k=t * b.fdiv c:=by
 unfold zFO at h
 split at h
 ·rename_i t c
  split at h
  ·rename_i hc
   rw [Bool.and_eq_true] at hc
   cases h
   exact ⟨t,c,rfl,hc.1,hc.2,rfl⟩
  ·cases h
 ·cases h
theorem pF {b:Int}:∀ {rows:List D} {kz:List Int},vD b rows=.ok kz->kz.length=rows.length/\∀ (j:Nat) (k:Int),kz[j]?=some k->∃ d,rows[j]?=some d/\zFO b d=.ok k
 | [],kz,h=>by cases h;exact ⟨rfl,fun j k z=>by simp at z⟩
 | d::r,kz,h=>by
  unfold vD at h
  cases e:zFO b d with
  | no=>rw [e] at h;cases h
  | err c=>rw [e] at h;cases h
  | ok k0=>
   rw [e] at h
   have h':(vD b r).bind (fun ks=>Res.ok (k0::ks))=.ok kz:=h
   cases e2:vD b r with
   | no=>rw [e2] at h';cases h'
   | err c=>rw [e2] at h';cases h'
   | ok ks=>
    rw [e2] at h'
    cases h'
    obtain ⟨h1,h2⟩:=pF e2
    refine ⟨by rw [List.length_cons,List.length_cons,h1],fun j k z=>?_⟩
    cases j with
    | zero=>simp at z;subst z;exact ⟨d,rfl,e⟩
    | succ j=>exact h2 j k (by simpa using z)
def zDt (ρ:Rho):Res (List Int):=match ρ[0]?,ρ[1]? with
 | some (Sl.val (.lst rows)),some (Sl.val (.int b))=>if rows.length < 64 then vD b rows else .no
 | _,_=>.no
def zDe (sa sb:Sv) (ds:List D):Res (List Int):=if ds.length=1 then (match sa (L3.start 3 ds) with
 | .ok (.nx ρ)=>(match sb ρ with
  | .ok (.nx ρ')=>zDt ρ'
  | _=>.no)
 | _=>.no) else .no
end L3
namespace L3
open PySem
end L3
namespace L3
open PySem
abbrev Tri:=D×List D×List D
end L3
namespace L3
open PySem
end L3
namespace L3
open PySem
end L3
namespace L3
open PySem
end L3
namespace L3
open PySem
end L3
namespace L3
open PySem
end L3
namespace L3
open PySem
end L3
namespace L3
open PySem
end L3
namespace L3
open PySem
end L3
namespace L3
open PySem
def zGL:Sl->Bool
 | .val _=>true
 | .un=>true
 | _=>false
theorem zAP {α β:Type} {r:Res α} {k:α->Res β} {y:β} (h:(noErr r).bind k=.ok y):∃ a,r=.ok a/\k a=.ok y:=by
 cases r with
 | ok a=>exact ⟨a,rfl,h⟩
 | err c=>cases h
 | no=>cases h
end L3
namespace L3
open PySem
def zJg:Option D->Res D
 | some d=>.ok d
 | none=>.no
def zBW (i:Nat) (c f:Str) (ρ:Rho):Res D:=match ρ[i]? with
 | some (.ins c' fs)=>if c'=c then zJg (fs.lookup f) else .no
 | _=>.no
def fnO (c:Str) (nl:Nat) (b:Sv) (fs:List (Str×D)):Res Rt:=(b (.ins c fs::List.replicate (nl - 1) .un)).bind fin
def zCk (i:Nat) (c n:Str) (m:List (Str×D)->Res Rt) (ρ:Rho):Res D:=match ρ[i]? with
 | some (.ins c' fs)=>if c'=c/\(fs.lookup n).isNone=true then (noErr (m fs)).bind fun r=>.ok r.d else .no
 | _=>.no
inductive Vo where
 | v (d:D) | o (c:Str) (fs:List (Str×D))
def voO:Option Sl->Res Vo
 | some (.val d)=>.ok (.v d)
 | some (.ins c fs)=>.ok (.o c fs)
 | _=>.no
def zJM (i:Nat):Res Fl->Res Vo
 | .ok (.nx ρ)=>voO ρ[i]?
 | _=>.no
def kVo (np nl i:Nat) (sv:Sv) (ds:List D):Res Vo:=if ds.length=np then zJM i (sv (L3.start nl ds)) else .no
def voS:Vo->Sl
 | .v d=>.val d
 | .o c fs=>.ins c fs
def sVo (j:Nat) (fs:Fv) (kf:List D->Res Vo) (ρ:Rho):Res Fl:=((noErr (fs ρ)).bind fun ds=>noErr (kf ds)).bind fun r=>.ok (.nx (ρ.set j (voS r)))
def zCl (i:Nat) (c:Str) (kI:List D->Res (List (Str×D))) (a:Fv) (ρ:Rho):Res Fl:=(noErr (a ρ)).bind fun ds=>(kI ds).bind fun fs=>.ok (.nx (ρ.set i (.ins c fs)))
def uF:List (Str×Ev)->Rho->Res (List (Str×D))
 | [],_=>.ok []
 | (f,e)::r,ρ=>(noErr (e ρ)).bind fun d=>(uF r ρ).bind fun l=>.ok ((f,d)::l)
def yL (np nl:Nat) (e0:Ev) (fs:List (Str×Ev)) (ds:List D):Res (List (Str×D)):=if ds.length=np then (e0 (.un::L3.start (nl - 1) ds)).bind fun _=>uF fs (.un::L3.start (nl - 1) ds) else .no
theorem sE {f:Str} {e:Ev} {r:List (Str×Ev)} {ρ:Rho} {l:List (Str×D)} (h:uF ((f,e)::r) ρ=.ok l):∃ d l',e ρ=.ok d/\uF r ρ=.ok l'/\l=(f,d)::l':=by
 unfold uF at h
 obtain ⟨d,e1,h⟩:=zAP h
 cases z:uF r ρ with
 | no=>rw [z] at h;cases h
 | err c=>rw [z] at h;cases h
 | ok l'=>
  rw [z] at h
  cases h
  exact ⟨d,l',e1,rfl,rfl⟩
theorem zBI {ρ:Rho} {c:Str}:∀ {r:List (Str×Ev)},uF r ρ≠.err c
 | [],h=>by cases h
 | (f,e)::r,h=>by
  unfold uF at h
  cases z:e ρ with
  | no=>rw [z] at h;cases h
  | err c'=>rw [z] at h;cases h
  | ok d=>
   rw [z] at h
   have h':(uF r ρ).bind (fun l=>.ok ((f,d)::l))=.err c:=h
   cases z':uF r ρ with
   | no=>rw [z'] at h';cases h'
   | ok l=>rw [z'] at h';cases h'
   | err c'=>exact zBI z'
end L3
namespace Fq
end Fq
namespace Fr
open L3 PySem Fq
theorem vM {g:Gv} {b:Sv} (P:Nat->Rho->Prop):∀ (ds:List D) (k:Nat) (ρ:Rho),P k ρ->
  (∀ i d ρ,ds[i]?=some d->P (k+i) ρ->∃ ρ1 ρ2,g d ρ=.ok ρ1/\(b ρ1=.ok (.nx ρ2)∨b ρ1=.ok (.ctn ρ2))/\P (k+i+1) ρ2)->∃ ρ',loop g b ds ρ=.ok (.nx ρ')/\P (k+ds.length) ρ'
 | [],k,ρ,h,_=>⟨ρ,rfl,h⟩
 | d::ds,k,ρ,h,st=>by
  obtain ⟨ρ1,ρ2,h1,h2,h3⟩:=st 0 d ρ rfl h
  obtain ⟨ρ',e,hp⟩:=vM P ds (k+1) ρ2 h3 fun i d' ρ' hd hp=>by
   have:=st (i+1) d' ρ' (by simpa using hd) (by rw [show k+(i+1)=k+1+i by omega];exact hp)
   rw [show k+(i+1)=k+1+i by omega] at this
   exact this
  refine ⟨ρ',?_,by rw [List.length_cons,show k+(ds.length+1)=k+1+ds.length by omega];exact hp⟩
  rw [loop,h1]
  simp only [Res.bind]
  rcases h2 with h2 | h2<;>(rw [h2];exact e)
theorem zCU {g:Gv} {b:Sv} {ds:List D} {ρ:Rho} (P:Rho->Prop) (h0:P ρ) (st:∀ d ρ,d∈ds->P ρ->∃ ρ1 ρ2,g d ρ=.ok ρ1/\(b ρ1=.ok (.nx ρ2)∨b ρ1=.ok (.ctn ρ2))/\P ρ2):∃ ρ',loop g b ds ρ=.ok (.nx ρ')/\P ρ':=by
 obtain ⟨ρ',e,hp⟩:=vM (fun _=>P) ds 0 ρ h0 fun i d ρ hd hp=>st d ρ (List.mem_of_getElem? hd) hp
 exact ⟨ρ',e,hp⟩
theorem zGT {i:Int} {m:Nat} (h:i.natAbs < 2^m):nb i<=m+1:=zJk (Nat.lt_of_lt_of_le h (Nat.pow_le_pow_right (by decide) (by omega))) (by omega)
theorem zFt {i j:Int} (h1:-(2^64) < j) (h2:j < 2^64):gG i j=true:=by
 unfold gG
 rw [Bool.or_eq_true,Bool.or_eq_true]
 exact .inl (.inr (by rw [decide_eq_true h1,decide_eq_true h2];rfl))
theorem zEk {i j:Int} (h1:-(2^64) < i) (h2:i < 2^64):gG i j=true:=by
 unfold gG
 rw [Bool.or_eq_true,Bool.or_eq_true]
 exact .inl (.inl (by rw [decide_eq_true h1,decide_eq_true h2];rfl))
theorem zCA {j:Int} {m:Nat} (h0:j≠0) (hj:j.natAbs < 2^m) (h:m<=8999):iZ j=true:=by
 unfold iZ
 have h1:=zGT hj
 rw [decide_eq_true h0,decide_eq_true (show nb j<=9000 by omega)]
 rfl
theorem okDiv_lit {j:Int} (h0:0 < j) (h:j < 1000000000000000000):iZ j=true:=zCA (m:=64) (by omega) (by omega) (by decide)
theorem okMul_litr {i j:Int} (h1:-1000000000000000000 < j) (h2:j < 1000000000000000000):gG i j=true:=zFt (by omega) (by omega)
theorem okMul_litl {i j:Int} (h1:-1000000000000000000 < i) (h2:i < 1000000000000000000):gG i j=true:=zEk (by omega) (by omega)
theorem p10 (n:Nat):(0:Int) < 10^n:=Int.pow_pos (by decide)
theorem p10ne (n:Nat):((10:Int)^n=0)=False:=eq_false (by have:=p10 n;omega)
theorem p10pos2 (n:Nat):(0:Int) < 2 * 10^n:=by have:=p10 n;omega
theorem p10ne2 (n:Nat):((2:Int) * 10^n=0)=False:=eq_false (by have:=p10 n;omega)
theorem okp9:lV 10 9=true:=by decide
theorem okp30:lV 10 30=true:=by decide
def dq (q:Rat):D:=.tup [.int q.num,.int (q.den:Int)]
def dp (p:Rat×Rat):D:=.tup [dq p.1,dq p.2]
theorem eq_dq (p q:Rat):eqD (dq p) (dq q)=decide (p=q):=by
 show ((p.num==q.num) && (((p.den:Int)==(q.den:Int)) && true))=decide (p=q)
 by_cases h:p=q
 ·subst h;simp
 ·rw [decide_eq_false h]
  by_cases h1:p.num=q.num
  ·have h2:p.den≠q.den:=fun e=>h (Rat.ext h1 e)
   have:((p.den:Int)==(q.den:Int))=false:=by simp;omega
   rw [this];simp
  ·simp [h1]
theorem dep_dq (q:Rat):dep (dq q)=1:=rfl
theorem ix_dq0 (q:Rat):oIx (dq q) (.int 0)=.ok (.int q.num):=rfl
theorem ix_dq1 (q:Rat):oIx (dq q) (.int 1)=.ok (.int (q.den:Int)):=rfl
theorem ty_dq (q:Rat):tyN (dq q) = "tuple" := rfl
theorem len_dq (q:Rat):iD [dq q]=.ok (.int 2):=rfl
theorem oEq_dq (p q:Rat):oEq (dq p) (dq q)=.ok (.bl (decide (p=q))):=by
 rw [<-eq_dq];rfl
theorem oNe_dq (p q:Rat):oNe (dq p) (dq q)=.ok (.bl (!decide (p=q))):=by
 rw [<-eq_dq];rfl
theorem noL_dq (q:Rat):noL (dq q)=true:=rfl
theorem fdiv_pos (a:Int) {b:Int} (h:0 < b):a.fdiv b=a / b:=Int.fdiv_eq_ediv_of_nonneg a (by omega)
theorem fmod_pos (a:Int) {b:Int} (h:0 < b):a.fmod b=a % b:=Int.fmod_eq_emod_of_nonneg a (by omega)
theorem pB {α:Type} {l:List α} {i:Nat} {a:α} (h:l[i]?=some a):l.take (i+1)=l.take i++[a]:=by rw [List.take_succ,h];rfl
end Fr
namespace L3
open PySem
def zDS (b:Sv):Fl->Res Fl
 | .nx ρ=>b ρ
 | .ret r=>.ok (.ret r)
 | .brk ρ=>.ok (.brk ρ)
 | .ctn ρ=>.ok (.ctn ρ)
theorem sSeq_at {a b:Sv} {ρ:Rho}:bT a b ρ=(a ρ).bind (zDS b):=by
 unfold bT;congr;funext f;cases f<;>rfl
def ifF (a b:Sv) (ρ:Rho):Bool->Res Fl
 | true=>a ρ
 | false=>b ρ
theorem sIf_at {t:Tv} {a b:Sv} {ρ:Rho}:sIf t a b ρ=(t ρ).bind (ifF a b ρ):=by
 unfold sIf;congr;funext c;cases c<;>rfl
def zJs (a b:Ev) (ρ:Rho):Bool->Res D
 | true=>a ρ
 | false=>b ρ
theorem eIf_at {t:Tv} {a b:Ev} {ρ:Rho}:eIf t a b ρ=(t ρ).bind (zJs a b ρ):=by
 unfold eIf;congr;funext c;cases c<;>rfl
def zIA (b:Ev) (ρ:Rho):D->Res D
 | .bl true=>b ρ
 | .bl false=>.ok (.bl false)
 | _=>.no
theorem eAnd_at {a b:Ev} {ρ:Rho}:zEC a b ρ=(a ρ).bind (zIA b ρ):=by
 unfold zEC;congr;funext c;cases c<;>try rfl
 rename_i c;cases c<;>rfl
def orF (b:Ev) (ρ:Rho):D->Res D
 | .bl true=>.ok (.bl true)
 | .bl false=>b ρ
 | _=>.no
theorem eOr_at {a b:Ev} {ρ:Rho}:eOr a b ρ=(a ρ).bind (orF b ρ):=by
 unfold eOr;congr;funext c;cases c<;>try rfl
 rename_i c;cases c<;>rfl
def opF (o:Op2) (b:Ev) (ρ:Rho) (x:D):Res D:=(b ρ).bind (o x)
theorem eOp_at {o:Op2} {a b:Ev} {ρ:Rho}:eOp o a b ρ=(a ρ).bind (opF o b ρ):=rfl
def consG (d:D) (ds:List D):Res (List D):=.ok (d::ds)
def consF (r:Fv) (ρ:Rho) (d:D):Res (List D):=(r ρ).bind (consG d)
theorem aCons_at {e:Ev} {r:Fv} {ρ:Rho}:aD e r ρ=(e ρ).bind (consF r ρ):=rfl
def tupF (ds:List D):Res D:=if ds.length<=16777216 then .ok (.tup ds) else .no
theorem eTup_at {a:Fv} {ρ:Rho}:zFB a ρ=(a ρ).bind tupF:=rfl
def rtF (r:Rt):Res D:=.ok r.d
def callF (m:Mir) (ds:List D):Res D:=(m ds).bind rtF
theorem eCall_at {m:Mir} {a:Fv} {ρ:Rho}:bK m a ρ=(a ρ).bind (callF m):=rfl
def isTF (T:String) (d:D):Res D:=.ok (.bl (isT T d))
theorem eIsT_at {T:String} {a:Ev} {ρ:Rho}:zBO T a ρ=(a ρ).bind (isTF T):=rfl
def isNF (d:D):Res D:=.ok (.bl (isNon d))
theorem eIsN_at {a:Ev} {ρ:Rho}:zFP a ρ=(a ρ).bind isNF:=rfl
def frzF (d:D):Res D:=if noL d=true then .ok d else .no
theorem eFrz_at {e:Ev} {ρ:Rho}:zIr e ρ=(e (ρ.map Sl.frz)).bind frzF:=rfl
def fLstF (ds:List D):Res (List D):=if ds.length<=16777216 then .ok ds else .no
theorem fLst_at {a:Fv} {ρ:Rho}:iL a ρ=(a ρ).bind fLstF:=rfl
def rtFF:Rt->Res (List D)
 | .f ds=>.ok ds
 | .v _=>.no
def fcallF (m:Mir) (ds:List D):Res (List D):=(m ds).bind rtFF
theorem fCall_at {m:Mir} {a:Fv} {ρ:Rho}:lW m a ρ=(a ρ).bind (fcallF m):=by
 unfold lW fcallF;congr
def vJ:List D->Res (List D)
 | [.lst ds]=>.ok ds
 | [.tup ds]=>.ok ds
 | _=>.no
theorem fListF_l {ds:List D}:vJ [.lst ds]=.ok ds:=rfl
theorem fListF_t {ds:List D}:vJ [.tup ds]=.ok ds:=rfl
theorem fList_at {a:Fv} {ρ:Rho}:qO a ρ=(a ρ).bind vJ:=rfl
def catG (x y:D):Res (List D):=match x,y with
 | .lst ds,.lst es=>if ds.length+es.length<=16777216 then .ok (ds++es) else .no
 | _,_=>.no
def catF (b:Ev) (ρ:Rho) (x:D):Res (List D):=(b ρ).bind (catG x)
theorem fCat_at {a b:Ev} {ρ:Rho}:zFo a b ρ=(a ρ).bind (catF b ρ):=rfl
def efF (ds:List D):Res D:=.ok (.lst ds)
theorem eF_at {f:Fv} {ρ:Rho}:eF f ρ=(f ρ).bind efF:=rfl
def fFrzF (ds:List D):Res (List D):=if noLs ds=true then .ok ds else .no
theorem fFrz_at {f:Fv} {ρ:Rho}:zIi f ρ=(f (ρ.map Sl.frz)).bind fFrzF:=rfl
def oSF:D->Res (Option Int)
 | .int i=>.ok (some i)
 | _=>.no
theorem oS_at {e:Ev} {ρ:Rho}:oS e ρ=(e ρ).bind oSF:=by
 unfold oS;congr
def fSlH (x:D) (l h:Option Int):Res (List D):=match x with
 | .lst ds=>.ok (bW ds l h)
 | _=>.no
def fSlG (hi:Ov) (ρ:Rho) (x:D) (l:Option Int):Res (List D):=(hi ρ).bind (fSlH x l)
def fSlF (lo hi:Ov) (ρ:Rho) (x:D):Res (List D):=(lo ρ).bind (fSlG hi ρ x)
theorem fSl_at {a:Ev} {lo hi:Ov} {ρ:Rho}:fSl a lo hi ρ=(a ρ).bind (fSlF lo hi ρ):=rfl
def blF:D->Res Bool
 | .bl b=>.ok b
 | _=>.no
theorem tVal_at {e:Ev} {ρ:Rho}:dU e ρ=(e ρ).bind blF:=by
 unfold dU;congr
def notF (b:Bool):Res Bool:=.ok (!b)
theorem tNotB_at {t:Tv} {ρ:Rho}:uZ t ρ=(t ρ).bind notF:=rfl
def zED (u:Tv) (ρ:Rho):Bool->Res Bool
 | true=>u ρ
 | false=>.ok false
theorem tAndB_at {t u:Tv} {ρ:Rho}:zCx t u ρ=(t ρ).bind (zED u ρ):=by
 unfold zCx;congr;funext c;cases c<;>rfl
def zJl (u:Tv) (ρ:Rho):Bool->Res Bool
 | true=>.ok true
 | false=>u ρ
theorem tOrB_at {t u:Tv} {ρ:Rho}:yT t u ρ=(t ρ).bind (zJl u ρ):=by
 unfold yT;congr;funext c;cases c<;>rfl
def setF (i:Nat) (ρ:Rho) (d:D):Res Fl:=.ok (.nx (ρ.set i (.val d)))
theorem sSet_at {i:Nat} {e:Ev} {ρ:Rho}:eJ i e ρ=(e ρ).bind (setF i ρ):=rfl
def ownF (i:Nat) (ρ:Rho) (ds:List D):Res Fl:=.ok (.nx (ρ.set i (.own ds)))
theorem sOwn_at {i:Nat} {f:Fv} {ρ:Rho}:zDG i f ρ=(f ρ).bind (ownF i ρ):=rfl
def dropF (ρ:Rho) (_d:D):Res Fl:=.ok (.nx ρ)
theorem sDrop_at {e:Ev} {ρ:Rho}:zAb e ρ=(e ρ).bind (dropF ρ):=rfl
def retF (d:D):Res Fl:=.ok (.ret (.v d))
theorem sRet_at {e:Ev} {ρ:Rho}:fF e ρ=(e (ρ.map Sl.frz)).bind retF:=rfl
def retFF (ds:List D):Res Fl:=.ok (.ret (.f ds))
theorem sRetF_at {f:Fv} {ρ:Rho}:qR f ρ=(f (ρ.map Sl.frz)).bind retFF:=rfl
def raiseF (c:Str) (ds:List D):Res Fl:=if ds.length<=16777216 then .err c else .no
theorem sRaise_at {c:Str} {a:Fv} {ρ:Rho}:iM c a ρ=(a ρ).bind (raiseF c):=rfl
def appF (i:Nat) (ρ:Rho) (ds:List D) (d:D):Res Fl:=if ds.length < 16777216 then .ok (.nx (ρ.set i (.own (ds++[d])))) else .no
def appS (i:Nat) (e:Ev) (ρ:Rho):Option Sl->Res Fl
 | some (.own ds)=>(e ρ).bind (appF i ρ ds)
 | _=>.no
theorem sApp_at {i:Nat} {e:Ev} {ρ:Rho}:zDD i e ρ=appS i e ρ ρ[i]?:=by
 unfold zDD appS;rfl
def extF (i:Nat) (ρ:Rho) (ds:List D) (es:List D):Res Fl:=if ds.length+es.length<=16777216 then .ok (.nx (ρ.set i (.own (ds++es)))) else .no
def extS (i:Nat) (e:Fv) (ρ:Rho):Option Sl->Res Fl
 | some (.own ds)=>(e ρ).bind (extF i ρ ds)
 | _=>.no
theorem sExt_at {i:Nat} {e:Fv} {ρ:Rho}:zHE i e ρ=extS i e ρ ρ[i]?:=by
 unfold zHE extS;rfl
def augF (i:Nat) (ρ:Rho) (o:Op2) (x y:D):Res Fl:=(o x y).bind (setF i ρ)
def augS (i:Nat) (o:Op2) (e:Ev) (ρ:Rho):Option Sl->Res Fl
 | some (.val x)=>(e ρ).bind (augF i ρ o x)
 | _=>.no
theorem sAug_at {i:Nat} {o:Op2} {e:Ev} {ρ:Rho}:zJJ i o e ρ=augS i o e ρ ρ[i]?:=by
 unfold zJJ augS;rfl
def dropG (ρ:Rho) (_r:Rt):Res Fl:=.ok (.nx ρ)
def setG (i:Nat) (ρ:Rho) (r:Rt):Res Fl:=.ok (.nx (ρ.set i (.val r.d)))
def xsetF (i:Nat) (m:Mir) (ρ:Rho) (ds:List D):Res Fl:=(m ds).bind (setG i ρ)
theorem xSet_at {i:Nat} {m:Mir} {a:Fv} {ρ:Rho}:zIn i m a ρ=(noErr (a ρ)).bind (xsetF i m ρ):=rfl
theorem xIf_at {t:Tv} {a b:Sv} {ρ:Rho}:xIf t a b ρ=(noErr (t ρ)).bind (ifF a b ρ):=by
 unfold xIf;congr;funext c;cases c<;>rfl
def zID (i:Nat):Res Fl->Res Fl
 | .ok (.nx ρ')=>.ok (.nx (ρ'.set i .un))
 | _=>.no
def zGp (i:Nat) (h:Sv) (ρ:Rho) (c:Str):Bool->Res Fl
 | true=>zID i (h (ρ.set i (.exc c)))
 | false=>.no
def zJu (tb:List Str) (i:Nat) (h:Sv) (ρ:Rho):Res Fl->Res Fl
 | .err c=>zGp i h ρ c (tb.contains c)
 | .ok f=>.ok f
 | .no=>.no
theorem sTry_at {tb:List Str} {i:Nat} {b h:Sv} {ρ:Rho}:zIb tb i b h ρ=zJu tb i h ρ (b ρ):=by
 unfold zIb
 cases b ρ with
 | ok f=>rfl
 | no=>rfl
 | err c=>
  show (if tb.contains c=true then _ else _)=zGp i h ρ c (tb.contains c)
  cases tb.contains c with
  | false=>rfl
  | true=>
   simp only [if_true,zGp]
   cases h (ρ.set i (.exc c)) with
   | ok f=>cases f<;>rfl
   | _=>rfl
def zIj (anc:List (Str×List Str)) (cs:List Str):Option Sl->Res D
 | some (.exc c)=>(match anc.lookup c with
  | some l=>.ok (.bl (cs.any fun x=>l.contains x))
  | none=>.no)
 | _=>.no
theorem eIsE_at {anc:List (Str×List Str)} {i:Nat} {cs:List Str} {ρ:Rho}:zFW anc i cs ρ=zIj anc cs ρ[i]?:=by
 unfold zFW zIj;rfl
def varS:Option Sl->Res D
 | some (.val d)=>.ok d
 | _=>.no
theorem eVar_at {i:Nat} {ρ:Rho}:aG i ρ=varS ρ[i]?:=by
 unfold aG varS;rfl
def retS:Option Sl->Res Fl
 | some (.own ds)=>.ok (.ret (.f ds))
 | _=>.no
theorem sRetOwn_at {i:Nat} {ρ:Rho}:iF i ρ=retS ρ[i]?:=by
 unfold iF retS;rfl
def nxF (ρ:Rho):Res Fl:=.ok (.nx ρ)
def unpF (g:Gv) (ρ:Rho) (d:D):Res Fl:=(g d ρ).bind nxF
theorem sUnp_at {g:Gv} {f:Ev} {ρ:Rho}:zJY g f ρ=(f ρ).bind (unpF g ρ):=rfl
def gtF (gs:List D->Rho->Res Rho) (ρ:Rho):D->Res Rho
 | .tup ds=>gs ds ρ
 | _=>.no
theorem gTup_at {gs:List D->Rho->Res Rho} {d:D} {ρ:Rho}:zCb gs d ρ=gtF gs ρ d:=by
 unfold zCb gtF;rfl
theorem gCons_at {g:Gv} {r:List D->Rho->Res Rho} {d:D} {ds:List D} {ρ:Rho}:jA g r (d::ds) ρ=(g d ρ).bind (r ds):=rfl
theorem gNil_at {ρ:Rho}:zBV [] ρ=.ok ρ:=rfl
def forF (g:Gv) (b:Sv) (ρ:Rho) (ds:List D):Res Fl:=loop g b ds ρ
theorem sFor_at {it:Fv} {g:Gv} {b:Sv} {ρ:Rho}:uD it g b ρ=(it ρ).bind (forF g b ρ):=rfl
def zIw:D->Res (List D)
 | .lst ds=>.ok ds
 | .tup ds=>.ok ds
 | _=>.no
theorem seqD_l {ds:List D}:zIw (.lst ds)=.ok ds:=rfl
theorem seqD_t {ds:List D}:zIw (.tup ds)=.ok ds:=rfl
theorem iSeq_at {e:Ev} {ρ:Rho}:yR e ρ=(e ρ).bind zIw:=by
 unfold yR;congr
def zHh:List D->Res (List D)
 | [.int j]=>if -(2^62)<=j/\j < 2^62 then .ok (rng 0 j.toNat 1) else .no
 | _=>.no
theorem iRng1_at {a:Fv} {ρ:Rho}:sY a ρ=(a ρ).bind zHh:=rfl
theorem fn_at {p n:Nat} {b:Sv} {ds:List D} (h:ds.length=p):fn p n b ds=(b (start n ds)).bind fin:=by
 unfold fn;rw [if_pos h]
theorem nr {α:Sort _} {a b:α} (h:a=b):a=b:=h
theorem okb {α β:Type} {a:α} {f:α->Res β}:(Res.ok a).bind f=f a:=nr rfl
theorem erb {α β:Type} {c:Str} {f:α->Res β}:(Res.err c).bind f=.err c:=nr rfl
theorem seqF_nx {b:Sv} {ρ:Rho}:zDS b (.nx ρ)=b ρ:=nr rfl
theorem seqF_ret {b:Sv} {r:Rt}:zDS b (.ret r)=.ok (.ret r):=nr rfl
theorem gtF_t {gs:List D->Rho->Res Rho} {ρ:Rho} {ds:List D}:gtF gs ρ (.tup ds)=gs ds ρ:=nr rfl
theorem ifF_t {a b:Sv} {ρ:Rho}:ifF a b ρ true=a ρ:=nr rfl
theorem ifF_f {a b:Sv} {ρ:Rho}:ifF a b ρ false=b ρ:=nr rfl
theorem eifF_t {a b:Ev} {ρ:Rho}:zJs a b ρ true=a ρ:=nr rfl
theorem eifF_f {a b:Ev} {ρ:Rho}:zJs a b ρ false=b ρ:=nr rfl
theorem andF_t {b:Ev} {ρ:Rho}:zIA b ρ (.bl true)=b ρ:=nr rfl
theorem andF_f {b:Ev} {ρ:Rho}:zIA b ρ (.bl false)=.ok (.bl false):=nr rfl
theorem orF_t {b:Ev} {ρ:Rho}:orF b ρ (.bl true)=.ok (.bl true):=nr rfl
theorem orF_f {b:Ev} {ρ:Rho}:orF b ρ (.bl false)=b ρ:=nr rfl
theorem tandF_t {u:Tv} {ρ:Rho}:zED u ρ true=u ρ:=nr rfl
theorem tandF_f {u:Tv} {ρ:Rho}:zED u ρ false=.ok false:=nr rfl
theorem torF_t {u:Tv} {ρ:Rho}:zJl u ρ true=.ok true:=nr rfl
theorem torF_f {u:Tv} {ρ:Rho}:zJl u ρ false=u ρ:=nr rfl
theorem tryE_t {i:Nat} {h:Sv} {ρ:Rho} {c:Str}:zGp i h ρ c true=zID i (h (ρ.set i (.exc c))):=rfl
theorem tryF_ok {tb:List Str} {i:Nat} {h:Sv} {ρ:Rho} {f:Fl}:zJu tb i h ρ (.ok f)=.ok f:=rfl
theorem tryF_err {tb:List Str} {i:Nat} {h:Sv} {ρ:Rho} {c:Str}:zJu tb i h ρ (.err c)=zGp i h ρ c (tb.contains c):=rfl
theorem tryH_nx {i:Nat} {ρ:Rho}:zID i (.ok (.nx ρ))=.ok (.nx (ρ.set i .un)):=rfl
theorem oAdd_i {i j:Int}:rB (.int i) (.int j)=.ok (.int (i+j)):=rfl
theorem oSub_i {i j:Int}:zKb (.int i) (.int j)=.ok (.int (i - j)):=rfl
theorem oMul_i {i j:Int} (h:gG i j=true):zFR (.int i) (.int j)=.ok (.int (i * j)):=if_pos h
theorem oDiv_i {i j:Int} (h:iZ j=true):mY (.int i) (.int j)=.ok (.int (i.fdiv j)):=if_pos h
theorem oMod_i {i j:Int} (h:j≠0):iX (.int i) (.int j)=.ok (.int (i.fmod j)):=if_pos h
theorem oPow_i {i j:Int} (h:lV i j=true):yO (.int i) (.int j)=.ok (.int (i^j.toNat)):=if_pos h
theorem oEq_i {i j:Int}:oEq (.int i) (.int j)=.ok (.bl (decide (i=j))):=rfl
theorem oNe_i {i j:Int}:oNe (.int i) (.int j)=.ok (.bl (!decide (i=j))):=rfl
theorem oLt_i {i j:Int}:oLt (.int i) (.int j)=.ok (.bl (decide (i < j))):=rfl
theorem oLe_i {i j:Int}:oLe (.int i) (.int j)=.ok (.bl (decide (i<=j))):=rfl
theorem oGt_i {i j:Int}:oGt (.int i) (.int j)=.ok (.bl (decide (j < i))):=rfl
theorem oGe_i {i j:Int}:oGe (.int i) (.int j)=.ok (.bl (decide (j<=i))):=rfl
theorem ofO_some {α:Type} {a:α}:ofO (some a)=.ok a:=rfl
theorem oNeg_i {i:Int}:zIt (.int i)=.ok (.int (-i)):=rfl
theorem oNot_b {b:Bool}:zJf (.bl b)=.ok (.bl (!b)):=rfl
theorem bAbs_i {i:Int}:zJU [.int i]=.ok (.int (i.natAbs:Int)):=by
 show Res.ok (D.int (if i < 0 then -i else i))=_
 congr 2;split<;>omega
theorem bMin_i {i j:Int}:zGx [.int i,.int j]=.ok (.int (min i j)):=by
 show Res.ok (D.int (if j < i then j else i))=_
 congr 2;split<;>omega
theorem nE {j:Int} (h1:-(2^62)<=j) (h2:j < 2^62):zHh [.int j]=.ok (rng 0 j.toNat 1):=if_pos ⟨h1,h2⟩
theorem zAS {α:Type} {g:Gv} {b:Sv} {ds:List D} {ρ:Rho} {k:Fl->Res α} {Q:Res α->Prop} (P:Rho->Prop) (h0:P ρ)
  (st:∀ d ρ,d∈ds->P ρ->∃ ρ2,(g d ρ).bind b=.ok (.nx ρ2)/\P ρ2) (fi:∀ ρ',P ρ'->Q (k (.nx ρ'))):Q ((loop g b ds ρ).bind k):=by
 suffices h:∃ ρ',loop g b ds ρ=.ok (.nx ρ')/\P ρ' by
  obtain ⟨ρ',e,hp⟩:=h
  rw [e]
  exact fi ρ' hp
 clear fi
 induction ds generalizing ρ with
 | nil=>exact ⟨ρ,rfl,h0⟩
 | cons d ds ih=>
  obtain ⟨ρ2,e,hp⟩:=st d ρ List.mem_cons_self h0
  obtain ⟨ρ',e',hp'⟩:=ih hp fun d' ρ' hd=>st d' ρ' (List.mem_cons_of_mem _ hd)
  refine ⟨ρ',?_,hp'⟩
  rw [loop]
  cases hg:g d ρ with
  | no=>rw [hg] at e;cases e
  | err c=>rw [hg] at e;cases e
  | ok ρ1=>
   rw [hg] at e
   have e2:b ρ1=.ok (.nx ρ2):=e
   simp only [Res.bind,e2]
   exact e'
theorem ty_i {i:Int}:tyN (.int i) = "int" := rfl
theorem ty_b {b:Bool}:tyN (.bl b) = "bool" := rfl
theorem ty_t {ds:List D}:tyN (.tup ds) = "tuple" := rfl
theorem ty_l {ds:List D}:tyN (.lst ds) = "list" := rfl
theorem ty_s {x:Str}:tyN (.str x) = "str" := rfl
theorem ty_n:tyN .non = "NoneType" := rfl
theorem bLen_t {ds:List D}:iD [.tup ds]=.ok (.int ds.length):=rfl
theorem bLen_l {ds:List D}:iD [.lst ds]=.ok (.int ds.length):=rfl
theorem bTup_t {ds:List D}:zCe [.tup ds]=.ok (.tup ds):=rfl
theorem bTup_l {ds:List D}:zCe [.lst ds]=.ok (.tup ds):=rfl
theorem jT {α:Type} {g:Gv} {b:Sv} {ds:List D} {ρ:Rho} {k:Fl->Res α} {Q:Res α->Prop} (P:Nat->Rho->Prop) (h0:P 0 ρ)
  (st:∀ i d ρ,ds[i]?=some d->P i ρ->∃ ρ2,(g d ρ).bind b=.ok (.nx ρ2)/\P (i+1) ρ2) (fi:∀ ρ',P ds.length ρ'->Q (k (.nx ρ'))):Q ((loop g b ds ρ).bind k):=by
 suffices h:∀ (ds:List D) (j:Nat) (ρ:Rho),P j ρ->(∀ i d ρ,ds[i]?=some d->P (j+i) ρ->∃ ρ2,(g d ρ).bind b=.ok (.nx ρ2)/\P (j+i+1) ρ2)->∃ ρ',loop g b ds ρ=.ok (.nx ρ')/\P (j+ds.length) ρ' by
  obtain ⟨ρ',e,hp⟩:=h ds 0 ρ h0 (fun i d ρ hd hp=>by rw [Nat.zero_add] at hp ⊢;exact st i d ρ hd hp)
  rw [e]
  exact fi ρ' (by rw [Nat.zero_add] at hp;exact hp)
 intro ds
 induction ds with
 | nil=>intro j ρ hp _;exact ⟨ρ,rfl,hp⟩
 | cons d ds ih=>
  intro j ρ hp st
  obtain ⟨ρ2,e,hp2⟩:=st 0 d ρ rfl hp
  obtain ⟨ρ',e',hp'⟩:=ih (j+1) ρ2 hp2 fun i d' ρ' hd hp=>by
   have:=st (i+1) d' ρ' (by simpa using hd) (by rw [show j+(i+1)=j+1+i by omega];exact hp)
   rw [show j+(i+1)=j+1+i by omega] at this
   exact this
  refine ⟨ρ',?_,by rw [List.length_cons,show j+(ds.length+1)=j+1+ds.length by omega];exact hp'⟩
  rw [loop]
  cases hg:g d ρ with
  | no=>rw [hg] at e;cases e
  | err c=>rw [hg] at e;cases e
  | ok ρ1=>
   rw [hg] at e
   have e2:b ρ1=.ok (.nx ρ2):=e
   simp only [Res.bind,e2]
   exact e'
theorem vK {lo c:Int} {n i:Nat} {d:D} (h:(rng lo n c)[i]?=some d):i < n/\d=.int (lo+(i:Int) * c):=by
 unfold rng at h
 rw [List.getElem?_map] at h
 by_cases hi:i < n
 ·rw [List.getElem?_range hi] at h
  cases h
  exact ⟨hi,rfl⟩
 ·rw [List.getElem?_eq_none (by rw [List.length_range];omega)] at h
  cases h
theorem zAf {lo c:Int} {n:Nat}:(rng lo n c).length=n:=by unfold rng;rw [List.length_map,List.length_range]
def zEn (t:Tv) (f:Ev) (ρ:Rho) (ds:List D):Res (List D):=if ds.length<=16777215 then eI t f ρ ds else .no
theorem fComp_at {it:Fv} {t:Tv} {f:Ev} {ρ:Rho}:xV it t f ρ=(it ρ).bind (zEn t f ρ):=rfl
theorem zEa {d:D} (h:dep d<=50):oNe d d=.ok (.bl false):=by unfold oNe;rw [if_pos h,lF];rfl
theorem wT {ds:List D} {k:Int} (h:0<=k):bW ds none (some k)=ds.take k.toNat:=by
 unfold bW cut
 simp only [h,if_true,List.drop_zero,Nat.sub_zero]
 rcases Nat.le_total k.toNat ds.length with l | l
 ·rw [Nat.min_eq_left l]
 ·rw [Nat.min_eq_right l,List.take_length,List.take_of_length_le l]
theorem wK {α:Type} (l:List α) (a:Nat):l.drop (min a l.length)=l.drop a:=by
 rcases Nat.le_total a l.length with h | h
 ·rw [Nat.min_eq_left h]
 ·rw [Nat.min_eq_right h,List.drop_length,List.drop_eq_nil_of_le h]
theorem zN {ds:List D} {a b:Int} (h1:0<=a) (h2:0<=b):bW ds (some a) (some b)=(ds.drop a.toNat).take (b.toNat - a.toNat):=by
 unfold bW cut
 simp only [h1,h2,if_true]
 rw [wK]
 rcases Nat.le_total ds.length a.toNat with c | c
 ·rw [List.drop_eq_nil_of_le c,List.take_nil,List.take_nil]
 ·rw [Nat.min_eq_left c]
  rcases Nat.le_total b.toNat ds.length with d | d
  ·rw [Nat.min_eq_left d]
  ·rw [Nat.min_eq_right d,List.take_of_length_le (by rw [List.length_drop];exact Nat.le_refl _),List.take_of_length_le (by rw [List.length_drop];exact Nat.sub_le_sub_right d _)]
theorem oX {ds:List D} {a:Int} (h1:0<=a):bW ds (some a) none=ds.drop a.toNat:=by
 unfold bW cut
 simp only [h1,if_true]
 rw [wK,List.take_of_length_le (by rw [List.length_drop];omega)]
theorem mD {α:Type} {f:α->D} {l:List α} {i:Int} {a:α} (h0:0<=i) (h:l[i.toNat]?=some a):oIx (.lst (l.map f)) (.int i)=.ok (f a):=by
 show ofO (atD (l.map f) i)=_
 unfold atD
 rw [if_pos h0,List.getElem?_map,h]
 rfl
theorem oIx_tc {d:D} {ds:List D} {i:Int}:oIx (.tup (d::ds)) (.int i)=ofO (atD (d::ds) i):=rfl
theorem zEK {α:Type} {f:α->D} {l:List α} {i:Int} {a:α} (h0:0<=i) (h:l[i.toNat]?=some a):oIx (.tup (l.map f)) (.int i)=.ok (f a):=by
 show ofO (atD (l.map f) i)=_
 unfold atD
 rw [if_pos h0,List.getElem?_map,h]
 rfl
theorem lX {α:Type} {g:Gv} {b:Sv} {ds:List D} {ρ:Rho} {k:Fl->Res α} {Q:Res α->Prop} (P:Nat->Rho->Prop) (h0:P 0 ρ)
  (st:∀ i d ρ,ds[i]?=some d->P i ρ->(∃ ρ2,(g d ρ).bind b=.ok (.nx ρ2)/\P (i+1) ρ2)∨∃ r,(g d ρ).bind b=.ok (.ret r)/\Q (k (.ret r))) (fi:∀ ρ',P ds.length ρ'->Q (k (.nx ρ'))):Q ((loop g b ds ρ).bind k):=by
 suffices h:∀ (ds:List D) (j:Nat) (ρ:Rho),P j ρ->(∀ i d ρ,ds[i]?=some d->P (j+i) ρ->(∃ ρ2,(g d ρ).bind b=.ok (.nx ρ2)/\P (j+i+1) ρ2)∨∃ r,(g d ρ).bind b=.ok (.ret r)/\Q (k (.ret r)))->(∃ ρ',loop g b ds ρ=.ok (.nx ρ')/\P (j+ds.length) ρ')∨∃ r,loop g b ds ρ=.ok (.ret r)/\Q (k (.ret r)) by
  rcases h ds 0 ρ h0 (fun i d ρ hd hp=>by rw [Nat.zero_add] at hp ⊢;exact st i d ρ hd hp) with ⟨ρ',e,hp⟩ | ⟨r,e,hq⟩
  ·rw [e]
   exact fi ρ' (by rw [Nat.zero_add] at hp;exact hp)
  ·rw [e]
   exact hq
 intro ds
 induction ds with
 | nil=>intro j ρ hp _;exact .inl ⟨ρ,rfl,hp⟩
 | cons d ds ih=>
  intro j ρ hp st
  rcases st 0 d ρ rfl hp with ⟨ρ2,e,hp2⟩ | ⟨r,e,hq⟩
  ·have e3:loop g b (d::ds) ρ=loop g b ds ρ2:=by
    rw [loop]
    cases hg:g d ρ with
    | no=>rw [hg] at e;cases e
    | err c=>rw [hg] at e;cases e
    | ok ρ1=>
     rw [hg] at e
     have e2:b ρ1=.ok (.nx ρ2):=e
     simp only [Res.bind,e2]
   rw [e3]
   rcases ih (j+1) ρ2 hp2 (fun i d' ρ' hd hp=>by
    have:=st (i+1) d' ρ' (by simpa using hd) (by rw [show j+(i+1)=j+1+i by omega];exact hp)
    rw [show j+(i+1)=j+1+i by omega] at this
    exact this) with ⟨ρ',e',hp'⟩ | h
   ·exact .inl ⟨ρ',e',by rw [List.length_cons,show j+(ds.length+1)=j+1+ds.length by omega];exact hp'⟩
   ·exact .inr h
  ·refine .inr ⟨r,?_,hq⟩
   rw [loop]
   cases hg:g d ρ with
   | no=>rw [hg] at e;cases e
   | err c=>rw [hg] at e;cases e
   | ok ρ1=>
    rw [hg] at e
    have e2:b ρ1=.ok (.ret r):=e
    simp only [Res.bind,e2]
def zIR (ds:List D):D->Res (List D)
 | .int k=>if 0<=k/\k < 2^62/\ds.length * k.toNat<=16777216 then .ok (List.replicate k.toNat ds).flatten else .no
 | _=>.no
def repF (g:Ev) (ρ:Rho) (ds:List D):Res (List D):=(g ρ).bind (zIR ds)
theorem fRep_at {f:Fv} {g:Ev} {ρ:Rho}:zFX f g ρ=(f ρ).bind (repF g ρ):=by
 unfold zFX repF;congr
theorem zDB {d:D} {k:Nat} (h:k<=16777216):zIR [d] (.int (k:Int))=.ok (List.replicate k d):=by
 have e:∀ n,(List.replicate n [d]).flatten=List.replicate n d:=by
  intro n
  induction n with
  | zero=>rfl
  | succ n ih=>rw [List.replicate_succ,List.flatten_cons,ih];rfl
 unfold zIR
 dsimp only
 rw [if_pos ⟨by omega,by omega,by simp only [List.length_cons,List.length_nil,Int.toNat_natCast];omega⟩,Int.toNat_natCast,e]
theorem zAw {α:Type} {u:α->D} {f:Ev} {ρ:Rho} {g:α->D}:∀ {l:List α},(∀ a∈l,f (ρ++[.val (u a)])=.ok (g a))->eI xC f ρ (l.map u)=.ok (l.map g)
 | [],_=>rfl
 | a::l,h=>by
  rw [List.map_cons,eI,h a List.mem_cons_self]
  simp only [xC,noErr,Res.bind,if_true]
  rw [zAw fun b hb=>h b (List.mem_cons_of_mem _ hb)]
  rfl
theorem vR {α:Type} {u:α->D} {f:Ev} {ρ:Rho} {g:α->D} {l:List α} (hl:l.length<=16777215) (h:∀ a∈l,f (ρ++[.val (u a)])=.ok (g a)):zEn xC f ρ (l.map u)=.ok (l.map g):=by
 unfold zEn;rw [if_pos (by rw [List.length_map];exact hl),zAw h]
theorem bSum_l {ns:List Int}:zFQ [.lst (ns.map D.int)]=.ok (.int ns.sum):=by
 have e:∀ ns:List Int,gU (ns.map D.int)=some ns:=by
  intro ns
  induction ns with
  | nil=>rfl
  | cons i ns ih=>rw [List.map_cons,gU,ih]
 show (match gU (ns.map D.int) with | some ns=>Res.ok (D.int ns.sum) | none=>.no)=_
 rw [e]
theorem bSum_t {ns:List Int}:zFQ [.tup (ns.map D.int)]=.ok (.int ns.sum):=by
 have e:∀ ns:List Int,gU (ns.map D.int)=some ns:=by
  intro ns
  induction ns with
  | nil=>rfl
  | cons i ns ih=>rw [List.map_cons,gU,ih]
 show (match gU (ns.map D.int) with | some ns=>Res.ok (D.int ns.sum) | none=>.no)=_
 rw [e]
theorem iStr_at {f:Ev} {ρ:Rho}:zIJ f ρ=(f ρ).bind zIB:=rfl
theorem chrD_s {x:Str}:zIB (.str x)=.ok (x.cps.toList.map fun c=>.str ⟨#[c]⟩):=rfl
def chB (o o':Op2) (h:Ev) (ρ:Rho) (x y:D):Res D:=(o x y).bind (zGr o' h ρ y)
def chA (o o':Op2) (g h:Ev) (ρ:Rho) (x:D):Res D:=(g ρ).bind (chB o o' h ρ x)
theorem eChain_at {o o':Op2} {f g h:Ev} {ρ:Rho}:vV o o' f g h ρ=(f ρ).bind (chA o o' g h ρ):=rfl
theorem chnF_t {o:Op2} {h:Ev} {ρ:Rho} {y:D}:zGr o h ρ y (.bl true)=(h ρ).bind (o y):=rfl
theorem chnF_f {o:Op2} {h:Ev} {ρ:Rho} {y:D}:zGr o h ρ y (.bl false)=.ok (.bl false):=rfl
theorem oAddS_s {x y:Str}:zAc (.str x) (.str y)=if x.length+y.length<=sizeLine then .ok (.str (x++y)) else .no:=rfl
theorem zDL {z:Str} {i:Int}:zCi (.str z) (.int i)=if 0<=i/\i < 2^63 then chO z.cps[i.toNat]? else .no:=rfl
theorem oInS_s {x y:Str}:zHa (.str x) (.str y)=.ok (.bl (inS x y)):=rfl
theorem bLenS_s {x:Str}:zBt [.str x]=if x.length<=sizeLine then .ok (.int x.length) else .no:=rfl
theorem oG {α:Type} (p:α->Bool):∀ l:List α,kH (l.map fun a=>D.bl (p a))=some (l.map p)
 | []=>rfl
 | a::l=>by rw [List.map_cons,kH,oG p l];rfl
theorem zCm {α:Type} {p:α->Bool} {l:List α}:zHA [.lst (l.map fun a=>D.bl (p a))]=.ok (.bl (l.all p)):=by
 show (match kH (l.map fun a=>D.bl (p a)) with | some bs=>Res.ok (D.bl (bs.all id)) | none=>.no)=_
 rw [oG]
 show Res.ok (D.bl ((l.map p).all id))=_
 rw [List.all_map]
 rfl
theorem chO_s {c:Nat}:chO (some c)=.ok (.str ⟨#[c]⟩):=rfl
theorem zGW {x:Str}:dep (.str x)<=50:=by simp [dep]
theorem oEq_s {x y:Str}:oEq (.str x) (.str y)=.ok (.bl (x==y)):=by
 unfold oEq;rw [if_pos zGW,eqD]
theorem oNe_s {x y:Str}:oNe (.str x) (.str y)=.ok (.bl (!(x==y))):=by
 unfold oNe;rw [if_pos zGW,eqD]
theorem oIxS_0 {z:Str}:zCi (.str z) (.int 0)=chO z.cps[0]?:=by rw [zDL,if_pos ⟨by decide,by decide⟩];rfl
theorem gF {g:Gv} {b:Sv} {d:D} {ds:List D} {ρ ρ1 ρ2:Rho} (hg:g d ρ=.ok ρ1) (hb:b ρ1=.ok (.nx ρ2)):loop g b (d::ds) ρ=loop g b ds ρ2:=by
 rw [loop]
 simp only [hg,Res.bind,hb]
theorem oTabNot_s {T:List (Str×Str)} {x:Str}:jY T (.str x)=.ok (.bl (!(T.lookup x).isSome)):=rfl
theorem sO {α:Type} (p:α->Int):∀ l:List α,gU (l.map fun a=>D.int (p a))=some (l.map p)
 | []=>rfl
 | a::l=>by rw [List.map_cons,gU,sO p l];rfl
def mx0:List Int->Int
 | []=>0
 | a::r=>qC a r
theorem zBw {α:Type} {p:α->Int} {l:List α}:vG [.lst (l.map fun a=>D.int (p a)),.int 0]=.ok (.int (mx0 (l.map p))):=by
 show (match gU (l.map fun a=>D.int (p a)) with | some (a::r)=>Res.ok (D.int (qC a r)) | some []=>.ok (.int 0) | none=>.no)=_
 rw [sO]
 cases l<;>rfl
def zJE:List D->Res (List D)
 | [x,y]=>match zCc x,zCc y with
  | some xs,some ys=>.ok (iG xs ys)
  | _,_=>.no
 | _=>.no
theorem iZip_at {a:Fv} {ρ:Rho}:zHr a ρ=(a ρ).bind zJE:=by
 unfold zHr;congr
theorem zBo {x y:D} {xs ys:List D} (hx:zCc x=some xs) (hy:zCc y=some ys):zJE [x,y]=.ok (iG xs ys):=by
 show (match zCc x,zCc y with | some xs,some ys=>Res.ok (iG xs ys) | _,_=>.no)=_
 rw [hx,hy]
def zDr:D->Res (List D)
 | .lst ds=>.ok (gI 0 ds)
 | .tup ds=>.ok (gI 0 ds)
 | _=>.no
theorem enumF_t {ds:List D}:zDr (.tup ds)=.ok (gI 0 ds):=rfl
theorem enumF_l {ds:List D}:zDr (.lst ds)=.ok (gI 0 ds):=rfl
theorem iEnum_at {e:Ev} {ρ:Rho}:zDd e ρ=(e ρ).bind zDr:=by
 unfold zDd;congr
def zBi (f:Ev) (ρ:Rho) (ds:List D):Res (List D):=if ds.length<=16777215 then cW f ρ ds else .no
theorem fComp2_at {it:Fv} {f:Ev} {ρ:Rho}:oK it f ρ=(it ρ).bind (zBi f ρ):=rfl
theorem wP {α β:Type} {u:α->D} {v:β->D} {f:Ev} {ρ:Rho} {g:α->β->D}:∀ {l:List α} {m:List β},(∀ p∈l.zip m,f (ρ++[.val (u p.1),.val (v p.2)])=.ok (g p.1 p.2))->
  cW f ρ (iG (l.map u) (m.map v))=.ok ((l.zip m).map fun p=>g p.1 p.2)
 | [],m,h=>by cases m<;>rfl
 | a::l,[],h=>rfl
 | a::l,b::m,h=>by
  have h1:=h (a,b) List.mem_cons_self
  have h2:=wP (l:=l) (m:=m) (u:=u) (v:=v) (g:=g) fun p hp=>h p (List.mem_cons_of_mem _ hp)
  show (noErr (f (ρ++[.val (u a),.val (v b)]))).bind (fun e=>(cW f ρ (iG (l.map u) (m.map v))).bind fun es=>.ok (e::es))=_
  rw [h1,h2]
  rfl
theorem rF {α β:Type} {u:α->D} {v:β->D} {f:Ev} {ρ:Rho} {g:α->β->D} {l:List α} {m:List β} (hl:l.length<=16777215) (h:∀ p∈l.zip m,f (ρ++[.val (u p.1),.val (v p.2)])=.ok (g p.1 p.2)):
  zBi f ρ (iG (l.map u) (m.map v))=.ok ((l.zip m).map fun p=>g p.1 p.2):=by
 unfold zBi
 rw [if_pos,wP h]
 have:∀ (a b:List D),(iG a b).length<=a.length:=by
  intro a
  induction a with
  | nil=>intro b;cases b<;>exact Nat.le_refl _
  | cons x a ih=>intro b;cases b with
   | nil=>exact Nat.zero_le _
   | cons y b=>exact Nat.succ_le_succ (ih b)
 exact Nat.le_trans (this _ _) (by rw [List.length_map];exact hl)
def zJG (hi:Ov) (ρ:Rho) (x:D) (l:Option Int):Res D:=(hi ρ).bind fun h=>slQ l h x
def slQF (lo hi:Ov) (ρ:Rho) (x:D):Res D:=(lo ρ).bind (zJG hi ρ x)
theorem eSlQ_at {a:Ev} {lo hi:Ov} {ρ:Rho}:zIs a lo hi ρ=(a ρ).bind (slQF lo hi ρ):=rfl
def zFk (x:D) (l h:Option Int):Res D:=slQ l h x
theorem slQE_at {hi:Ov} {ρ:Rho} {x:D} {l:Option Int}:zJG hi ρ x l=(hi ρ).bind (zFk x l):=rfl
theorem slQG_l {ds:List D} {l h:Option Int}:zFk (.lst ds) l h=.ok (.lst (bW ds l h)):=rfl
theorem slQG_t {ds:List D} {l h:Option Int}:zFk (.tup ds) l h=.ok (.tup (bW ds l h)):=rfl
theorem eFst_at {fs:Fv} {ρ:Rho}:zFN fs ρ=(fs ρ).bind zGF:=rfl
theorem eJoin_at {sep:Str} {e:Ev} {ρ:Rho}:zDX sep e ρ=(e ρ).bind (sP sep):=rfl
end L3
namespace Ln
open Fq
abbrev Pt:=Rat×Rat
def asc (a b:Pt):Prop:=a.1 < b.1/\a.2<=b.2
def btw (a b c:Pt):Bool:=decide ((b.2 - a.2) * (c.1 - b.1)=(c.2 - b.2) * (b.1 - a.1))
def push:List Pt->Pt->List Pt
 | b::a::s,c=>if btw a b c=true then c::a::s else c::b::a::s
 | s,c=>c::s
def few:Pt->List Pt->List Pt
 | _,[]=>[]
 | _,[b]=>[b]
 | a,b::c::r=>if btw a b c=true then few b (c::r) else b::few b (c::r)
def Ok (ps:List Pt):Prop:=ps.head?=some (0,0)/\ps.Pairwise asc
def itp (p q:Pt) (x:Rat):Rat:=p.2+(x - p.1) / (q.1 - p.1) * (q.2 - p.2)
def zFM:List Pt->Rat->Rat
 | [],_=>0
 | [p],_=>p.2
 | p::q::r,x=>if x<=q.1 then itp p q x else zFM (q::r) x
def nM (ps qs:List Pt) (C:List Rat):List Pt:=C.map fun x=>(x,zFM ps x+zFM qs x)
end Ln
namespace L3
open PySem PySem.Spec PyProof.Rows L2
abbrev St:=L2.St
mutual
inductive IsD (K:PySem.W.Frag) (H:Hp):V->D->Prop where
 | non:IsD K H .non .non
 | bl (b:Bool):IsD K H (.bl b) (.bl b)
 | int (i:Int):IsD K H (.int i) (.int i)
 | str (x:Str):IsD K H (.str x) (.str x)
 | tup {a:Addr} {xs:List V} {ds:List D}:SqT K H a xs->IsDs K H xs ds->IsD K H (.ref a) (.tup ds)
 | lst {a:Addr} {xs:List V} {ds:List D}:SqL K H a xs->IsDs K H xs ds->IsD K H (.ref a) (.lst ds)
inductive IsDs (K:PySem.W.Frag) (H:Hp):List V->List D->Prop where
 | nil:IsDs K H [] []
 | cons {v:V} {d:D} {vs:List V} {ds:List D}:IsD K H v d->IsDs K H vs ds->IsDs K H (v::vs) (d::ds)
end
theorem _root_.L2.Same.rd {H H':Hp} (e:Same H H') {a:Addr} {u:HO} (h:Rd H a u):Rd H' a u:=by
 rcases h with h | ⟨o,h⟩
 ·exact .inl (e _ _ h)
 ·exact .inr ⟨o,e _ _ h⟩
theorem aZ {K:PySem.W.Frag} {H H':Hp} (e:Same H H') {a:Addr} {xs:List V} (h:SqT K H a xs):SqT K H' a xs:=h.imp (Same.rd e) id
theorem bD {K:PySem.W.Frag} {H H':Hp} (e:Same H H') {a:Addr} {xs:List V} (h:SqL K H a xs):SqL K H' a xs:=h.imp (Same.rd e) id
section
variable {K:PySem.W.Frag} {H H':Hp}
mutual
theorem IsD.mono (e:Same H H'):∀ {v:V} {d:D},IsD K H v d->IsD K H' v d
 | _,_,.non=>.non
 | _,_,.bl b=>.bl b
 | _,_,.int i=>.int i
 | _,_,.str x=>.str x
 | _,_,.tup h hs=>.tup (aZ e h) (IsDs.mono e hs)
 | _,_,.lst h hs=>.lst (bD e h) (IsDs.mono e hs)
theorem IsDs.mono (e:Same H H'):∀ {vs:List V} {ds:List D},IsDs K H vs ds->IsDs K H' vs ds
 | _,_,.nil=>.nil
 | _,_,.cons h hs=>.cons (IsD.mono e h) (IsDs.mono e hs)
end
theorem IsDs.length:∀ {vs:List V} {ds:List D},IsDs K H vs ds->vs.length=ds.length
 | _,_,.nil=>rfl
 | _,_,.cons _ hs=>by rw [List.length_cons,List.length_cons,IsDs.length hs]
theorem IsDs.at:∀ {vs:List V} {ds:List D} {j:Nat} {d:D},IsDs K H vs ds->ds[j]?=some d->∃ v,vs[j]?=some v/\IsD K H v d
 | _,_,_,_,.nil,e=>by simp at e
 | _,_,0,_,.cons r _,e=>by simp at e;subst e;exact ⟨_,rfl,r⟩
 | _,_,j+1,d,.cons _ t,e=>by
  obtain ⟨v,h1,h2⟩:=IsDs.at (j:=j) (d:=d) t (by simpa using e)
  exact ⟨v,by simpa using h1,h2⟩
theorem IsDs.append:∀ {vs ws:List V} {ds es:List D},IsDs K H vs ds->IsDs K H ws es->IsDs K H (vs++ws) (ds++es)
 | _,_,_,_,.nil,s=>s
 | _,_,_,_,.cons r t,s=>.cons r (IsDs.append t s)
theorem IsDs.take:∀ {vs:List V} {ds:List D} (n:Nat),IsDs K H vs ds->IsDs K H (vs.take n) (ds.take n)
 | _,_,0,_=>.nil
 | _,_,_+1,.nil=>.nil
 | _,_,n+1,.cons r t=>.cons r (IsDs.take n t)
theorem IsDs.drop:∀ {vs:List V} {ds:List D} (n:Nat),IsDs K H vs ds->IsDs K H (vs.drop n) (ds.drop n)
 | _,_,0,r=>r
 | _,_,_+1,.nil=>.nil
 | _,_,n+1,.cons _ t=>IsDs.drop n t
mutual
theorem IsD.noL (k:∀ b xs,Rd H b (.tup xs)->Rd H' b (.tup xs)):∀ {v:V} {d:D},IsD K H v d->L3.noL d=true->IsD K H' v d
 | _,_,.non,_=>.non
 | _,_,.bl b,_=>.bl b
 | _,_,.int i,_=>.int i
 | _,_,.str x,_=>.str x
 | _,_,.tup h hs,e=>.tup (h.imp (k _ _) id) (IsDs.noL k hs (by rw [L3.noL] at e;exact e))
 | _,_,.lst h hs,e=>by rw [L3.noL] at e;cases e
theorem IsDs.noL (k:∀ b xs,Rd H b (.tup xs)->Rd H' b (.tup xs)):∀ {vs:List V} {ds:List D},IsDs K H vs ds->L3.noLs ds=true->IsDs K H' vs ds
 | _,_,.nil,_=>.nil
 | _,_,.cons h hs,e=>by
  rw [L3.noLs,Bool.and_eq_true] at e
  exact .cons (IsD.noL k h e.1) (IsDs.noL k hs e.2)
end
end
theorem IsD.intI {K:PySem.W.Frag} {H:Hp} {v:V} {i:Int} (h:IsD K H v (.int i)):v=.int i:=by cases h;rfl
theorem IsD.blI {K:PySem.W.Frag} {H:Hp} {v:V} {b:Bool} (h:IsD K H v (.bl b)):v=.bl b:=by cases h;rfl
theorem IsD.strI {K:PySem.W.Frag} {H:Hp} {v:V} {x:Str} (h:IsD K H v (.str x)):v=.str x:=by cases h;rfl
theorem IsD.tupI {K:PySem.W.Frag} {H:Hp} {v:V} {ds:List D} (h:IsD K H v (.tup ds)):∃ a xs,v=.ref a/\SqT K H a xs/\IsDs K H xs ds:=by
 cases h with
 | tup h hs=>exact ⟨_,_,rfl,h,hs⟩
theorem IsD.lstI {K:PySem.W.Frag} {H:Hp} {v:V} {ds:List D} (h:IsD K H v (.lst ds)):∃ a xs,v=.ref a/\SqL K H a xs/\IsDs K H xs ds:=by
 cases h with
 | lst h hs=>exact ⟨_,_,rfl,h,hs⟩
def kU:Str := "ranked.<locals>.<lambda>"
def nY (P:Addr) (H:Hp):Prop:=∃ ps,H P=some (.tbl ps)/\TriplesOk ps.toList/\∀ (pos:Pos) (cv:Value),codeAmong pos ps.toList=some cv->∃ c oc vs t u,cv=.ref c/\H c=some (.frz oc u)/\oc.data=.fields vs/\vs[1]?=some (.str kU t)
theorem nY.put {P a:Addr} {H:Hp} {x:HO} (h:nY P H) (h1:∀ ps,H a≠some (.tbl ps)) (h2:∀ o u,H a≠some (.frz o u)):nY P (upd H a x):=by
 obtain ⟨ps,e,t,k⟩:=h
 refine ⟨ps,by rw [aJ (show P≠a from fun z=>h1 ps (by rw [<-z];exact e))];exact e,t,fun pos cv q=>?_⟩
 obtain ⟨c,oc,vs,tk,u,r1,r2,r3⟩:=k pos cv q
 exact ⟨c,oc,vs,tk,u,r1,by rw [aJ (show c≠a from fun z=>h2 oc u (by rw [<-z];exact r2))];exact r2,r3⟩
structure Keep (H H':Hp):Prop where
 k:∀ b o,H b=some o->H' b=some o∨∃ ps ps',o=.tbl ps/\H' b=some (.tbl ps')
 t:∀ P,nY P H->nY P H'
theorem Keep.refl (H:Hp):Keep H H:=⟨fun _ _ e=>.inl e,fun _ e=>e⟩
theorem Keep.trans {H H1 H2:Hp} (a:Keep H H1) (b:Keep H1 H2):Keep H H2:=
 ⟨fun c o e=>by
  rcases a.k c o e with z | ⟨ps,ps',rfl,z⟩
  ·exact b.k c o z
  ·rcases b.k c _ z with y | ⟨qs,qs',_,y⟩
   ·exact .inr ⟨ps,ps',rfl,y⟩
   ·exact .inr ⟨ps,qs',rfl,y⟩,fun P e=>b.t P (a.t P e)⟩
theorem Keep.at {H H':Hp} (k:Keep H H') {b:Addr} {o:HO} (e:H b=some o) (ho:∀ ps,o≠.tbl ps:=by intro ps z;cases z):H' b=some o:=by
 rcases k.k b o e with z | ⟨ps,ps',z,_⟩
 ·exact z
 ·exact absurd z (ho ps)
theorem Keep.none {H H':Hp} (k:Keep H H') {p:Addr} (e:H' p=none):H p=none:=by
 cases z:H p with
 | none=>rfl
 | some o=>rcases k.k p o z with y | ⟨_,_,_,y⟩<;>(rw [y] at e;cases e)
structure Ext (Hi H Hi' H':Hp):Prop where
 i:Same Hi Hi'
 h:Keep H H'
 s:Same Hi' H'
 n:∀ b,Hi b=none->Hi' b≠none->H b=none
theorem Ext.refl {Hi H:Hp} (h:Same Hi H):Ext Hi H Hi H:=⟨Same.refl _,Keep.refl _,h,fun _ e q=>absurd e q⟩
theorem Ext.trans {Hi H Hi1 H1 Hi2 H2:Hp} (a:Ext Hi H Hi1 H1) (b:Ext Hi1 H1 Hi2 H2):Ext Hi H Hi2 H2:=
 ⟨a.i.trans b.i,a.h.trans b.h,b.s,fun c e q=>by
  cases z:Hi1 c with
  | some o=>exact a.n c e (by rw [z];exact fun w=>by cases w)
  | none=>
   have z2:=b.n c z q
   exact a.h.none z2⟩
theorem bA {H:Hp} {p:Addr} (h:H p=none) (o:HO):Same H (upd H p o):=fun b u q=>by rw [aJ (aM q h)];exact q
theorem vY {H:Hp} {p:Addr} (h:H p=none) (o:HO):Keep H (upd H p o):=⟨fun b u q=>.inl (bA h o b u q),fun P e=>e.put (fun ps z=>by rw [h] at z;cases z) (fun ob u z=>by rw [h] at z;cases z)⟩
theorem _root_.L2.Same.none {H H':Hp} (h:Same H H') {p:Addr} (e:H' p=none):H p=none:=by
 cases z:H p with
 | none=>rfl
 | some o=>rw [h _ _ z] at e;cases e
theorem Ext.new {Hi H:Hp} {p:Addr} {o:HO} (h:Same Hi H) (hp:H p=none):Ext Hi H (upd Hi p o) (upd H p o) where
 i:=bA (h.none hp) o
 h:=vY hp o
 s:=fun b u q=>by
  by_cases e:b=p
  ·subst e;rw [aI] at q ⊢;exact q
  ·rw [aJ e] at q ⊢;exact h _ _ q
 n:=fun b e q=>by
  by_cases z:b=p
  ·rw [z];exact hp
  ·rw [aJ z] at q;exact absurd e q
theorem Ext.newF {Hi H:Hp} {p:Addr} {o:HO} (h:Same Hi H) (hp:H p=none):Ext Hi H Hi (upd H p o) where
 i:=Same.refl _
 h:=vY hp o
 s:=h.trans (bA hp o)
 n:=fun b e q=>absurd e q
theorem Ext.out {Hi H Hi' H':Hp} (e:Ext Hi H Hi' H') {a:Addr} {o:HO} (h:H a=some o) (hi:Hi a=none) (ho:∀ ps,o≠.tbl ps:=by intro ps z;cases z):H' a=some o/\Hi' a=none:=by
 refine ⟨e.h.at h ho,?_⟩
 cases z:Hi' a with
 | none=>rfl
 | some u=>have:=e.n a hi (by rw [z];exact fun w=>by cases w);rw [h] at this;cases this
theorem Ext.hold {Hi H Hi' H':Hp} (e:Ext Hi H Hi' H') {a:Addr} {o:HO} (hn:H a=none) (h:H' a=some o) (hi:Hi' a=none):Ext Hi H (upd Hi' a o) H' where
 i:=e.i.trans (bA hi o)
 h:=e.h
 s:=fun b u q=>by
  by_cases z:b=a
  ·subst z;rw [aI] at q;cases q;exact h
  ·rw [aJ z] at q;exact e.s _ _ q
 n:=fun b z q=>by
  by_cases w:b=a
  ·rw [w];exact hn
  ·rw [aJ w] at q;exact e.n b z q
def zCs (a C:Addr):Heap->Prop:=fun h=>∃ o vs,h.get? a=some o/\o.cls=.ref C/\o.data=.fields vs
def kvT (T:List (Str×Str)):List (Key×V):=T.map fun q=>(Sum.inr q.1,V.str q.2)
inductive Flds (K:PySem.W.Frag) (Hi:Hp):List (Str×V)->List (Str×D)->Prop where
 | nil:Flds K Hi [] []
 | cons {f:Str} {v:V} {d:D} {hs:List (Str×V)} {fs:List (Str×D)}:IsD K Hi v d->Flds K Hi hs fs->Flds K Hi ((f,v)::hs) ((f,d)::fs)
theorem Flds.mono {K:PySem.W.Frag} {H H':Hp} (e:Same H H'):∀ {hs:List (Str×V)} {fs:List (Str×D)},Flds K H hs fs->Flds K H' hs fs
 | _,_,.nil=>.nil
 | _,_,.cons h r=>.cons (h.mono e) (Flds.mono e r)
def tT (K:PySem.W.Frag) (mg:Str->Option Value) (B Hi H:Hp) (o:Option (Option V)):Sl->Prop
 | .un=>True
 | .val d=>∃ v,o=some (some v)/\IsD K Hi v d
 | .own ds=>∃ a xs,o=some (some (.ref a))/\H a=some (.lst xs)/\Hi a=none/\B a=none/\IsDs K Hi xs ds
 | .exc c=>∃ a C,o=some (some (.ref a))/\H a=some (.ext (zCs a C))/\Hi a=none/\B a=none/\mg c=some (.ref C)
 | .tab T=>∃ a,o=some (some (.ref a))/\Hi a=some (.dK (kvT T))
 | .ins c fs=>∃ a C dx hs,o=some (some (.ref a))/\Hi a=some (.ins C dx hs)/\mg c=some (.ref C)/\Flds K Hi hs fs
structure Rel (K:PySem.W.Frag) (mg:Str->Option Value) (B Bi Hi H:Hp) (σ:St) (ρ:Rho):Prop where
 len:σ.length=ρ.length
 ext:Ext Bi B Hi H
 slot:∀ (i:Nat) (s:Sl),ρ[i]?=some s->tT K mg B Hi H σ[i]? s
 dist:∀ (i j:Nat) (a:Addr) (ds es:List D),ρ[i]?=some (.own ds)->ρ[j]?=some (.own es)->σ[i]?=some (some (.ref a))->σ[j]?=some (some (.ref a))->i=j
section
variable {K:PySem.W.Frag} {mg:Str->Option Value} {B Bi Hi H Hi' H':Hp} {σ:St} {ρ:Rho}
theorem tT.ext {o:Option (Option V)} {s:Sl} (h:tT K mg B Hi H o s) (e:Ext Hi H Hi' H'):tT K mg B Hi' H' o s:=by
 cases s with
 | un=>trivial
 | val d=>obtain ⟨v,q,r⟩:=h;exact ⟨v,q,r.mono e.i⟩
 | own ds=>
  obtain ⟨a,xs,q,h1,h2,h3,h4⟩:=h
  obtain ⟨e1,e2⟩:=e.out h1 h2
  exact ⟨a,xs,q,e1,e2,h3,h4.mono e.i⟩
 | exc c=>
  obtain ⟨a,C,q,h1,h2,h3,h4⟩:=h
  obtain ⟨e1,e2⟩:=e.out h1 h2
  exact ⟨a,C,q,e1,e2,h3,h4⟩
 | tab T=>obtain ⟨a,q,h1⟩:=h;exact ⟨a,q,e.i _ _ h1⟩
 | ins c fs=>obtain ⟨a,C,dx,hs,q,h1,h2,h3⟩:=h;exact ⟨a,C,dx,hs,q,e.i _ _ h1,h2,h3.mono e.i⟩
theorem Rel.grow (R:Rel K mg B Bi Hi H σ ρ) (e:Ext Hi H Hi' H'):Rel K mg B Bi Hi' H' σ ρ:=⟨R.len,R.ext.trans e,fun i s q=>(R.slot i s q).ext e,R.dist⟩
theorem Rel.s (R:Rel K mg B Bi Hi H σ ρ):Same Hi H:=R.ext.s
theorem Rel.set {i:Nat} {v:V} {d:D} (R:Rel K mg B Bi Hi H σ ρ) (h:IsD K Hi v d):Rel K mg B Bi Hi H (σ.set i (some v)) (ρ.set i (.val d)) where
 len:=by rw [List.length_set,List.length_set];exact R.len
 ext:=R.ext
 slot:=fun j s q=>by
  by_cases e:i=j
  ·subst e
   by_cases hl:i < ρ.length
   ·rw [List.getElem?_set_self hl] at q;cases q
    exact ⟨v,by rw [List.getElem?_set_self (by rw [R.len];exact hl)],h⟩
   ·rw [List.getElem?_eq_none (by rw [List.length_set];omega)] at q;cases q
  ·rw [List.getElem?_set_ne e] at q ⊢
   exact R.slot j s q
 dist:=fun j k a ds es q1 q2 q3 q4=>by
  have h1:∀ {j:Nat} {ds:List D},(ρ.set i (.val d))[j]?=some (.own ds)->i≠j:=fun {j ds} q e=>by
   subst e
   by_cases hl:i < ρ.length
   ·rw [List.getElem?_set_self hl] at q;cases q
   ·rw [List.getElem?_eq_none (by rw [List.length_set];omega)] at q;cases q
  have n1:=h1 q1
  have n2:=h1 q2
  rw [List.getElem?_set_ne n1] at q1 q3
  rw [List.getElem?_set_ne n2] at q2 q4
  exact R.dist j k a ds es q1 q2 q3 q4
theorem Rel.setOwn {i:Nat} {a:Addr} {xs:List V} {ds:List D} (R:Rel K mg B Bi Hi H σ ρ) (e:Ext Hi H Hi' H') (hn:H a=none) (h:H' a=some (.lst xs)) (hi:Hi' a=none) (hs:IsDs K Hi' xs ds):
  Rel K mg B Bi Hi' H' (σ.set i (some (.ref a))) (ρ.set i (.own ds)) where
 len:=by rw [List.length_set,List.length_set];exact R.len
 ext:=R.ext.trans e
 slot:=fun j s q=>by
  by_cases z:i=j
  ·subst z
   by_cases hl:i < ρ.length
   ·rw [List.getElem?_set_self hl] at q;cases q
    exact ⟨a,xs,by rw [List.getElem?_set_self (by rw [R.len];exact hl)],h,hi,R.ext.h.none hn,hs⟩
   ·rw [List.getElem?_eq_none (by rw [List.length_set];omega)] at q;cases q
  ·rw [List.getElem?_set_ne z] at q ⊢
   exact (R.slot j s q).ext e
 dist:=fun j k b es fs q1 q2 q3 q4=>by
  have h1:∀ {j:Nat} {es:List D},i≠j->ρ[j]?=some (.own es)->σ[j]?=some (some (.ref a))->False:=fun {j es} _ p1 p2=>by
   obtain ⟨a',xs',q,h1,_⟩:=R.slot j _ p1
   rw [p2] at q
   cases q
   rw [hn] at h1;cases h1
  have h2:∀ {j:Nat} {es:List D},(ρ.set i (.own ds))[j]?=some (.own es)->i < σ.length∨i≠j:=fun {j es} p=>by
   by_cases z:i=j
   ·subst z
    by_cases hl:i < ρ.length
    ·exact .inl (by rw [R.len];exact hl)
    ·rw [List.getElem?_eq_none (by rw [List.length_set];omega)] at p;cases p
   ·exact .inr z
  by_cases z1:i=j
  ·by_cases z2:i=k
   ·rw [<-z1,<-z2]
   ·exfalso
    subst z1
    have hl:i < σ.length:=(h2 q1).resolve_right (fun w=>w rfl)
    rw [List.getElem?_set_self hl] at q3;cases q3
    rw [List.getElem?_set_ne z2] at q2 q4
    exact h1 z2 q2 q4
  ·by_cases z2:i=k
   ·exfalso
    subst z2
    have hl:i < σ.length:=(h2 q2).resolve_right (fun w=>w rfl)
    rw [List.getElem?_set_self hl] at q4;cases q4
    rw [List.getElem?_set_ne z1] at q1 q3
    exact h1 z1 q1 q3
   ·rw [List.getElem?_set_ne z1] at q1 q3
    rw [List.getElem?_set_ne z2] at q2 q4
    exact R.dist j k b es fs q1 q2 q3 q4
theorem Rel.write {i:Nat} {a:Addr} {ys:List V} {ds es:List D} (R:Rel K mg B Bi Hi H σ ρ) (e:ρ[i]?=some (.own ds)) (ea:σ[i]?=some (some (.ref a))) (hs:IsDs K Hi ys es):
  Rel K mg B Bi Hi (upd H a (.lst ys)) σ (ρ.set i (.own es)):=by
 obtain ⟨a',xs',q,h1,h2,h3,h4⟩:=R.slot i _ e
 rw [ea] at q
 cases q
 have hl:i < ρ.length:=by
  by_cases hl:i < ρ.length
  ·exact hl
  ·rw [List.getElem?_eq_none (by omega)] at e;cases e
 refine ⟨by rw [List.length_set];exact R.len,⟨R.ext.i,⟨fun b o z=>?_,fun P z=>(R.ext.h.t P z).put (fun ps y=>by rw [h1] at y;cases y) (fun ob u y=>by rw [h1] at y;cases y)⟩,fun b o z=>?_,R.ext.n⟩,fun j s z=>?_,fun j k b fs gs q1 q2 q3 q4=>?_⟩
 ·rw [aJ (aM z h3)];exact R.ext.h.k _ _ z
 ·rw [aJ (aM z h2)];exact R.ext.s _ _ z
 ·by_cases w:i=j
  ·subst w
   rw [List.getElem?_set_self hl] at z;cases z
   exact ⟨a,ys,ea,aI,h2,h3,hs⟩
  ·rw [List.getElem?_set_ne w] at z
   have S:=R.slot j s z
   cases s with
   | un=>trivial
   | val d=>exact S
   | own fs=>
    obtain ⟨b,zs,p,g1,g2,g3,g4⟩:=S
    have hb:b≠a:=fun c=>w (R.dist i j a ds fs e z ea (by rw [p,c]))
    exact ⟨b,zs,p,by rw [aJ hb];exact g1,g2,g3,g4⟩
   | exc c=>
    obtain ⟨b,C,p,g1,g2,g3,g4⟩:=S
    have hb:b≠a:=zHq g1 h1 (by intro z;cases z)
    exact ⟨b,C,p,by rw [aJ hb];exact g1,g2,g3,g4⟩
   | tab T=>exact S
   | ins c fs=>exact S
 ·have own:∀ {j:Nat} {fs:List D},(ρ.set i (.own es))[j]?=some (.own fs)->∃ gs,ρ[j]?=some (.own gs):=fun {j fs} p=>by
   by_cases w:i=j
   ·subst w;exact ⟨ds,e⟩
   ·rw [List.getElem?_set_ne w] at p;exact ⟨fs,p⟩
  obtain ⟨fs',q1'⟩:=own q1
  obtain ⟨gs',q2'⟩:=own q2
  exact R.dist j k b fs' gs' q1' q2' q3 q4
theorem Rel.frzAt {i:Nat} (R:Rel K mg B Bi Hi H σ ρ):∃ Hi',Same Hi Hi'/\Rel K mg B Bi Hi' H σ (L3.frzAt i ρ):=by
 unfold L3.frzAt
 split
 ·rename_i ds e
  obtain ⟨a,xs,q,h1,h2,h3,h4⟩:=R.slot i _ e
  have hl:i < ρ.length:=by
   by_cases hl:i < ρ.length
   ·exact hl
   ·rw [List.getElem?_eq_none (by omega)] at e;cases e
  have sm:Same Hi (upd Hi a (.lst xs)):=bA h2 _
  have ss:Same (upd Hi a (.lst xs)) H:=fun b u z=>by
   by_cases w:b=a
   ·subst w;rw [aI] at z;cases z;exact h1
   ·rw [aJ w] at z;exact R.s _ _ z
  refine ⟨upd Hi a (.lst xs),sm,by rw [List.length_set];exact R.len,⟨R.ext.i.trans sm,R.ext.h,ss,fun b z w=>?_⟩,fun j s z=>?_,fun j k b fs gs q1 q2 q3 q4=>?_⟩
  ·by_cases c:b=a
   ·rw [c];exact h3
   ·rw [aJ c] at w;exact R.ext.n b z w
  ·by_cases w:i=j
   ·subst w
    rw [List.getElem?_set_self hl] at z;cases z
    exact ⟨.ref a,q,.lst (SqL.of aI) (h4.mono sm)⟩
   ·rw [List.getElem?_set_ne w] at z
    have S:=R.slot j s z
    cases s with
    | un=>trivial
    | val d=>obtain ⟨v,p,r⟩:=S;exact ⟨v,p,r.mono sm⟩
    | own fs=>
     obtain ⟨b,zs,p,g1,g2,g3,g4⟩:=S
     have hb:b≠a:=fun c=>w (R.dist i j a ds fs e z q (by rw [p,c]))
     exact ⟨b,zs,p,g1,by rw [aJ hb];exact g2,g3,g4.mono sm⟩
    | exc c=>
     obtain ⟨b,C,p,g1,g2,g3,g4⟩:=S
     have hb:b≠a:=zHq g1 h1 (by intro z;cases z)
     exact ⟨b,C,p,g1,by rw [aJ hb];exact g2,g3,g4⟩
    | tab T=>obtain ⟨b,p,g1⟩:=S;exact ⟨b,p,sm _ _ g1⟩
    | ins c fs=>obtain ⟨b,C,dx,hs,p,g1,g2,g3⟩:=S;exact ⟨b,C,dx,hs,p,sm _ _ g1,g2,g3.mono sm⟩
  ·have own:∀ {j:Nat} {fs:List D},(ρ.set i (.val (.lst ds)))[j]?=some (.own fs)->ρ[j]?=some (.own fs):=fun {j fs} p=>by
    by_cases w:i=j
    ·subst w;rw [List.getElem?_set_self hl] at p;cases p
    ·rw [List.getElem?_set_ne w] at p;exact p
   exact R.dist j k b fs gs (own q1) (own q2) q3 q4
 ·exact ⟨Hi,Same.refl _,R⟩
end
end L3
namespace L3
open PySem PySem.Spec PyProof.Rows L2
section
variable {K:PySem.W.Frag} {mg:Str->Option Value} {B Bi Hi H Hi' H':Hp} {σ:St} {ρ:Rho}
theorem Rel.frz (R:Rel K mg B Bi Hi H σ ρ):∃ Hf,Same Hi Hf/\Rel K mg B Bi Hf H σ (ρ.map Sl.frz)/\∀ b,Hi b=none->Hf b≠none->∃ xs,Hf b=some (.lst xs):=by
 let own:Addr->Prop:=fun b=>∃ (i:Nat) (ds:List D),ρ[i]?=some (.own ds)/\σ[i]?=some (some (.ref b))
 have dec:∀ b,Decidable (own b):=fun b=>Classical.propDecidable _
 let Hf:Hp:=fun b=>match Hi b with
  | some o=>some o
  | none=>if own b then H b else none
 have hf1:∀ b o,Hi b=some o->Hf b=some o:=fun b o e=>by show (match Hi b with | some o=>some o | none=>if own b then H b else none)=_;rw [e]
 have hf2:∀ b,Hi b=none->own b->Hf b=H b:=fun b e z=>by show (match Hi b with | some o=>some o | none=>if own b then H b else none)=_;rw [e];exact if_pos z
 have hf3:∀ b,Hi b=none->¬ own b->Hf b=none:=fun b e z=>by show (match Hi b with | some o=>some o | none=>if own b then H b else none)=_;rw [e];exact if_neg z
 have lst:∀ b,own b->∃ xs,H b=some (.lst xs)/\Hi b=none/\B b=none:=fun b ⟨i,ds,e1,e2⟩=>by
  obtain ⟨a,xs,q,h1,h2,h3,h4⟩:=R.slot i _ e1
  rw [e2] at q;cases q
  exact ⟨xs,h1,h2,h3⟩
 have ss:Same Hf H:=fun b o z=>by
  cases q:Hi b with
  | some u=>rw [hf1 b u q] at z;cases z;exact R.s _ _ q
  | none=>
   by_cases w:own b
   ·rw [hf2 b q w] at z;exact z
   ·rw [hf3 b q w] at z;cases z
 refine ⟨Hf,hf1,⟨by rw [List.length_map];exact R.len,⟨R.ext.i.trans hf1,R.ext.h,ss,fun b z w=>?_⟩,fun j s z=>?_,fun j k b fs gs q1 q2 q3 q4=>?_⟩,fun b z w=>?_⟩
 ·cases q:Hi b with
  | some u=>exact R.ext.n b z (by rw [q];exact fun c=>by cases c)
  | none=>
   by_cases c:own b
   ·exact (lst b c).choose_spec.2.2
   ·exact absurd (hf3 b q c) w
 ·rw [List.getElem?_map] at z
  cases e:ρ[j]? with
  | none=>rw [e] at z;cases z
  | some t=>
   rw [e] at z
   cases z
   have S:=R.slot j t e
   cases t with
   | un=>trivial
   | val d=>obtain ⟨v,p,r⟩:=S;exact ⟨v,p,r.mono hf1⟩
   | own ds=>
    obtain ⟨a,xs,q,h1,h2,h3,h4⟩:=S
    exact ⟨.ref a,q,.lst (SqL.of (by rw [hf2 a h2 ⟨j,ds,e,q⟩];exact h1)) (h4.mono hf1)⟩
   | exc c=>
    obtain ⟨a,C,q,h1,h2,h3,h4⟩:=S
    refine ⟨a,C,q,h1,?_,h3,h4⟩
    refine hf3 a h2 fun c=>?_
    obtain ⟨xs,g,_⟩:=lst a c
    rw [h1] at g;cases g
   | tab T=>obtain ⟨a,q,h1⟩:=S;exact ⟨a,q,hf1 _ _ h1⟩
   | ins c fs=>obtain ⟨a,C,dx,hs,q,h1,h2,h3⟩:=S;exact ⟨a,C,dx,hs,q,hf1 _ _ h1,h2,h3.mono hf1⟩
 ·exfalso
  rw [List.getElem?_map] at q1
  cases e:ρ[j]? with
  | none=>rw [e] at q1;cases q1
  | some t=>rw [e] at q1;cases t<;>cases q1
 ·by_cases c:own b
  ·obtain ⟨xs,g,_⟩:=lst b c
   exact ⟨xs,by rw [hf2 b z c];exact g⟩
  ·exact absurd (hf3 b z c) w
theorem Ext.thaw {Hf:Hp} (s:Same Hi Hf) (fl:∀ b,Hi b=none->Hf b≠none->∃ xs,Hf b=some (.lst xs)) (hs:Same Hf H) (e:Ext Hf H Hi' H'):
  ∃ Ht,Ext Hi H Ht H'/\(∀ b xs,Rd Hi' b (.tup xs)->Rd Ht b (.tup xs))/\Same Ht Hi'/\∀ b,Ht b=none->Hi' b=none∨∃ xs,H b=some (.lst xs):=by
 have dec:∀ b,Decidable (Hi b=none/\Hf b≠none):=fun b=>Classical.propDecidable _
 let Ht:Hp:=fun b=>if Hi b=none/\Hf b≠none then none else Hi' b
 have t1:∀ b,¬ (Hi b=none/\Hf b≠none)->Ht b=Hi' b:=fun b z=>if_neg z
 have t2:∀ b,(Hi b=none/\Hf b≠none)->Ht b=none:=fun b z=>if_pos z
 have tt:Same Ht Hi':=fun b o z=>by
  by_cases w:Hi b=none/\Hf b≠none
  ·rw [t2 b w] at z;cases z
  ·rw [t1 b w] at z;exact z
 refine ⟨Ht,⟨fun b o z=>?_,e.h,tt.trans e.s,fun b z w=>?_⟩,fun b xs r=>?_,tt,fun b z=>?_⟩
 ·rw [t1 b (fun w=>by rw [z] at w;cases w.1)];exact e.i _ _ (s _ _ z)
 ·by_cases c:Hi b=none/\Hf b≠none
  ·exact absurd (t2 b c) w
  ·rw [t1 b c] at w
   have:Hf b=none:=by
    cases q:Hf b with
    | none=>rfl
    | some u=>exact absurd ⟨z,by rw [q];exact fun c=>by cases c⟩ c
   exact e.n b this w
 ·have nl:¬ (Hi b=none/\Hf b≠none):=fun w=>by
   obtain ⟨ys,g⟩:=fl b w.1 w.2
   have g':=e.i _ _ g
   rcases r with r | ⟨o,r⟩<;>(rw [g'] at r;cases r)
  rcases r with r | ⟨o,r⟩
  ·exact .inl (by rw [t1 b nl];exact r)
  ·exact .inr ⟨o,by rw [t1 b nl];exact r⟩
 ·by_cases c:Hi b=none/\Hf b≠none
  ·obtain ⟨ys,g⟩:=fl b c.1 c.2
   exact .inr ⟨ys,hs _ _ g⟩
  ·exact .inl (by rw [t1 b c] at z;exact z)
end
structure Gx where
 B:Hp
 Bi:Hp
 E:Str->Hp->Prop
abbrev fG (X:Cx) (G:Gx) (Hi H:Hp) (σ:St) (ρ:Rho):Prop:=Rel X.K X.mg G.B G.Bi Hi H σ ρ
def Out (G:Gx) (Hi H:Hp) {α:Type} (r:Res α) (k:α->Hp->Hp->Prop):Prop:=match r with
 | .ok a=>∀ Hi' H',Ext Hi H Hi' H'->k a Hi' H'
 | .err c=>∀ Hi' H',Ext Hi H Hi' H'->G.E c H'
 | .no=>False
theorem Out.bind {G:Gx} {Hi H:Hp} {α β:Type} {r:Res α} {f:α->Res β} {k:β->Hp->Hp->Prop} (h:Out G Hi H (r.bind f) k):
  Out G Hi H r fun a Hi' H'=>Out G Hi' H' (f a) k:=by
 cases r with
 | no=>exact h
 | err c=>exact h
 | ok a=>
  intro Hi1 H1 e
  have h':Out G Hi H (f a) k:=h
  show Out G Hi1 H1 (f a) k
  cases q:f a with
  | no=>rw [q] at h';exact h'
  | err c=>rw [q] at h';exact fun Hi2 H2 e2=>h' _ _ (e.trans e2)
  | ok b=>rw [q] at h';exact fun Hi2 H2 e2=>h' _ _ (e.trans e2)
theorem Out.imp {G:Gx} {Hi H:Hp} {α:Type} {r:Res α} {k k':α->Hp->Hp->Prop} (h:Out G Hi H r k) (f:∀ a Hi' H',Ext Hi H Hi' H'->k a Hi' H'->k' a Hi' H'):Out G Hi H r k':=by
 cases r with
 | no=>exact h
 | err c=>exact h
 | ok a=>exact fun Hi1 H1 e=>f a Hi1 H1 e (h Hi1 H1 e)
theorem Out.here {G:Gx} {Hi H:Hp} {α:Type} {a:α} {k:α->Hp->Hp->Prop} (h:Out G Hi H (.ok a) k) (s:Same Hi H):k a Hi H:=h Hi H (Ext.refl s)
def tD (X:Cx) (G:Gx) (f:Ev):TE:=fun σ H Q=>∃ ρ Hi,fG X G Hi H σ ρ/\Out G Hi H (f ρ) fun d Hi' H'=>∀ v,IsD X.K Hi' v d->Q v H'
def zBZ (K:PySem.W.Frag) (H Hi' H':Hp) (a:Addr) (ds:List D):Prop:=H a=none/\Hi' a=none/\∃ xs,H' a=some (.lst xs)/\IsDs K Hi' xs ds
def tF (X:Cx) (G:Gx) (f:Fv):TE:=fun σ H Q=>∃ ρ Hi,fG X G Hi H σ ρ/\Out G Hi H (f ρ) fun ds Hi' H'=>∀ a,zBZ X.K H Hi' H' a ds->Q (.ref a) H'
def tTb (X:Cx) (G:Gx) (f:Tv):TT:=fun σ H Q=>∃ ρ Hi,fG X G Hi H σ ρ/\Out G Hi H (f ρ) fun b _ H'=>Q b H'
def tAs (X:Cx) (G:Gx) (f:Fv):TA:=fun σ H Q=>∃ ρ Hi,fG X G Hi H σ ρ/\Out G Hi H (f ρ) fun ds Hi' H'=>∀ vs,IsDs X.K Hi' vs ds->Q vs H'
def Fin (X:Cx) (G:Gx) (Hi:Hp) (E:Ends) (r:Res Fl):Prop:=match r with
 | .ok (.nx ρ')=>∀ σ' Hi' H',Same Hi Hi'->fG X G Hi' H' σ' ρ'->E.nx σ' H'
 | .ok (.brk ρ')=>∀ σ' Hi' H',Same Hi Hi'->fG X G Hi' H' σ' ρ'->E.bk σ' H'
 | .ok (.ctn ρ')=>∀ σ' Hi' H',Same Hi Hi'->fG X G Hi' H' σ' ρ'->E.ct σ' H'
 | .ok (.ret (.v d))=>∀ v Hi' H',Ext G.Bi G.B Hi' H'->IsD X.K Hi' v d->E.rt v H'
 | .ok (.ret (.f ds))=>∀ a Hi' H',Ext G.Bi G.B Hi' H'->zBZ X.K G.B Hi' H' a ds->E.rt (.ref a) H'
 | .err c=>∀ Hi' H',Ext G.Bi G.B Hi' H'->G.E c H'
 | .no=>False
theorem Fin.mono {X:Cx} {G:Gx} {Hi Hi':Hp} {E:Ends} {r:Res Fl} (h:Fin X G Hi E r) (s:Same Hi Hi'):Fin X G Hi' E r:=by
 cases r with
 | no=>exact h
 | err c=>exact h
 | ok f=>
  cases f with
  | nx ρ=>exact fun σ' Hi2 H2 s2=>h σ' Hi2 H2 (s.trans s2)
  | brk ρ=>exact fun σ' Hi2 H2 s2=>h σ' Hi2 H2 (s.trans s2)
  | ctn ρ=>exact fun σ' Hi2 H2 s2=>h σ' Hi2 H2 (s.trans s2)
  | ret r=>cases r<;>exact h
def tS (X:Cx) (G:Gx) (f:Sv):TS:=fun E σ H=>∃ ρ Hi,fG X G Hi H σ ρ/\Fin X G Hi E (f ρ)
@[irreducible] def PEd (X:Cx) (G:Gx) (e:Expr) (f:Ev):Prop:=PE X e (tD X G f)
unseal PEd
@[irreducible] def PEf (X:Cx) (G:Gx) (e:Expr) (f:Fv):Prop:=PE X e (tF X G f)
unseal PEf
@[irreducible] def PTd (X:Cx) (G:Gx) (e:Expr) (f:Tv):Prop:=PT X e (tTb X G f)
unseal PTd
@[irreducible] def PWd (X:Cx) (G:Gx) (e:Expr) (f:Tv):Prop:=PW X e (tTb X G f)
unseal PWd
@[irreducible] def PAd (X:Cx) (G:Gx) (es:List Expr) (f:Fv):Prop:=PA X es (tAs X G f)
unseal PAd
@[irreducible] def PSd (X:Cx) (G:Gx) (s:Stmt) (f:Sv):Prop:=PS X s (tS X G f)
unseal PSd
@[irreducible] def bZ (X:Cx) (G:Gx) (s:List Stmt) (f:Sv):Prop:=PSs X s (tS X G f)
unseal bZ
theorem PE.wk {X:Cx} {e:Expr} {t t':TE} (h:PE X e t) (w:∀ σ H Q,t' σ H Q->t σ H Q):PE X e t':=fun pins s σ H Q I q=>h pins s σ H Q I (w σ H Q q)
theorem PT.wk {X:Cx} {e:Expr} {t t':TT} (h:PT X e t) (w:∀ σ H Q,t' σ H Q->t σ H Q):PT X e t':=fun pins s σ H Q I q=>h pins s σ H Q I (w σ H Q q)
theorem PW.wk {X:Cx} {e:Expr} {t t':TT} (h:PW X e t) (w:∀ σ H Q,t' σ H Q->t σ H Q):PW X e t':=fun wh pins s σ H Q I q=>h wh pins s σ H Q I (w σ H Q q)
theorem PA.wk {X:Cx} {es:List Expr} {t t':TA} (h:PA X es t) (w:∀ σ H Q,t' σ H Q->t σ H Q):PA X es t':=fun pos pins s σ H Q I q=>h pos pins s σ H Q I (w σ H Q q)
theorem PS.wk {X:Cx} {s:Stmt} {t t':TS} (h:PS X s t) (w:∀ E σ H,t' E σ H->t E σ H):PS X s t':=fun pins s σ H E I q=>h pins s σ H E I (w E σ H q)
theorem PSs.wk {X:Cx} {s:List Stmt} {t t':TS} (h:PSs X s t) (w:∀ E σ H,t' E σ H->t E σ H):PSs X s t':=fun pins s σ H E I q=>h pins s σ H E I (w E σ H q)
section
variable {X:Cx} {G:Gx} {a b e:Expr} {es:List Expr} {pos:Pos} {f g:Ev}
theorem zGn (i:Nat) (h:PE X e (rZ i)):PEd X G e (aG i):=PE.wk h fun σ H Q q=>by
 obtain ⟨ρ,Hi,R,o⟩:=q
 unfold aG at o
 cases z:ρ[i]? with
 | none=>rw [z] at o;exact o.elim
 | some s=>
  rw [z] at o
  cases s with
  | val d=>
   obtain ⟨v,p,r⟩:=R.slot i _ z
   exact ⟨v,p,o.here R.s v r⟩
  | un=>exact o.elim
  | own ds=>exact o.elim
  | exc c=>exact o.elim
  | tab T=>exact o.elim
  | ins c fs=>exact o.elim
theorem fK {v:V} {d:D} (h:PE X e (tC v)) (r:∀ H,IsD X.K H v d):PEd X G e (eC d):=PE.wk h fun σ H Q q=>by
 obtain ⟨ρ,Hi,R,o⟩:=q
 exact o.here R.s v (r Hi)
theorem nJ {Hi H:Hp} {σ:St} {ρ:Rho} {β:Type} {k:D->Res β} {k':β->Hp->Hp->Prop} {Q:VK} (R:fG X G Hi H σ ρ) (o:Out G Hi H ((f ρ).bind k) k')
  (w:∀ v d Hi' H',Ext Hi H Hi' H'->fG X G Hi' H' σ ρ->IsD X.K Hi' v d->Out G Hi' H' (k d) k'->Q v H'):tD X G f σ H Q:=
 ⟨ρ,Hi,R,o.bind.imp fun d Hi' H' e q v r=>w v d Hi' H' e (R.grow e) r q⟩
def OpK (X:Cx) (r:R2) (o:Op2):Prop:=(∀ a b c,o a b≠.err c)/\∀ (Hi H:Hp) (x y:V) (a b d:D) (Q:VK),Same Hi H->IsD X.K Hi x a->IsD X.K Hi y b->o a b=.ok d->
 (∀ v Hi' H',Ext Hi H Hi' H'->IsD X.K Hi' v d->Q v H')->r x y H Q
theorem op2 {r:R2} {o:Op2} (k:OpK X r o):∀ σ H Q,tD X G (eOp o f g) σ H Q->tOp r (tD X G f) (tD X G g) σ H Q:=fun σ H Q q=>by
 obtain ⟨ρ,Hi,R,ou⟩:=q
 refine nJ R ou fun v d Hi1 H1 e1 R1 r1 o1=>?_
 refine nJ R1 o1 fun w d' Hi2 H2 e2 R2 r2 o2=>?_
 cases z:o d d' with
 | no=>rw [z] at o2;exact o2.elim
 | err c=>exact absurd z (k.1 d d' c)
 | ok u=>
  rw [z] at o2
  exact k.2 Hi2 H2 v w d d' u Q R2.s (r1.mono e2.i) r2 z fun x Hi3 H3 e3 r3=>o2 Hi3 H3 e3 x r3
theorem aR {op:Operator} {r:R2} {o:Op2} (ho:OpR X (binaryOp op) r) (k:OpK X r o) (ha:PEd X G a f) (hb:PEd X G b g):PEd X G (.BinOp a op b pos) (eOp o f g):=PE.wk (zAs ho ha hb) (op2 k)
theorem vZ {op:CmpOp} {r:R2} {o:Op2} (ho:OpR X (compareOp op) r) (k:OpK X r o) (ha:PEd X G a f) (hb:PEd X G b g) (hm:behindInMarks op b=false):PEd X G (.Compare a [op] [b] pos) (eOp o f g):=PE.wk (zAH ho ha hb hm) (op2 k)
theorem xZ {r:R2} {o:Op2} (ho:IxR X r) (k:OpK X r o) (ha:PEd X G a f) (hb:PEd X G b g) (hs:zBv b):PEd X G (.Subscript a b pos) (eOp o f g):=PE.wk (zAY ho ha hb hs) (op2 k)
theorem tst {op:CmpOp} {r:R2} {o:Op2} (ho:OpR X (compareOp op) r) (k:OpK X r o) (ha:PEd X G a f) (hb:PEd X G b g) (hm:behindInMarks op b=false):PTd X G (.Compare a [op] [b] pos) (dU (eOp o f g)):=
 PT.wk (uQ ho ha hb hm) fun σ H Q q=>by
  obtain ⟨ρ,Hi,R,ou⟩:=q
  refine op2 k σ H _ ⟨ρ,Hi,R,ou.bind.imp fun d Hi' H' e o v r=>?_⟩
  cases d with
  | bl c=>rw [r.blI];exact ⟨c,rfl,o.here e.s⟩
  | _=>exact o.elim
theorem yS (h:PEd X G a f) (he:∀ whole,isTrue a X.env whole=(do let v <-whole;standAt a.pos;holding [v] (truthy v)):=by intro _;rfl):PTd X G a (dU f):=PT.wk (zHy h he) fun σ H Q q=>by
 obtain ⟨ρ,Hi,R,ou⟩:=q
 refine ⟨ρ,Hi,R,ou.bind.imp fun d Hi' H' e o v r=>?_⟩
 cases d with
 | bl c=>rw [r.blI];exact ⟨c,rfl,o.here e.s⟩
 | _=>exact o.elim
variable {t u:Tv}
theorem zIv {Hi H:Hp} {σ:St} {ρ:Rho} {β:Type} {k:Bool->Res β} {k':β->Hp->Hp->Prop} {Q:Bool->Hp->Prop} (R:fG X G Hi H σ ρ) (o:Out G Hi H ((t ρ).bind k) k')
  (w:∀ c Hi' H',Ext Hi H Hi' H'->fG X G Hi' H' σ ρ->Out G Hi' H' (k c) k'->Q c H'):tTb X G t σ H Q:=
 ⟨ρ,Hi,R,o.bind.imp fun d Hi' H' e q=>w d Hi' H' e (R.grow e) q⟩
theorem zGs (h:PTd X G a t):PTd X G (.UnaryOp .Not a pos) (uZ t):=PT.wk (zGO h) fun σ H Q q=>by
 obtain ⟨ρ,Hi,R,ou⟩:=q
 exact zIv R ou fun c Hi1 H1 e1 R1 o1=>o1.here R1.s
theorem zHw (h:PTd X G a t):PWd X G (.BoolOp .And [a] pos) t:=zFb h
theorem sI (h:PTd X G a t):PWd X G (.BoolOp .Or [a] pos) t:=zFZ h
theorem zJd {rest:List Expr} (ha:PTd X G a t) (hb:PWd X G (.BoolOp .And (b::rest) pos) u):PWd X G (.BoolOp .And (a::b::rest) pos) (zCx t u):=PW.wk (zGE ha hb) fun σ H Q q=>by
 obtain ⟨ρ,Hi,R,ou⟩:=q
 refine zIv R ou fun c Hi1 H1 e1 R1 o1=>?_
 cases c with
 | true=>exact ⟨ρ,Hi1,R1,o1⟩
 | false=>exact o1.here R1.s
theorem zDj {rest:List Expr} (ha:PTd X G a t) (hb:PWd X G (.BoolOp .Or (b::rest) pos) u):PWd X G (.BoolOp .Or (a::b::rest) pos) (yT t u):=PW.wk (zJt ha hb) fun σ H Q q=>by
 obtain ⟨ρ,Hi,R,ou⟩:=q
 refine zIv R ou fun c Hi1 H1 e1 R1 o1=>?_
 cases c with
 | true=>exact o1.here R1.s
 | false=>exact ⟨ρ,Hi1,R1,o1⟩
theorem PWd.pt {e:Expr} (h:PWd X G e t):PTd X G e t:=PW.pt h
theorem vN {op} (h:PEd X G a f):PEd X G (.BoolOp op [a] pos) f:=zGe h
theorem vL {rest:List Expr} (ha:PEd X G a f) (hb:PEd X G (.BoolOp .And (b::rest) pos) g):PEd X G (.BoolOp .And (a::b::rest) pos) (zEC f g):=PE.wk (zGf ha hb) fun σ H Q q=>by
 obtain ⟨ρ,Hi,R,ou⟩:=q
 refine nJ R ou fun v d Hi1 H1 e1 R1 r1 o1=>?_
 cases d with
 | bl c=>
  refine ⟨c,r1.blI,?_⟩
  cases c with
  | true=>exact ⟨ρ,Hi1,R1,o1⟩
  | false=>exact o1.here R1.s _ (.bl false)
 | _=>exact o1.elim
theorem zGX (ha:PEd X G a f):PEd X G (.UnaryOp .Not a pos) (eUn zJf f):=PE.wk (zGC ha) fun σ H Q q=>by
 obtain ⟨ρ,Hi,R,ou⟩:=q
 refine nJ R ou fun v d Hi1 H1 e1 R1 r1 o1=>?_
 cases d with
 | bl c=>exact ⟨c,r1.blI,o1.here R1.s _ (.bl _)⟩
 | _=>exact o1.elim
theorem zDC (ha:PEd X G a f):PEd X G (.UnaryOp .USub a pos) (eUn zIt f):=PE.wk (zIZ zGK ha) fun σ H Q q=>by
 obtain ⟨ρ,Hi,R,ou⟩:=q
 refine nJ R ou fun v d Hi1 H1 e1 R1 r1 o1=>?_
 cases d with
 | int c=>exact ⟨c,r1.intI,o1.here R1.s _ (.int _)⟩
 | _=>exact o1.elim
theorem zGk {c:Expr} (hc:PTd X G c t) (ha:PEd X G a f) (hb:PEd X G b g):PEd X G (.IfExp c a b pos) (eIf t f g):=PE.wk (zCy hc ha hb) fun σ H Q q=>by
 obtain ⟨ρ,Hi,R,ou⟩:=q
 refine zIv R ou fun c Hi1 H1 e1 R1 o1=>?_
 cases c with
 | true=>exact ⟨ρ,Hi1,R1,o1⟩
 | false=>exact ⟨ρ,Hi1,R1,o1⟩
variable {fs:Fv}
theorem aN:PAd X G [] aNil:=PA.wk gB fun σ H Q q=>by
 obtain ⟨ρ,Hi,R,ou⟩:=q
 exact ou.here R.s [] .nil
theorem aA (ha:PEd X G e f) (hr:PAd X G es fs) (hs:starEach (e::es) X.env=(false,eval e X.env)::starEach es X.env:=by rfl):PAd X G (e::es) (aD f fs):=PA.wk (cZ ha hr hs) fun σ H Q q=>by
 obtain ⟨ρ,Hi,R,ou⟩:=q
 refine nJ R ou fun v d Hi1 H1 e1 R1 r1 o1=>?_
 refine ⟨ρ,Hi1,R1,o1.bind.imp fun ds Hi2 H2 e2 o2 vs rs=>?_⟩
 exact o2.here e2.s _ (.cons (r1.mono e2.i) rs)
theorem zDP {Hi H:Hp} {σ:St} {ρ:Rho} {β:Type} {k:List D->Res β} {k':β->Hp->Hp->Prop} {Q:List V->Hp->Prop} (R:fG X G Hi H σ ρ) (o:Out G Hi H ((fs ρ).bind k) k')
  (w:∀ vs ds Hi' H',Ext Hi H Hi' H'->fG X G Hi' H' σ ρ->IsDs X.K Hi' vs ds->Out G Hi' H' (k ds) k'->Q vs H'):tAs X G fs σ H Q:=
 ⟨ρ,Hi,R,o.bind.imp fun d Hi' H' e q v r=>w v d Hi' H' e (R.grow e) r q⟩
theorem sH {x1} (h:PAd X G es fs):PEd X G (.Tuple es x1 pos) (zFB fs):=PE.wk (zHP h) fun σ H Q q=>by
 obtain ⟨ρ,Hi,R,ou⟩:=q
 refine zDP R ou fun vs ds Hi1 H1 e1 R1 r1 o1=>?_
 by_cases hz:ds.length<=16777216
 ·rw [if_pos hz] at o1
  refine ⟨by rw [r1.length];exact hz,fun p hp=>?_⟩
  exact o1 _ _ (Ext.new R1.s hp) (.ref p) (.tup (SqT.of aI) (r1.mono (bA (R1.s.none hp) _)))
 ·rw [if_neg hz] at o1;exact o1.elim
theorem bR (h:PAd X G es fs):PEf X G (.List es pos) (iL fs):=PE.wk (zGi h) fun σ H Q q=>by
 obtain ⟨ρ,Hi,R,ou⟩:=q
 refine zDP R ou fun vs ds Hi1 H1 e1 R1 r1 o1=>?_
 by_cases hz:ds.length<=16777216
 ·rw [if_pos hz] at o1
  refine ⟨by rw [r1.length];exact hz,fun p hp=>?_⟩
  exact o1 _ _ (Ext.newF R1.s hp) p ⟨e1.h.none hp,R1.s.none hp,vs,aI,r1⟩
 ·rw [if_neg hz] at o1;exact o1.elim
theorem PEf.d (h:PEf X G e fs):PEd X G e (eF fs):=PE.wk h fun σ H Q q=>by
 obtain ⟨ρ,Hi,R,ou⟩:=q
 refine ⟨ρ,Hi,R,?_⟩
 cases z:fs ρ with
 | no=>unfold eF at ou;rw [z] at ou;exact ou
 | err c=>unfold eF at ou;rw [z] at ou;exact ou
 | ok ds=>
  unfold eF at ou;rw [z] at ou
  intro Hi1 H1 e1 a n
  obtain ⟨n1,n2,xs,n3,n4⟩:=n
  have ou':∀ Hi' H',Ext Hi H Hi' H'->∀ v,IsD X.K Hi' v (.lst ds)->Q v H':=ou
  exact ou' _ _ (e1.hold n1 n3 n2) (.ref a) (.lst (SqL.of aI) (n4.mono (bA n2 _)))
theorem PEd.frz (h:PEd X G e f):PEd X G e (zIr f):=PE.wk h fun σ H Q q=>by
 obtain ⟨ρ,Hi,R,ou⟩:=q
 obtain ⟨Hf,s1,R1,fl⟩:=R.frz
 refine ⟨ρ.map Sl.frz,Hf,R1,?_⟩
 unfold zIr at ou
 cases z:f (ρ.map Sl.frz) with
 | no=>rw [z] at ou;exact ou
 | err c=>
  rw [z] at ou
  intro Hi1 H1 e1
  have ou':∀ Hi' H',Ext Hi H Hi' H'->G.E c H':=ou
  obtain ⟨Ht,e2,k,s2,n⟩:=Ext.thaw s1 fl R1.s e1
  exact ou' Ht H1 e2
 | ok d=>
  rw [z] at ou
  by_cases hz:noL d=true
  ·have ou':Out G Hi H (if noL d=true then Res.ok d else .no) _:=ou
   rw [if_pos hz] at ou'
   intro Hi1 H1 e1 v r
   obtain ⟨Ht,e2,k,s2,n⟩:=Ext.thaw s1 fl R1.s e1
   exact ou' Ht H1 e2 v (r.noL k hz)
  ·have ou':Out G Hi H (if noL d=true then Res.ok d else .no) _:=ou
   rw [if_neg hz] at ou';exact ou'.elim
end
end L3
namespace L3
open PySem PySem.Spec PyProof.Rows L2
unseal PEd PEf PTd PWd PAd PSd bZ
section
variable {X:Cx} {G:Gx} {a b e:Expr} {es:List Expr} {pos:Pos} {f g:Ev} {fs:Fv} {t u:Tv}
theorem PEf.frz (h:PEf X G e fs):PEf X G e (zIi fs):=PE.wk h fun σ H Q q=>by
 obtain ⟨ρ,Hi,R,ou⟩:=q
 obtain ⟨Hf,s1,R1,fl⟩:=R.frz
 refine ⟨ρ.map Sl.frz,Hf,R1,?_⟩
 unfold zIi at ou
 cases z:fs (ρ.map Sl.frz) with
 | no=>rw [z] at ou;exact ou
 | err c=>
  rw [z] at ou
  intro Hi1 H1 e1
  have ou':∀ Hi' H',Ext Hi H Hi' H'->G.E c H':=ou
  obtain ⟨Ht,e2,k,s2,n⟩:=Ext.thaw s1 fl R1.s e1
  exact ou' Ht H1 e2
 | ok ds=>
  rw [z] at ou
  have ou':Out G Hi H (if noLs ds=true then Res.ok ds else .no) _:=ou
  by_cases hz:noLs ds=true
  ·rw [if_pos hz] at ou'
   intro Hi1 H1 e1 a n
   obtain ⟨n1,n2,xs,n3,n4⟩:=n
   obtain ⟨Ht,e2,k,s2,_⟩:=Ext.thaw s1 fl R1.s e1
   exact ou' Ht H1 e2 a ⟨n1,s2.none n2,xs,n3,n4.noL k hz⟩
  ·rw [if_neg hz] at ou';exact ou'.elim
theorem OpR.or {o:Value->Value->Sem Value} {r r':R2} (h:OpR X o r) (h':OpR X o r'):OpR X o (fun x y H Q=>r x y H Q∨r' x y H Q):=by
 intro pins s σ H x y v u Q I rx ry q
 rcases q with q | q
 ·exact h pins s σ H x y v u Q I rx ry q
 ·exact h' pins s σ H x y v u Q I rx ry q
theorem zAE {o:Op2} {h:Int->Int->Bool} (hi:∀ i j,o (.int i) (.int j)=.ok (.bl (h i j))) (hn:∀ a b d,o a b=.ok d->∃ i j,a=.int i/\b=.int j) (he:∀ a b c,o a b≠.err c):OpK X (rI0 fun i j=>.bl (h i j)) o:=
 ⟨he,fun Hi H x y a b d Q s r1 r2 z q=>by
  obtain ⟨i,j,rfl,rfl⟩:=hn a b d z
  rw [hi] at z;cases z
  exact ⟨i,j,r1.intI,r2.intI,q _ Hi H (Ext.refl s) (.bl _)⟩⟩
theorem zIk:OpK X (rI0 fun i j=>.bl (decide (i < j))) oLt:=zAE (fun _ _=>rfl) (fun a b d z=>by unfold oLt at z;split at z<;>first | exact ⟨_,_,rfl,rfl⟩ | cases z) (fun a b c z=>by unfold oLt at z;split at z<;>cases z)
theorem zJK:OpK X (rI0 fun i j=>.bl (decide (i<=j))) oLe:=zAE (fun _ _=>rfl) (fun a b d z=>by unfold oLe at z;split at z<;>first | exact ⟨_,_,rfl,rfl⟩ | cases z) (fun a b c z=>by unfold oLe at z;split at z<;>cases z)
theorem zFV:OpK X (rI0 fun i j=>.bl (decide (j < i))) oGt:=zAE (fun _ _=>rfl) (fun a b d z=>by unfold oGt at z;split at z<;>first | exact ⟨_,_,rfl,rfl⟩ | cases z) (fun a b c z=>by unfold oGt at z;split at z<;>cases z)
theorem zCD {o:Op2} {C:Int->Int->Prop} {h:Int->Int->Int} (hn:∀ a b d,o a b=.ok d->∃ i j,a=.int i/\b=.int j/\C i j/\d=.int (h i j)) (he:∀ a b c,o a b≠.err c):OpK X (rI C fun i j=>.int (h i j)) o:=
 ⟨he,fun Hi H x y a b d Q s r1 r2 z q=>by
  obtain ⟨i,j,rfl,rfl,hc,rfl⟩:=hn a b d z
  exact ⟨i,j,r1.intI,r2.intI,hc,q _ Hi H (Ext.refl s) (.int _)⟩⟩
def zHF (i j:Int):Prop:=gG i j=true
theorem uG:OpR X (binaryOp .Mult) (rI zHF fun i j=>.int (i * j)):=opI fun i j _ _ _ _ _ hc q=>by
 have hc':gG i j=true:=hc
 unfold gG at hc'
 simp only [Bool.or_eq_true,Bool.and_eq_true,decide_eq_true_eq] at hc'
 rcases hc' with (⟨h1,h2⟩ | ⟨h1,h2⟩) | h
 ·exact mul_int q (zIm.ok (.inl ⟨h1,h2⟩))
 ·exact mul_int q (zIm.ok (.inr ⟨h1,h2⟩))
 ·exact mul_int q (PySem.IntMulOk.of_le (PySem.intBits_le_iff.mpr (zEN i)) (PySem.intBits_le_iff.mpr (zEN j)) h)
def zGP (_ j:Int):Prop:=iZ j=true
theorem bO:OpR X (binaryOp .FloorDiv) (rI zGP fun i j=>.int (i.fdiv j)):=opI fun i j _ _ _ _ _ hc q=>by
 have hc':iZ j=true:=hc
 unfold iZ at hc'
 simp only [Bool.and_eq_true,decide_eq_true_eq] at hc'
 refine floordiv_int hc'.1 q (.inl (PyProof.noPylong_of_log2 ?_))
 have h2:=hc'.2
 unfold nb at h2
 omega
def zGS (i j:Int):Prop:=lV i j=true
theorem fQ:OpR X (binaryOp .Pow) (rI zGS fun i j=>.int (i^j.toNat)):=opI fun i j _ _ _ _ _ hc q=>by
 have hc':lV i j=true:=hc
 unfold lV at hc'
 simp only [Bool.and_eq_true,decide_eq_true_eq] at hc'
 refine pow_int hc'.1 (Int.le_trans (Int.mul_le_mul_of_nonneg_right ?_ hc'.1) hc'.2) q
 have:=PySem.intBits_le_iff.mpr (zEN i)
 omega
theorem zHp:OpK X (rI zHF fun i j=>.int (i * j)) zFR:=zCD (fun a b d z=>by
 unfold zFR at z
 split at z
 case h_2=>cases z
 rename_i i j
 have z':(if gG i j=true then Res.ok (D.int (i * j)) else .no)=.ok d:=z
 by_cases h:gG i j=true
 ·rw [if_pos h] at z';cases z';exact ⟨i,j,rfl,rfl,h,rfl⟩
 ·rw [if_neg h] at z';cases z') (fun a b c z=>by
 unfold zFR at z
 split at z
 case h_2=>cases z
 rename_i i j
 have z':(if gG i j=true then Res.ok (D.int (i * j)) else .no)=.err c:=z
 by_cases h:gG i j=true
 ·rw [if_pos h] at z';cases z'
 ·rw [if_neg h] at z';cases z')
theorem fM:OpK X (rI zGP fun i j=>.int (i.fdiv j)) mY:=zCD (fun a b d z=>by
 unfold mY at z
 split at z
 case h_2=>cases z
 rename_i i j
 have z':(if iZ j=true then Res.ok (D.int (i.fdiv j)) else .no)=.ok d:=z
 by_cases h:iZ j=true
 ·rw [if_pos h] at z';cases z';exact ⟨i,j,rfl,rfl,h,rfl⟩
 ·rw [if_neg h] at z';cases z') (fun a b c z=>by
 unfold mY at z
 split at z
 case h_2=>cases z
 rename_i i j
 have z':(if iZ j=true then Res.ok (D.int (i.fdiv j)) else .no)=.err c:=z
 by_cases h:iZ j=true
 ·rw [if_pos h] at z';cases z'
 ·rw [if_neg h] at z';cases z')
theorem dL:OpK X (rI (fun _ j=>j≠0) fun i j=>.int (i.fmod j)) iX:=zCD (fun a b d z=>by
 unfold iX at z
 split at z
 case h_2=>cases z
 rename_i i j
 have z':(if j≠0 then Res.ok (D.int (i.fmod j)) else .no)=.ok d:=z
 by_cases h:j≠0
 ·rw [if_pos h] at z';cases z';exact ⟨i,j,rfl,rfl,h,rfl⟩
 ·rw [if_neg h] at z';cases z') (fun a b c z=>by
 unfold iX at z
 split at z
 case h_2=>cases z
 rename_i i j
 have z':(if j≠0 then Res.ok (D.int (i.fmod j)) else .no)=.err c:=z
 by_cases h:j≠0
 ·rw [if_pos h] at z';cases z'
 ·rw [if_neg h] at z';cases z')
theorem pC:OpK X (rI zGS fun i j=>.int (i^j.toNat)) yO:=zCD (fun a b d z=>by
 unfold yO at z
 split at z
 case h_2=>cases z
 rename_i i j
 have z':(if lV i j=true then Res.ok (D.int (i^j.toNat)) else .no)=.ok d:=z
 by_cases h:lV i j=true
 ·rw [if_pos h] at z';cases z';exact ⟨i,j,rfl,rfl,h,rfl⟩
 ·rw [if_neg h] at z';cases z') (fun a b c z=>by
 unfold yO at z
 split at z
 case h_2=>cases z
 rename_i i j
 have z':(if lV i j=true then Res.ok (D.int (i^j.toNat)) else .no)=.err c:=z
 by_cases h:lV i j=true
 ·rw [if_pos h] at z';cases z'
 ·rw [if_neg h] at z';cases z')
def zFY (K:PySem.W.Frag):R2:=fun x y H Q=>∃ a b ys,x=.ref a/\y=.ref b/\SqT K H a []/\SqT K H b ys/\Q (.ref b) H
theorem zFh:OpR X (binaryOp .Add) (zFY X.K):=by
 intro pins s σ H x y v u Q I rx ry h
 obtain ⟨a,b,ys,rfl,rfl,ha,hb,q⟩:=h
 cases rx
 cases ry
 obtain ⟨its,r1,p1,_⟩:=I.tuple ha
 obtain ⟨its2,r2,p2,_⟩:=I.tuple hb
 cases r1
 obtain ⟨⟨c1,d1,t1,s1⟩,ho1,hc1,n1,hd1⟩:=id p1
 obtain ⟨⟨c2,d2,t2,s2⟩,ho2,hc2,n2,hd2⟩:=id p2
 simp only at hc1 hd1 hc2 hd2
 subst hc1 hd1 hc2 hd2
 exact concat_meets ⟨_,ho1,rfl⟩ ⟨_,ho2,rfl⟩ noFill_tuple_add seq_tuple_add PySem.F.slot_tuple_add PySem.F.entry_tuple_add (PySem.F.args_tuple_add_2 _ _) (tuple_addW0 a b #[] its2.toArray n1 n2 d1 d2 s1 s2 rfl) ⟨ho1,ho2,⟨.ref b,H,I,rfl,q⟩⟩
def zGU (K:PySem.W.Frag):R2:=fun x y H Q=>rI0 (fun i j=>.int (i+j)) x y H Q∨(zHC K x y H Q∨zFY K x y H Q)
theorem cT:OpR X (binaryOp .Add) (zGU X.K):=OpR.or zGI (OpR.or zES zFh)
theorem jE:OpK X (zGU X.K) rB:=⟨fun a b c z=>(by
  unfold rB at z
  split at z
  case h_1=>cases z
  case h_3=>cases z
  rename_i as bs
  have z':(if as.length+bs.length<=16777216 then Res.ok (D.tup (as++bs)) else .no)=.err c:=z
  split at z'<;>cases z'),fun Hi H x y a b d Q s r1 r2 z q=>by
  unfold rB at z
  split at z
  case h_3=>cases z
  ·cases z
   exact .inl ⟨_,_,r1.intI,r2.intI,q _ Hi H (Ext.refl s) (.int _)⟩
  ·rename_i as bs
   have z':(if as.length+bs.length<=16777216 then Res.ok (D.tup (as++bs)) else .no)=.ok d:=z
   split at z'
   ·rename_i hz
    cases z'
    obtain ⟨p,xs,rfl,h1,i1⟩:=r1.tupI
    obtain ⟨p',ys,rfl,h2,i2⟩:=r2.tupI
    by_cases h0:as.length=0
    ·have e0:as=[]:=List.eq_nil_of_length_eq_zero h0
     subst e0
     cases i1
     exact .inr (.inr ⟨p,p',ys,rfl,rfl,aZ s h1,aZ s h2,q _ Hi H (Ext.refl s) (.tup h2 i2)⟩)
    refine .inr (.inl ⟨p,p',xs,ys,rfl,rfl,aZ s h1,aZ s h2,fun e=>h0 (by rw [<-i1.length,e];rfl),by rw [i1.length,i2.length];exact hz,fun e=>?_,fun _ l hl=>?_⟩)
    ·subst e
     cases i2
     rw [List.append_nil] at q
     exact q _ Hi H (Ext.refl s) (.tup h1 i1)
    ·exact q _ _ _ (Ext.new s hl) (.tup (SqT.of aI) ((i1.append i2).mono (bA (s.none hl) _)))
   ·cases z'⟩
theorem zFy {α:Type} {xs:List α} {i:Int} {v:α} (h0:i < 0) (h1:0<=(xs.length:Int)+i) (h:xs[((xs.length:Int)+i).toNat]?=some v):atI xs i=some v:=by
 have e:ixN xs.length i=some ((xs.length:Int)+i).toNat:=by
  unfold ixN
  rw [if_neg (by omega),if_pos (by omega)]
  congr 2
  omega
 unfold atI;rw [e];exact h
theorem zBe {K:PySem.W.Frag} {H:Hp} {xs:List V} {ds:List D} {i:Int} {d:D} (h:IsDs K H xs ds) (e:atD ds i=some d):∃ v,atI xs i=some v/\IsD K H v d:=by
 unfold atD at e
 by_cases h0:0<=i
 ·rw [if_pos h0] at e
  obtain ⟨v,hv,r⟩:=h.at e
  refine ⟨v,?_,r⟩
  have:=uT hv
  rw [show ((i.toNat:Nat):Int)=i by omega] at this
  exact this
 ·rw [if_neg h0] at e
  by_cases h1:0<=(ds.length:Int)+i
  ·rw [if_pos h1] at e
   obtain ⟨v,hv,r⟩:=h.at e
   refine ⟨v,?_,r⟩
   have hl:=h.length
   have e2:((ds.length:Int)+i).toNat=((xs.length:Int)+i).toNat:=by rw [hl]
   rw [e2] at hv
   exact zFy (by omega) (by omega) hv
  ·rw [if_neg h1] at e;cases e
theorem zFU:OpK X (fun x y H Q=>zIy X.K x y H Q∨zIg X.K x y H Q) oIx:=⟨fun a b c z=>(by
  unfold oIx at z
  split at z
  case h_3=>cases z
  ·rename_i ds i
   have z':ofO (atD ds i)=Res.err c:=z
   cases q:atD ds i<;>rw [q] at z'<;>cases z'
  ·rename_i ds i
   have z':ofO (atD ds i)=Res.err c:=z
   cases q:atD ds i<;>rw [q] at z'<;>cases z'),fun Hi H x y a b d Q s r1 r2 z q=>by
  unfold oIx at z
  split at z
  case h_3=>cases z
  ·rename_i ds i
   have z':ofO (atD ds i)=Res.ok d:=z
   cases w:atD ds i with
   | none=>rw [w] at z';cases z'
   | some d'=>
    rw [w] at z';cases z'
    obtain ⟨p,xs,rfl,h1,i1⟩:=r1.tupI
    obtain ⟨v,hv,r⟩:=zBe i1 w
    exact .inr ⟨p,xs,i,v,rfl,r2.intI,aZ s h1,hv,q v Hi H (Ext.refl s) r⟩
  ·rename_i ds i
   have z':ofO (atD ds i)=Res.ok d:=z
   cases w:atD ds i with
   | none=>rw [w] at z';cases z'
   | some d'=>
    rw [w] at z';cases z'
    obtain ⟨p,xs,rfl,h1,i1⟩:=r1.lstI
    obtain ⟨v,hv,r⟩:=zBe i1 w
    exact .inl ⟨p,xs,i,v,rfl,r2.intI,bD s h1,hv,q v Hi H (Ext.refl s) r⟩⟩
theorem eY:IxR X (fun x y H Q=>zIy X.K x y H Q∨zIg X.K x y H Q):=zEJ.or zGV
end
end L3
namespace L3
open PySem PySem.Spec PyProof.Rows L2
unseal PEd PEf PTd PWd PAd PSd bZ
section
variable {X:Cx} {pins:List (Addr×Obj)} {σ:St} {H:Hp} {s:Shared}
mutual
theorem IsD.inj (I:Inv X pins σ H s):∀ {v:V} {d e:D},IsD X.K H v d->IsD X.K H v e->d=e
 | _,_,_,.non,h=>by cases h;rfl
 | _,_,_,.bl b,h=>by cases h;rfl
 | _,_,_,.int i,h=>by cases h;rfl
 | _,_,_,.str x,h=>by cases h;rfl
 | _,_,_,.tup h hs,h2=>by
  cases h2 with
  | tup h' hs'=>
   have e:=I.tuple_inj h h'
   subst e
   rw [IsDs.inj I hs hs']
  | lst h' hs'=>
   exfalso
   obtain ⟨_,_,⟨o,e,c,_⟩,_⟩:=I.tuple h
   obtain ⟨_,_,⟨o',n',e',c',_⟩,_⟩:=I.list h'
   rw [e] at e';cases e';rw [c] at c';exact absurd c' (by decide)
 | _,_,_,.lst h hs,h2=>by
  cases h2 with
  | lst h' hs'=>
   have e:=I.list_inj h h'
   subst e
   rw [IsDs.inj I hs hs']
  | tup h' hs'=>
   exfalso
   obtain ⟨_,_,⟨o,e,c,_⟩,_⟩:=I.tuple h'
   obtain ⟨_,_,⟨o',n',e',c',_⟩,_⟩:=I.list h
   rw [e] at e';cases e';rw [c] at c';exact absurd c' (by decide)
theorem IsDs.inj (I:Inv X pins σ H s):∀ {vs:List V} {ds es:List D},IsDs X.K H vs ds->IsDs X.K H vs es->ds=es
 | _,_,_,.nil,h=>by cases h;rfl
 | _,_,_,.cons h hs,h2=>by
  cases h2 with
  | cons h' hs'=>rw [IsD.inj I h h',IsDs.inj I hs hs']
end
theorem zP {α:Type} {l:List α} {j:Nat} {x d:α} (h:l[j]?=some x):l.getD j d=x:=by
 rw [List.getD_eq_getElem?_getD,h];rfl
theorem gN {A:Around} {xs xs':List V} {ds ds':List D} {its its':List Value} (hs:IsDs X.K H xs ds) (hs':IsDs X.K H xs' ds') (rv:cG xs its) (rv':cG xs' its')
  (rc:∀ (d d':D) (v v':V) (u u':Value),d∈ds->IsD X.K H v d->IsD X.K H v' d'->bU v u->bU v' u'->SeqAt.EqAt A s u u' (eqD d d'))
  (j:Nat) (g1:j < its.toArray.size) (g2:j < its'.toArray.size):SeqAt.EqAt A s its.toArray[j] its'.toArray[j] (eqD (ds.getD j .non) (ds'.getD j .non)):=by
 have g1':j < its.length:=by simpa using g1
 have g2':j < its'.length:=by simpa using g2
 have l1:its.length=ds.length:=by rw [<-rv.length,hs.length]
 have l2:its'.length=ds'.length:=by rw [<-rv'.length,hs'.length]
 obtain ⟨d,hd⟩:∃ d,ds[j]?=some d:=⟨_,List.getElem?_eq_getElem (by omega)⟩
 obtain ⟨d',hd'⟩:∃ d,ds'[j]?=some d:=⟨_,List.getElem?_eq_getElem (by omega)⟩
 obtain ⟨v,hv,iv⟩:=hs.at hd
 obtain ⟨v',hv',iv'⟩:=hs'.at hd'
 obtain ⟨w1,hw,rw1⟩:=rv.get hv
 obtain ⟨w2,hw',rw2⟩:=rv'.get hv'
 have e1:its.toArray[j]=w1:=by
  rw [List.getElem?_eq_getElem g1'] at hw
  simpa using hw
 have e2:its'.toArray[j]=w2:=by
  rw [List.getElem?_eq_getElem g2'] at hw'
  simpa using hw'
 rw [e1,e2,zP hd,zP hd']
 exact rc d d' v v' w1 w2 (List.mem_of_getElem? hd) iv iv' rw1 rw2
theorem dY {ds ds':List D} (h:ds.length=ds'.length):((List.range ds.length).all fun j=>eqD (ds.getD j .non) (ds'.getD j .non))=zAB ds ds':=by
 rw [gP,<-h,Nat.min_self];simp
theorem qN {ds ds':List D} (h:ds.length≠ds'.length):zAB ds ds'=false:=by
 rw [gP];simp [h]
theorem rL (I:Inv X pins σ H s) {A:Around} {v v':V} {d d':D} {u u':Value} (h1:IsD X.K H v d) (h2:IsD X.K H v' d') (r1:bU v u) (r2:bU v' u') (hu:A.units < cLine)
  (rc:∀ ds,(d=.tup ds∨d=.lst ds)->∀ (e e':D) (w w':V) (z z':Value),e∈ds->IsD X.K H w e->IsD X.K H w' e'->bU w z->bU w' z'->SeqAt.EqAt A.in1 s z z' (eqD e e')):
  SeqAt.EqAt A s u u' (eqD d d'):=by
 cases h1 with
 | non=>
  cases (show u=Value.none from r1)
  cases h2 with
  | non=>cases (show u'=Value.none from r2);exact SeqAt.EqAt.same _
  | bl b=>cases (show u'=Value.bool _ from r2);exact SeqAt.EqAt.none_bool _
  | int i=>obtain ⟨t,rfl⟩:=r2;exact SeqAt.EqAt.none_int _ _
  | str x=>obtain ⟨t,rfl⟩:=r2;exact SeqAt.EqAt.none_str _ _
  | tup h hs=>cases (show u'=Value.ref _ from r2);obtain ⟨its,rv,p,hz⟩:=I.tuple h;exact SeqAt.EqAt.none_tuple (show s.heap.IsTuple _ its.toArray from p) hu
  | lst h hs=>cases (show u'=Value.ref _ from r2);obtain ⟨its,rv,p,hz⟩:=I.list h;exact SeqAt.EqAt.none_list p.isList hu
 | bl b=>
  cases (show u=Value.bool _ from r1)
  cases h2 with
  | non=>cases (show u'=Value.none from r2);exact SeqAt.EqAt.bool_none _
  | bl b=>cases (show u'=Value.bool _ from r2);exact SeqAt.EqAt.bool_bool _ _
  | int i=>obtain ⟨t,rfl⟩:=r2;exact SeqAt.EqAt.bool_int _ _ _
  | str x=>obtain ⟨t,rfl⟩:=r2;exact SeqAt.EqAt.bool_str _ _ _
  | tup h hs=>cases (show u'=Value.ref _ from r2);obtain ⟨its,rv,p,hz⟩:=I.tuple h;exact SeqAt.EqAt.bool_tuple _ (show s.heap.IsTuple _ its.toArray from p) hu
  | lst h hs=>cases (show u'=Value.ref _ from r2);obtain ⟨its,rv,p,hz⟩:=I.list h;exact SeqAt.EqAt.bool_list _ p.isList hu
 | int i=>
  obtain ⟨t,rfl⟩:=r1
  cases h2 with
  | non=>cases (show u'=Value.none from r2);exact SeqAt.EqAt.int_none _ _
  | bl b=>cases (show u'=Value.bool _ from r2);exact SeqAt.EqAt.int_bool _ _ _
  | int i=>obtain ⟨t,rfl⟩:=r2;exact SeqAt.EqAt.int_int _ _ _ _
  | str x=>obtain ⟨t,rfl⟩:=r2;exact SeqAt.EqAt.int_str _ _ _ _
  | tup h hs=>cases (show u'=Value.ref _ from r2);obtain ⟨its,rv,p,hz⟩:=I.tuple h;exact SeqAt.EqAt.int_tuple _ _ (show s.heap.IsTuple _ its.toArray from p) hu
  | lst h hs=>cases (show u'=Value.ref _ from r2);obtain ⟨its,rv,p,hz⟩:=I.list h;exact SeqAt.EqAt.int_list _ _ p.isList hu
 | str x=>
  obtain ⟨t,rfl⟩:=r1
  cases h2 with
  | non=>cases (show u'=Value.none from r2);exact SeqAt.EqAt.str_none _ _
  | bl b=>cases (show u'=Value.bool _ from r2);exact SeqAt.EqAt.str_bool _ _ _
  | int i=>obtain ⟨t,rfl⟩:=r2;exact SeqAt.EqAt.str_int _ _ _ _
  | str x=>obtain ⟨t,rfl⟩:=r2;exact SeqAt.EqAt.str_str _ _ _ _
  | tup h hs=>cases (show u'=Value.ref _ from r2);obtain ⟨its,rv,p,hz⟩:=I.tuple h;exact SeqAt.EqAt.str_tuple _ _ (show s.heap.IsTuple _ its.toArray from p) hu
  | lst h hs=>cases (show u'=Value.ref _ from r2);obtain ⟨its,rv,p,hz⟩:=I.list h;exact SeqAt.EqAt.str_list _ _ p.isList hu
 | @tup a xs ds h hs=>
  cases (show u=Value.ref a from r1)
  obtain ⟨its,rv,p,hz⟩:=I.tuple h
  cases h2 with
  | non=>cases (show u'=Value.none from r2);exact SeqAt.EqAt.tuple_none (show s.heap.IsTuple _ its.toArray from p) hu
  | bl b=>cases (show u'=Value.bool _ from r2);exact SeqAt.EqAt.tuple_bool _ (show s.heap.IsTuple _ its.toArray from p) hu
  | int i=>obtain ⟨t,rfl⟩:=r2;exact SeqAt.EqAt.tuple_int _ _ (show s.heap.IsTuple _ its.toArray from p) hu
  | str x=>obtain ⟨t,rfl⟩:=r2;exact SeqAt.EqAt.tuple_str _ _ (show s.heap.IsTuple _ its.toArray from p) hu
  | @tup a' xs' ds' h' hs'=>
   cases (show u'=Value.ref a' from r2)
   by_cases e:a=a'
   ·subst e
    have e:=I.tuple_inj h h'
    subst e
    have e:=IsDs.inj I hs hs'
    subst e
    rw [lF]
    exact SeqAt.EqAt.same _
   ·obtain ⟨its',rv',p',hz'⟩:=I.tuple h'
    have l1:its.toArray.size=ds.length:=by rw [List.size_toArray,<-rv.length,hs.length]
    have l2:its'.toArray.size=ds'.length:=by rw [List.size_toArray,<-rv'.length,hs'.length]
    have key:=SeqAt.RcAt.tuples (A:=A) (s:=s) (show s.heap.IsTuple a its.toArray from p) (show s.heap.IsTuple a' its'.toArray from p') hu
     (gN (A:=A.in1) (s:=s) hs hs' rv rv' fun d d' v v' u u' hm iv iv' r r'=>rc ds (.inl rfl) d d' v v' u u' hm iv iv' r r')
    rw [l1,l2,<-gP] at key
    exact SeqAt.EqAt.of_refs e key
  | @lst a' xs' ds' h' hs'=>
   cases (show u'=Value.ref a' from r2)
   obtain ⟨its',rv',p',hz'⟩:=I.list h'
   exact SeqAt.EqAt.tuple_list (show s.heap.IsTuple _ its.toArray from p) p'.isList hu
 | @lst a xs ds h hs=>
  cases (show u=Value.ref a from r1)
  obtain ⟨its,rv,p,hz⟩:=I.list h
  cases h2 with
  | non=>cases (show u'=Value.none from r2);exact SeqAt.EqAt.list_none p.isList hu
  | bl b=>cases (show u'=Value.bool _ from r2);exact SeqAt.EqAt.list_bool _ p.isList hu
  | int i=>obtain ⟨t,rfl⟩:=r2;exact SeqAt.EqAt.list_int _ _ p.isList hu
  | str x=>obtain ⟨t,rfl⟩:=r2;exact SeqAt.EqAt.list_str _ _ p.isList hu
  | @tup a' xs' ds' h' hs'=>
   cases (show u'=Value.ref a' from r2)
   obtain ⟨its',rv',p',hz'⟩:=I.tuple h'
   exact SeqAt.EqAt.list_tuple p.isList (show s.heap.IsTuple _ its'.toArray from p') hu
  | @lst a' xs' ds' h' hs'=>
   cases (show u'=Value.ref a' from r2)
   by_cases e:a=a'
   ·subst e
    have e:=I.list_inj h h'
    subst e
    have e:=IsDs.inj I hs hs'
    subst e
    rw [lF]
    exact SeqAt.EqAt.same _
   ·obtain ⟨its',rv',p',hz'⟩:=I.list h'
    have l1:its.toArray.size=ds.length:=by rw [List.size_toArray,<-rv.length,hs.length]
    have l2:its'.toArray.size=ds'.length:=by rw [List.size_toArray,<-rv'.length,hs'.length]
    by_cases hl:ds.length=ds'.length
    ·have key:=SeqAt.RcAt.lists (A:=A) (s:=s) p.isList p'.isList (by rw [l1,l2,hl]) hu
      (gN (A:=A.in1) (s:=s) hs hs' rv rv' fun d d' v v' u u' hm iv iv' r r'=>rc ds (.inr rfl) d d' v v' u u' hm iv iv' r r')
     rw [l1,dY hl] at key
     exact SeqAt.EqAt.of_refs e key
    ·have key:=SeqAt.RcAt.lists_lengths (A:=A) (s:=s) p.isList p'.isList (by rw [l1,l2];simp [hl]) hu
     rw [eqD,qN hl]
     exact SeqAt.EqAt.of_refs e key
theorem zBF (I:Inv X pins σ H s) (n:Nat):∀ {v v':V} {d d':D},dep d<=n->IsD X.K H v d->IsD X.K H v' d'->
  ∀ (A:Around) (u u':Value),A.units+n < cLine->bU v u->bU v' u'->SeqAt.EqAt A s u u' (eqD d d'):=by
 induction n with
 | zero=>
  intro v v' d d' hn h1 h2 A u u' hu r1 r2
  refine rL I h1 h2 r1 r2 (by omega) fun ds hd=>?_
  rcases hd with rfl | rfl<;>(rw [dep] at hn;omega)
 | succ n ih=>
  intro v v' d d' hn h1 h2 A u u' hu r1 r2
  refine rL I h1 h2 r1 r2 (by omega) fun ds hd e e' w w' z z' hm i1 i2 q1 q2=>?_
  refine ih ?_ i1 i2 A.in1 z z' (by show A.units+1+n < cLine;omega) q1 q2
  have:=jL hm
  rcases hd with rfl | rfl<;>(rw [dep] at hn;omega)
theorem zS (I:Inv X pins σ H s) {A:Around} {v v':V} {d d':D} {u u':Value} (h1:IsD X.K H v d) (h2:IsD X.K H v' d') (r1:bU v u) (r2:bU v' u') (hu:A.units < cLine)
  (rc:∀ ds,(d=.tup ds∨d=.lst ds)->∀ (e e':D) (w w':V) (z z':Value),e∈ds->IsD X.K H w e->IsD X.K H w' e'->bU w z->bU w' z'->SeqAt.EqAt A.in1 s z z' (eqD e e')):
  SeqAt.RcAt A s u u' (eqD d d'):=by
 cases h1 with
 | non=>
  cases (show u=Value.none from r1)
  cases h2 with
  | non=>cases (show u'=Value.none from r2);exact SeqAt.RcAt.none_none
  | bl b=>cases (show u'=Value.bool _ from r2);exact SeqAt.RcAt.none_bool _
  | int i=>obtain ⟨t,rfl⟩:=r2;exact SeqAt.RcAt.none_int _ _
  | str x=>obtain ⟨t,rfl⟩:=r2;exact SeqAt.RcAt.none_str _ _
  | tup h hs=>cases (show u'=Value.ref _ from r2);obtain ⟨its,rv,p,hz⟩:=I.tuple h;exact SeqAt.RcAt.none_tuple (show s.heap.IsTuple _ its.toArray from p) hu
  | lst h hs=>cases (show u'=Value.ref _ from r2);obtain ⟨its,rv,p,hz⟩:=I.list h;exact SeqAt.RcAt.none_list p.isList hu
 | bl b=>
  cases (show u=Value.bool _ from r1)
  cases h2 with
  | non=>cases (show u'=Value.none from r2);exact SeqAt.RcAt.bool_none _
  | bl b=>cases (show u'=Value.bool _ from r2);exact SeqAt.RcAt.bool_bool _ _
  | int i=>obtain ⟨t,rfl⟩:=r2;exact SeqAt.RcAt.bool_int _ _ _
  | str x=>obtain ⟨t,rfl⟩:=r2;exact SeqAt.RcAt.bool_str _ _ _
  | tup h hs=>cases (show u'=Value.ref _ from r2);obtain ⟨its,rv,p,hz⟩:=I.tuple h;exact SeqAt.RcAt.bool_tuple _ (show s.heap.IsTuple _ its.toArray from p) hu
  | lst h hs=>cases (show u'=Value.ref _ from r2);obtain ⟨its,rv,p,hz⟩:=I.list h;exact SeqAt.RcAt.bool_list _ p.isList hu
 | int i=>
  obtain ⟨t,rfl⟩:=r1
  cases h2 with
  | non=>cases (show u'=Value.none from r2);exact SeqAt.RcAt.int_none _ _
  | bl b=>cases (show u'=Value.bool _ from r2);exact SeqAt.RcAt.int_bool _ _ _
  | int i=>obtain ⟨t,rfl⟩:=r2;exact SeqAt.RcAt.int_int _ _ _ _
  | str x=>obtain ⟨t,rfl⟩:=r2;exact SeqAt.RcAt.int_str _ _ _ _
  | tup h hs=>cases (show u'=Value.ref _ from r2);obtain ⟨its,rv,p,hz⟩:=I.tuple h;exact SeqAt.RcAt.int_tuple _ _ (show s.heap.IsTuple _ its.toArray from p) hu
  | lst h hs=>cases (show u'=Value.ref _ from r2);obtain ⟨its,rv,p,hz⟩:=I.list h;exact SeqAt.RcAt.int_list _ _ p.isList hu
 | str x=>
  obtain ⟨t,rfl⟩:=r1
  cases h2 with
  | non=>cases (show u'=Value.none from r2);exact SeqAt.RcAt.str_none _ _
  | bl b=>cases (show u'=Value.bool _ from r2);exact SeqAt.RcAt.str_bool _ _ _
  | int i=>obtain ⟨t,rfl⟩:=r2;exact SeqAt.RcAt.str_int _ _ _ _
  | str x=>obtain ⟨t,rfl⟩:=r2;exact SeqAt.RcAt.str_str _ _ _ _
  | tup h hs=>cases (show u'=Value.ref _ from r2);obtain ⟨its,rv,p,hz⟩:=I.tuple h;exact SeqAt.RcAt.str_tuple _ _ (show s.heap.IsTuple _ its.toArray from p) hu
  | lst h hs=>cases (show u'=Value.ref _ from r2);obtain ⟨its,rv,p,hz⟩:=I.list h;exact SeqAt.RcAt.str_list _ _ p.isList hu
 | @tup a xs ds h hs=>
  cases (show u=Value.ref a from r1)
  obtain ⟨its,rv,p,hz⟩:=I.tuple h
  cases h2 with
  | non=>cases (show u'=Value.none from r2);exact SeqAt.RcAt.tuple_none (show s.heap.IsTuple _ its.toArray from p) hu
  | bl b=>cases (show u'=Value.bool _ from r2);exact SeqAt.RcAt.tuple_bool _ (show s.heap.IsTuple _ its.toArray from p) hu
  | int i=>obtain ⟨t,rfl⟩:=r2;exact SeqAt.RcAt.tuple_int _ _ (show s.heap.IsTuple _ its.toArray from p) hu
  | str x=>obtain ⟨t,rfl⟩:=r2;exact SeqAt.RcAt.tuple_str _ _ (show s.heap.IsTuple _ its.toArray from p) hu
  | @tup a' xs' ds' h' hs'=>
   cases (show u'=Value.ref a' from r2)
   ·obtain ⟨its',rv',p',hz'⟩:=I.tuple h'
    have l1:its.toArray.size=ds.length:=by rw [List.size_toArray,<-rv.length,hs.length]
    have l2:its'.toArray.size=ds'.length:=by rw [List.size_toArray,<-rv'.length,hs'.length]
    have key:=SeqAt.RcAt.tuples (A:=A) (s:=s) (show s.heap.IsTuple a its.toArray from p) (show s.heap.IsTuple a' its'.toArray from p') hu
     (gN (A:=A.in1) (s:=s) hs hs' rv rv' fun d d' v v' u u' hm iv iv' r r'=>rc ds (.inl rfl) d d' v v' u u' hm iv iv' r r')
    rw [l1,l2,<-gP] at key
    exact key
  | @lst a' xs' ds' h' hs'=>
   cases (show u'=Value.ref a' from r2)
   obtain ⟨its',rv',p',hz'⟩:=I.list h'
   exact SeqAt.RcAt.tuple_list (show s.heap.IsTuple _ its.toArray from p) p'.isList hu
 | @lst a xs ds h hs=>
  cases (show u=Value.ref a from r1)
  obtain ⟨its,rv,p,hz⟩:=I.list h
  cases h2 with
  | non=>cases (show u'=Value.none from r2);exact SeqAt.RcAt.list_none p.isList hu
  | bl b=>cases (show u'=Value.bool _ from r2);exact SeqAt.RcAt.list_bool _ p.isList hu
  | int i=>obtain ⟨t,rfl⟩:=r2;exact SeqAt.RcAt.list_int _ _ p.isList hu
  | str x=>obtain ⟨t,rfl⟩:=r2;exact SeqAt.RcAt.list_str _ _ p.isList hu
  | @tup a' xs' ds' h' hs'=>
   cases (show u'=Value.ref a' from r2)
   obtain ⟨its',rv',p',hz'⟩:=I.tuple h'
   exact SeqAt.RcAt.list_tuple p.isList (show s.heap.IsTuple _ its'.toArray from p') hu
  | @lst a' xs' ds' h' hs'=>
   cases (show u'=Value.ref a' from r2)
   ·obtain ⟨its',rv',p',hz'⟩:=I.list h'
    have l1:its.toArray.size=ds.length:=by rw [List.size_toArray,<-rv.length,hs.length]
    have l2:its'.toArray.size=ds'.length:=by rw [List.size_toArray,<-rv'.length,hs'.length]
    by_cases hl:ds.length=ds'.length
    ·have key:=SeqAt.RcAt.lists (A:=A) (s:=s) p.isList p'.isList (by rw [l1,l2,hl]) hu
      (gN (A:=A.in1) (s:=s) hs hs' rv rv' fun d d' v v' u u' hm iv iv' r r'=>rc ds (.inr rfl) d d' v v' u u' hm iv iv' r r')
     rw [l1,dY hl] at key
     exact key
    ·have key:=SeqAt.RcAt.lists_lengths (A:=A) (s:=s) p.isList p'.isList (by rw [l1,l2];simp [hl]) hu
     rw [eqD,qN hl]
     exact key
theorem zBk (I:Inv X pins σ H s) {A:Around} {v v':V} {d d':D} {u u':Value} (h1:IsD X.K H v d) (h2:IsD X.K H v' d') (r1:bU v u) (r2:bU v' u') (hu:A.units < cLine)
  (rc:∀ ds,(d=.tup ds∨d=.lst ds)->∀ (e e':D) (w w':V) (z z':Value),e∈ds->IsD X.K H w e->IsD X.K H w' e'->bU w z->bU w' z'->SeqAt.EqAt A.in1 s z z' (eqD e e')):
  SeqAt.RcNeAt A s u u' (!eqD d d'):=by
 cases h1 with
 | non=>
  cases (show u=Value.none from r1)
  cases h2 with
  | non=>cases (show u'=Value.none from r2);exact SeqAt.RcNeAt.none_none
  | bl b=>cases (show u'=Value.bool _ from r2);exact SeqAt.RcNeAt.none_bool _
  | int i=>obtain ⟨t,rfl⟩:=r2;exact SeqAt.RcNeAt.none_int _ _
  | str x=>obtain ⟨t,rfl⟩:=r2;exact SeqAt.RcNeAt.none_str _ _
  | tup h hs=>cases (show u'=Value.ref _ from r2);obtain ⟨its,rv,p,hz⟩:=I.tuple h;exact SeqAt.RcNeAt.none_tuple (show s.heap.IsTuple _ its.toArray from p) hu
  | lst h hs=>cases (show u'=Value.ref _ from r2);obtain ⟨its,rv,p,hz⟩:=I.list h;exact SeqAt.RcNeAt.none_list p.isList hu
 | bl b=>
  cases (show u=Value.bool _ from r1)
  cases h2 with
  | non=>cases (show u'=Value.none from r2);exact SeqAt.RcNeAt.bool_none _
  | bl b=>cases (show u'=Value.bool _ from r2);exact SeqAt.RcNeAt.bool_bool _ _
  | int i=>obtain ⟨t,rfl⟩:=r2;exact SeqAt.RcNeAt.bool_int _ _ _
  | str x=>obtain ⟨t,rfl⟩:=r2;exact SeqAt.RcNeAt.bool_str _ _ _
  | tup h hs=>cases (show u'=Value.ref _ from r2);obtain ⟨its,rv,p,hz⟩:=I.tuple h;exact SeqAt.RcNeAt.bool_tuple _ (show s.heap.IsTuple _ its.toArray from p) hu
  | lst h hs=>cases (show u'=Value.ref _ from r2);obtain ⟨its,rv,p,hz⟩:=I.list h;exact SeqAt.RcNeAt.bool_list _ p.isList hu
 | int i=>
  obtain ⟨t,rfl⟩:=r1
  cases h2 with
  | non=>cases (show u'=Value.none from r2);exact SeqAt.RcNeAt.int_none _ _
  | bl b=>cases (show u'=Value.bool _ from r2);exact SeqAt.RcNeAt.int_bool _ _ _
  | int i=>obtain ⟨t,rfl⟩:=r2;exact SeqAt.RcNeAt.int_int _ _ _ _
  | str x=>obtain ⟨t,rfl⟩:=r2;exact SeqAt.RcNeAt.int_str _ _ _ _
  | tup h hs=>cases (show u'=Value.ref _ from r2);obtain ⟨its,rv,p,hz⟩:=I.tuple h;exact SeqAt.RcNeAt.int_tuple _ _ (show s.heap.IsTuple _ its.toArray from p) hu
  | lst h hs=>cases (show u'=Value.ref _ from r2);obtain ⟨its,rv,p,hz⟩:=I.list h;exact SeqAt.RcNeAt.int_list _ _ p.isList hu
 | str x=>
  obtain ⟨t,rfl⟩:=r1
  cases h2 with
  | non=>cases (show u'=Value.none from r2);exact SeqAt.RcNeAt.str_none _ _
  | bl b=>cases (show u'=Value.bool _ from r2);exact SeqAt.RcNeAt.str_bool _ _ _
  | int i=>obtain ⟨t,rfl⟩:=r2;exact SeqAt.RcNeAt.str_int _ _ _ _
  | str x=>obtain ⟨t,rfl⟩:=r2;exact SeqAt.RcNeAt.str_str _ _ _ _
  | tup h hs=>cases (show u'=Value.ref _ from r2);obtain ⟨its,rv,p,hz⟩:=I.tuple h;exact SeqAt.RcNeAt.str_tuple _ _ (show s.heap.IsTuple _ its.toArray from p) hu
  | lst h hs=>cases (show u'=Value.ref _ from r2);obtain ⟨its,rv,p,hz⟩:=I.list h;exact SeqAt.RcNeAt.str_list _ _ p.isList hu
 | @tup a xs ds h hs=>
  cases (show u=Value.ref a from r1)
  obtain ⟨its,rv,p,hz⟩:=I.tuple h
  cases h2 with
  | non=>cases (show u'=Value.none from r2);exact SeqAt.RcNeAt.tuple_none (show s.heap.IsTuple _ its.toArray from p) hu
  | bl b=>cases (show u'=Value.bool _ from r2);exact SeqAt.RcNeAt.tuple_bool _ (show s.heap.IsTuple _ its.toArray from p) hu
  | int i=>obtain ⟨t,rfl⟩:=r2;exact SeqAt.RcNeAt.tuple_int _ _ (show s.heap.IsTuple _ its.toArray from p) hu
  | str x=>obtain ⟨t,rfl⟩:=r2;exact SeqAt.RcNeAt.tuple_str _ _ (show s.heap.IsTuple _ its.toArray from p) hu
  | @tup a' xs' ds' h' hs'=>
   cases (show u'=Value.ref a' from r2)
   ·obtain ⟨its',rv',p',hz'⟩:=I.tuple h'
    have l1:its.toArray.size=ds.length:=by rw [List.size_toArray,<-rv.length,hs.length]
    have l2:its'.toArray.size=ds'.length:=by rw [List.size_toArray,<-rv'.length,hs'.length]
    have key:=SeqAt.RcNeAt.tuples (A:=A) (s:=s) (show s.heap.IsTuple a its.toArray from p) (show s.heap.IsTuple a' its'.toArray from p') hu
     (gN (A:=A.in1) (s:=s) hs hs' rv rv' fun d d' v v' u u' hm iv iv' r r'=>rc ds (.inl rfl) d d' v v' u u' hm iv iv' r r')
    rw [l1,l2,<-gP] at key
    exact key
  | @lst a' xs' ds' h' hs'=>
   cases (show u'=Value.ref a' from r2)
   obtain ⟨its',rv',p',hz'⟩:=I.list h'
   exact SeqAt.RcNeAt.tuple_list (show s.heap.IsTuple _ its.toArray from p) p'.isList hu
 | @lst a xs ds h hs=>
  cases (show u=Value.ref a from r1)
  obtain ⟨its,rv,p,hz⟩:=I.list h
  cases h2 with
  | non=>cases (show u'=Value.none from r2);exact SeqAt.RcNeAt.list_none p.isList hu
  | bl b=>cases (show u'=Value.bool _ from r2);exact SeqAt.RcNeAt.list_bool _ p.isList hu
  | int i=>obtain ⟨t,rfl⟩:=r2;exact SeqAt.RcNeAt.list_int _ _ p.isList hu
  | str x=>obtain ⟨t,rfl⟩:=r2;exact SeqAt.RcNeAt.list_str _ _ p.isList hu
  | @tup a' xs' ds' h' hs'=>
   cases (show u'=Value.ref a' from r2)
   obtain ⟨its',rv',p',hz'⟩:=I.tuple h'
   exact SeqAt.RcNeAt.list_tuple p.isList (show s.heap.IsTuple _ its'.toArray from p') hu
  | @lst a' xs' ds' h' hs'=>
   cases (show u'=Value.ref a' from r2)
   ·obtain ⟨its',rv',p',hz'⟩:=I.list h'
    have l1:its.toArray.size=ds.length:=by rw [List.size_toArray,<-rv.length,hs.length]
    have l2:its'.toArray.size=ds'.length:=by rw [List.size_toArray,<-rv'.length,hs'.length]
    by_cases hl:ds.length=ds'.length
    ·have key:=SeqAt.RcNeAt.lists (A:=A) (s:=s) p.isList p'.isList (by rw [l1,l2,hl]) hu
      (gN (A:=A.in1) (s:=s) hs hs' rv rv' fun d d' v v' u u' hm iv iv' r r'=>rc ds (.inr rfl) d d' v v' u u' hm iv iv' r r')
     rw [l1,dY hl] at key
     exact key
    ·have key:=SeqAt.RcNeAt.lists_lengths (A:=A) (s:=s) p.isList p'.isList (by rw [l1,l2];simp [hl]) hu
     rw [eqD,qN hl]
     exact key
theorem eqA {X:Cx} (hu:X.A.units+64 < cLine):OpR X (compareOp .Eq) (fun x y H Q=>∃ d d',IsD X.K H x d/\IsD X.K H y d'/\dep d<=50/\Q (.bl (eqD d d')) H):=by
 intro pins s σ H x y v u Q I rx ry h
 obtain ⟨d,d',h1,h2,hn,q⟩:=h
 refine zS I h1 h2 rx ry (by omega) (fun ds hd e e' w w' z z' hm i1 i2 q1 q2=>?_) X.prog X.w X.xe _ ⟨.bl _,H,I,rfl,q⟩
 refine zBF I 50 ?_ i1 i2 X.A.in1 z z' (by show X.A.units+1+50 < cLine;omega) q1 q2
 have:=jL hm
 rcases hd with rfl | rfl<;>(rw [dep] at hn;omega)
theorem neA {X:Cx} (hu:X.A.units+64 < cLine):OpR X (compareOp .NotEq) (fun x y H Q=>∃ d d',IsD X.K H x d/\IsD X.K H y d'/\dep d<=50/\Q (.bl (!eqD d d')) H):=by
 intro pins s σ H x y v u Q I rx ry h
 obtain ⟨d,d',h1,h2,hn,q⟩:=h
 refine zBk I h1 h2 rx ry (by omega) (fun ds hd e e' w w' z z' hm i1 i2 q1 q2=>?_) X.prog X.w X.xe _ ⟨.bl _,H,I,rfl,q⟩
 refine zBF I 50 ?_ i1 i2 X.A.in1 z z' (by show X.A.units+1+50 < cLine;omega) q1 q2
 have:=jL hm
 rcases hd with rfl | rfl<;>(rw [dep] at hn;omega)
theorem zCI {X:Cx}:OpK X (fun x y H Q=>∃ d d',IsD X.K H x d/\IsD X.K H y d'/\dep d<=50/\Q (.bl (eqD d d')) H) oEq:=⟨fun a b c z=>(by
  unfold oEq at z;split at z<;>cases z),fun Hi H x y a b d Q s r1 r2 z q=>by
  unfold oEq at z
  split at z
  ·rename_i h;cases z;exact ⟨a,b,r1.mono s,r2.mono s,h,q _ Hi H (Ext.refl s) (.bl _)⟩
  ·cases z⟩
theorem zHe {X:Cx}:OpK X (fun x y H Q=>∃ d d',IsD X.K H x d/\IsD X.K H y d'/\dep d<=50/\Q (.bl (!eqD d d')) H) oNe:=⟨fun a b c z=>(by
  unfold oNe at z;split at z<;>cases z),fun Hi H x y a b d Q s r1 r2 z q=>by
  unfold oNe at z
  split at z
  ·rename_i h;cases z;exact ⟨a,b,r1.mono s,r2.mono s,h,q _ Hi H (Ext.refl s) (.bl _)⟩
  ·cases z⟩
open Classical in
def zDw (K:PySem.W.Frag) (H:Hp) (dx:D) (u:Value):Bool:=if ∃ w d,IsD K H w d/\bU w u/\eqD d dx=true then true else false
theorem zJ (I:Inv X pins σ H s) {dx d:D} {w:V} {u:Value} (h:IsD X.K H w d) (r:bU w u):zDw X.K H dx u=eqD d dx:=by
 unfold zDw
 by_cases e:eqD d dx=true
 ·rw [if_pos ⟨w,d,h,r,e⟩,e]
 ·rw [if_neg]
  ·simpa using e
  ·rintro ⟨w',d',h',r',e'⟩
   have:=r.inj r'
   subst this
   have:=IsD.inj I h h'
   subst this
   exact e e'
theorem nF (I:Inv X pins σ H s) {dx:D}:∀ {xs:List V} {ds:List D} {us:List Value},IsDs X.K H xs ds->cG xs us->us.any (zDw X.K H dx)=ds.any fun d=>eqD d dx
 | _,_,_,.nil,.nil=>rfl
 | _,_,_,.cons h hs,.cons r t=>by rw [List.any_cons,List.any_cons,zJ I h r,nF I hs t]
theorem mC (I:Inv X pins σ H s) {A:Around} {dx:D} {x:V} {ux:Value} (hx:IsD X.K H x dx) (rx:bU x ux) (hu:A.units+50 < cLine):∀ {xs:List V} {ds:List D} {us:List Value},IsDs X.K H xs ds->cG xs us->(∀ d∈ds,dep d<=50)->∀ u∈us,SeqAt.EqAt A s u ux (zDw X.K H dx u)
 | _,_,_,.nil,.nil,_=>fun u hu=>by cases hu
 | _,_,_,.cons h hs,.cons r t,f=>fun u hm=>by
  rcases List.mem_cons.mp hm with rfl | hm
  ·rw [zJ I h r];exact zBF I 50 (f _ List.mem_cons_self) h hx A _ ux hu r rx
  ·exact mC I hx rx hu hs t (fun d hd=>f d (List.mem_cons_of_mem _ hd)) u hm
def zId (K:PySem.W.Frag) (neg:Bool):R2:=fun x y H Q=>∃ d ds,IsD K H x d/\(IsD K H y (.lst ds)∨IsD K H y (.tup ds))/\depS ds<=50/\Q (.bl (if neg=true then !(ds.any fun e=>eqD e d) else ds.any fun e=>eqD e d)) H
theorem inA {X:Cx} (hu:X.A.units+64 < cLine):OpR X (compareOp .In) (zId X.K false):=by
 intro pins s σ H x y v u Q I rx ry h
 obtain ⟨d,ds,h1,h2,hn,q⟩:=h
 have hd:∀ e∈ds,dep e<=50:=fun e he=>Nat.le_trans (jL he) hn
 rcases h2 with h2 | h2
 ·obtain ⟨a,xs,rfl,hl,hs⟩:=h2.lstI
  cases ry
  obtain ⟨its,rv,p,hz⟩:=I.list hl
  refine SeqAt.in_listAt (zDw X.K H d) p.isList (fun y hy=>mC I h1 rx (by show X.A.units+1+50 < cLine;omega) hs rv hd y (by simpa using hy)) ?_
  exact ⟨.bl _,H,I,by rw [List.any_toArray,nF I hs rv];rfl,q⟩
 ·obtain ⟨a,xs,rfl,hl,hs⟩:=h2.tupI
  cases ry
  obtain ⟨its,rv,p,hz⟩:=I.tuple hl
  refine SeqAt.in_tupleAt (zDw X.K H d) (show s.heap.IsTuple _ its.toArray from p) (fun y hy=>mC I h1 rx (by show X.A.units+1+50 < cLine;omega) hs rv hd y (by simpa using hy)) ?_
  exact ⟨.bl _,H,I,by rw [List.any_toArray,nF I hs rv];rfl,q⟩
theorem zGw {X:Cx} (hu:X.A.units+64 < cLine):OpR X (compareOp .NotIn) (zId X.K true):=by
 intro pins s σ H x y v u Q I rx ry h
 obtain ⟨d,ds,h1,h2,hn,q⟩:=h
 have hd:∀ e∈ds,dep e<=50:=fun e he=>Nat.le_trans (jL he) hn
 rcases h2 with h2 | h2
 ·obtain ⟨a,xs,rfl,hl,hs⟩:=h2.lstI
  cases ry
  obtain ⟨its,rv,p,hz⟩:=I.list hl
  refine SeqAt.notIn_listAt (zDw X.K H d) p.isList (fun y hy=>mC I h1 rx (by show X.A.units+1+50 < cLine;omega) hs rv hd y (by simpa using hy)) ?_
  exact ⟨.bl _,H,I,by rw [List.any_toArray,nF I hs rv];rfl,q⟩
 ·obtain ⟨a,xs,rfl,hl,hs⟩:=h2.tupI
  cases ry
  obtain ⟨its,rv,p,hz⟩:=I.tuple hl
  refine SeqAt.notIn_tupleAt (zDw X.K H d) (show s.heap.IsTuple _ its.toArray from p) (fun y hy=>mC I h1 rx (by show X.A.units+1+50 < cLine;omega) hs rv hd y (by simpa using hy)) ?_
  exact ⟨.bl _,H,I,by rw [List.any_toArray,nF I hs rv];rfl,q⟩
theorem zIu {X:Cx}:OpK X (zId X.K false) oIn:=⟨fun a b c z=>(by
  cases b<;>first | cases z | (simp only [oIn] at z;split at z<;>cases z)),fun Hi H x y a b d Q s r1 r2 z q=>by
  cases b<;>first | cases z | skip
  ·rename_i ds
   simp only [oIn] at z
   split at z
   ·rename_i h;cases z;exact ⟨a,ds,r1.mono s,.inr (r2.mono s),h,q _ Hi H (Ext.refl s) (.bl _)⟩
   ·cases z
  ·rename_i ds
   simp only [oIn] at z
   split at z
   ·rename_i h;cases z;exact ⟨a,ds,r1.mono s,.inl (r2.mono s),h,q _ Hi H (Ext.refl s) (.bl _)⟩
   ·cases z⟩
theorem zEe {X:Cx}:OpK X (zId X.K true) oO:=⟨fun a b c z=>(by
  cases b<;>first | cases z | (simp only [oO] at z;split at z<;>cases z)),fun Hi H x y a b d Q s r1 r2 z q=>by
  cases b<;>first | cases z | skip
  ·rename_i ds
   simp only [oO] at z
   split at z
   ·rename_i h;cases z;exact ⟨a,ds,r1.mono s,.inr (r2.mono s),h,q _ Hi H (Ext.refl s) (.bl _)⟩
   ·cases z
  ·rename_i ds
   simp only [oO] at z
   split at z
   ·rename_i h;cases z;exact ⟨a,ds,r1.mono s,.inl (r2.mono s),h,q _ Hi H (Ext.refl s) (.bl _)⟩
   ·cases z⟩
end
end L3
namespace L3
open PySem PySem.Spec PyProof.Rows L2
unseal PEd PEf PTd PWd PAd PSd bZ
section
variable {X:Cx} {G:Gx} {a b e:Expr} {es:List Expr} {pos p:Pos} {f g:Ev} {fs gs:Fv} {t u:Tv} {x:Str} {id T:String}
def pY (X:Cx) (r:List V->Hp->VK->Prop) (o:List D->Res D):Prop:=(∀ a c,o a≠.err c)/\∀ (Hi H:Hp) (vs:List V) (ds:List D) (d:D) (Q:VK),Same Hi H->IsDs X.K Hi vs ds->o ds=.ok d->
 (∀ v Hi' H',Ext Hi H Hi' H'->IsD X.K Hi' v d->Q v H')->r vs H Q
theorem zGN {r:List V->Hp->VK->Prop} {o:List D->Res D} (k:pY X r o):∀ σ H Q,tD X G (eB o fs) σ H Q->tCB r (tAs X G fs) σ H Q:=fun σ H Q q=>by
 obtain ⟨ρ,Hi,R,ou⟩:=q
 refine zDP R ou fun vs ds Hi1 H1 e1 R1 r1 o1=>?_
 cases z:o ds with
 | no=>rw [z] at o1;exact o1.elim
 | err c=>exact absurd z (k.1 ds c)
 | ok d=>rw [z] at o1;exact k.2 Hi1 H1 vs ds d Q R1.s r1 z fun v Hi2 H2 e2 r2=>o1 Hi2 H2 e2 v r2
theorem aV {r:List V->Hp->VK->Prop} {o:List D->Res D} (hc:jR X (.builtin id) r) (k:pY X r o) (hg:Gl X x) (hm:X.mg x=none) (hv:bootBuiltins x=some (.builtin id)) (ha:PAd X G (e::es) fs) (hn:x ≠ "__name__" := by decide) (hdb:(x==("__debug__" : Str))=false:=by decide)
  (he:starEach (e::es) X.env=(false,eval e X.env)::starEach es X.env:=by rfl) (hpl:(backTo pos (starEach es X.env)).any (·.1)=false:=by rfl):PEd X G (.Call (.Name x p) (e::es) [] pos) (eB o fs):=
 PE.wk (lB hc hg hm hv ha hn hdb he hpl) (zGN k)
theorem lY {r:List V->Hp->VK->Prop} {o:List D->Res D} (hc:jR X (.type T) r) (k:pY X r o) (hg:Gl X x) (hm:X.mg x=none) (hv:bootBuiltins x=some (.type T)) (ha:PAd X G (e::es) fs) (hn:x ≠ "__name__" := by decide) (hdb:(x==("__debug__" : Str))=false:=by decide)
  (he:starEach (e::es) X.env=(false,eval e X.env)::starEach es X.env:=by rfl) (hpl:(backTo pos (starEach es X.env)).any (·.1)=false:=by rfl):PEd X G (.Call (.Name x p) (e::es) [] pos) (eB o fs):=
 PE.wk (tK hc hg hm hv ha hn hdb he hpl) (zGN k)
theorem IsDs.one {K:PySem.W.Frag} {H:Hp} {vs:List V} {d:D} (h:IsDs K H vs [d]):∃ v,vs=[v]/\IsD K H v d:=by
 cases h with
 | cons h t=>cases t;exact ⟨_,rfl,h⟩
theorem IsDs.two {K:PySem.W.Frag} {H:Hp} {vs:List V} {d d':D} (h:IsDs K H vs [d,d']):∃ v w,vs=[v,w]/\IsD K H v d/\IsD K H w d':=by
 cases h with
 | cons h t=>obtain ⟨w,rfl,hw⟩:=t.one;exact ⟨_,w,rfl,h,hw⟩
theorem cU:pY X (fun xs H Q=>∃ p ys,xs=[.ref p]/\(SqL X.K H p ys∨SqT X.K H p ys)/\Q (.int ys.length) H) iD:=⟨fun a c z=>(by
  unfold iD at z;split at z<;>cases z),fun Hi H vs ds d Q s r z q=>by
  unfold iD at z
  split at z
  ·cases z
   obtain ⟨v,rfl,h⟩:=r.one
   obtain ⟨a,xs,rfl,h1,h2⟩:=h.lstI
   refine ⟨a,xs,rfl,.inl (bD s h1),?_⟩
   rw [h2.length]
   exact q _ Hi H (Ext.refl s) (.int _)
  ·cases z
   obtain ⟨v,rfl,h⟩:=r.one
   obtain ⟨a,xs,rfl,h1,h2⟩:=h.tupI
   refine ⟨a,xs,rfl,.inr (aZ s h1),?_⟩
   rw [h2.length]
   exact q _ Hi H (Ext.refl s) (.int _)
  ·cases z⟩
theorem zGo:pY X (fun xs H Q=>∃ i j,xs=[.int i,.int j]/\Q (.int (if j < i then j else i)) H) zGx:=⟨fun a c z=>(by
  unfold zGx at z;split at z<;>cases z),fun Hi H vs ds d Q s r z q=>by
  unfold zGx at z
  split at z
  ·cases z
   obtain ⟨v,w,rfl,h,h'⟩:=r.two
   exact ⟨_,_,by rw [h.intI,h'.intI],q _ Hi H (Ext.refl s) (.int _)⟩
  ·cases z⟩
theorem zF:pY X (fun xs H Q=>∃ p ys,xs=[.ref p]/\((SqL X.K H p ys/\∀ l,H l=none->Q (.ref l) (upd H l (.tup ys)))∨(SqT X.K H p ys/\Q (.ref p) H))) zCe:=⟨fun a c z=>(by
  unfold zCe at z;split at z<;>cases z),fun Hi H vs ds d Q s r z q=>by
  unfold zCe at z
  split at z
  ·cases z
   obtain ⟨v,rfl,h⟩:=r.one
   obtain ⟨a,xs,rfl,h1,h2⟩:=h.lstI
   exact ⟨a,xs,rfl,.inl ⟨bD s h1,fun l hl=>q _ _ _ (Ext.new s hl) (.tup (SqT.of aI) (h2.mono (bA (s.none hl) _)))⟩⟩
  ·cases z
   obtain ⟨v,rfl,h⟩:=r.one
   obtain ⟨a,xs,rfl,h1,h2⟩:=h.tupI
   exact ⟨a,xs,rfl,.inr ⟨aZ s h1,q _ Hi H (Ext.refl s) (.tup h1 h2)⟩⟩
  ·cases z⟩
theorem nD (hg:Gl X "list") (hm:X.mg "list" = none) (hv:bootBuiltins "list" = some (.type "list")) (ha:PAd X G (e::es) fs)
  (he:starEach (e::es) X.env=(false,eval e X.env)::starEach es X.env:=by rfl) (hpl:(backTo pos (starEach es X.env)).any (·.1)=false:=by rfl):PEf X G (.Call (.Name "list" p) (e::es) [] pos) (qO fs):=
 PE.wk (tK tH hg hm hv ha (by decide) (by decide) he hpl) fun σ H Q q=>by
 obtain ⟨ρ,Hi,R,ou⟩:=q
 refine zDP R ou fun vs ds Hi1 H1 e1 R1 r1 o1=>?_
 split at o1
 ·obtain ⟨v,rfl,h⟩:=r1.one
  obtain ⟨a,xs,rfl,h1,h2⟩:=h.lstI
  exact ⟨a,xs,rfl,.inl (bD R1.s h1),fun l hl=>o1 _ _ (Ext.newF R1.s hl) l ⟨e1.h.none hl,R1.s.none hl,xs,aI,h2⟩⟩
 ·obtain ⟨v,rfl,h⟩:=r1.one
  obtain ⟨a,xs,rfl,h1,h2⟩:=h.tupI
  exact ⟨a,xs,rfl,.inr (aZ R1.s h1),fun l hl=>o1 _ _ (Ext.newF R1.s hl) l ⟨e1.h.none hl,R1.s.none hl,xs,aI,h2⟩⟩
 ·exact o1.elim
structure Kit (K:PySem.W.Frag) (T:String):Prop where
 non:PySem.W.kitOne K (.type "NoneType") (.type T)=some (isT T .non)
 bl:PySem.W.kitOne K (.type "bool") (.type T)=some (isT T (.bl true))
 int:PySem.W.kitOne K (.type "int") (.type T)=some (isT T (.int 0))
 str:PySem.W.kitOne K (.type "str") (.type T)=some (isT T (.str ⟨#[]⟩))
 tup:PySem.W.kitOne K (.type "tuple") (.type T)=some (isT T (.tup []))
 lst:PySem.W.kitOne K (.type "list") (.type T)=some (isT T (.lst []))
theorem zHG (k:Kit X.K T):jR X (.builtin "isinstance") (fun xs H Q=>∃ y d,xs=[y,.ty T]/\IsD X.K H y d/\Q (.bl (isT T d)) H):=by
 intro pins s σ H xs us Q I r h
 obtain ⟨y,d,rfl,hd,q⟩:=h
 obtain ⟨u,w',rfl,rx,rc⟩:=zDY r
 cases rc
 have fin:∀ tk,EP X pins σ Q (.bool (isT T d)) { s with toks:=tk }:=fun tk=>⟨.bl _,H,I.tok _,rfl,q⟩
 cases hd with
 | non=>cases (show u=Value.none from rx);exact PySem.W.kia_one PySem.W.kitx_none I.kIn True.intro k.non (fun z=>nomatch z) fin
 | bl y=>cases (show u=Value.bool y from rx);exact PySem.W.kia_one PySem.W.kitx_bool I.kIn True.intro k.bl (fun z=>nomatch z) fin
 | int i=>obtain ⟨t,q⟩:=(show ∃ t,u=Value.int i t from rx);cases q;exact PySem.W.kia_one PySem.W.kitx_int I.kIn True.intro k.int (fun z=>nomatch z) fin
 | str y=>obtain ⟨t,q⟩:=(show ∃ t,u=Value.str y t from rx);cases q;exact PySem.W.kia_one PySem.W.kitx_str I.kIn True.intro k.str (fun z=>nomatch z) fin
 | @tup a xs ds h hs=>
  cases (show u=Value.ref a from rx)
  obtain ⟨its,rv,⟨o,h1,h2,_⟩,hz⟩:=I.tuple h
  exact PySem.W.kia_one PySem.W.kitx_tuple I.kIn ⟨o,h1,h2⟩ k.tup (fun z=>nomatch z) fin
 | @lst a xs ds h hs=>
  cases (show u=Value.ref a from rx)
  obtain ⟨its,rv,⟨o,n,h1,h2,_⟩,hz⟩:=I.list h
  exact PySem.W.kia_one PySem.W.kitx_list I.kIn ⟨o,h1,h2⟩ k.lst (fun z=>nomatch z) fin
theorem iU {c:Expr} (k:Kit X.K T) (hg:Gl X "isinstance") (hm:X.mg "isinstance" = none) (ha:PEd X G a f) (hc:PE X c (tC (.ty T)))
  (h1:starEach [a,c] X.env=(false,eval a X.env)::starEach [c] X.env:=by rfl) (h2:starEach [c] X.env=(false,eval c X.env)::starEach [] X.env:=by rfl) (hpl:(backTo pos (starEach [c] X.env)).any (·.1)=false:=by rfl):
  PEd X G (.Call (.Name "isinstance" p) [a,c] [] pos) (zBO T f):=
 PE.wk (lB (zHG k) hg hm boot_isinstance (cZ ha (cZ hc gB h2) h1) (by decide) (by decide) h1 hpl) fun σ H Q q=>by
 obtain ⟨ρ,Hi,R,ou⟩:=q
 refine nJ R ou fun v d Hi1 H1 e1 R1 r1 o1=>?_
 exact ⟨v,d,rfl,r1.mono R1.s,o1.here R1.s _ (.bl _)⟩
theorem zBE {K:PySem.W.Frag} {H:Hp} {v:V} {d:D} (h:IsD K H v d):decide (v=.non)=isNon d:=by
 cases h<;>simp [isNon]
theorem zHn {c:Expr} (ha:PEd X G a f) (hc:PE X c (tC .non)) (hm:behindInMarks .Is c=false):PEd X G (.Compare a [.Is] [c] pos) (zFP f):=PE.wk (zAH zDV ha hc hm) fun σ H Q q=>by
 obtain ⟨ρ,Hi,R,ou⟩:=q
 refine nJ R ou fun v d Hi1 H1 e1 R1 r1 o1=>?_
 refine ⟨rfl,?_⟩
 rw [zBE r1]
 exact o1.here R1.s _ (.bl _)
variable {lo hi:Option Expr} {l h:Ov} {p2:Pos}
def tOv (X:Cx) (G:Gx) (f:Ov):TO:=fun σ H Q=>∃ ρ Hi,fG X G Hi H σ ρ/\Out G Hi H (f ρ) fun o _ H'=>Q o H'
@[irreducible] def POd (X:Cx) (G:Gx) (e:Option Expr) (f:Ov):Prop:=PO X e (tOv X G f)
unseal POd
theorem PO.wk {X:Cx} {e:Option Expr} {t t':TO} (h:PO X e t) (w:∀ σ H Q,t' σ H Q->t σ H Q):PO X e t':=fun pins s σ H Q I q=>h pins s σ H Q I (w σ H Q q)
theorem kE:POd X G none oN:=PO.wk zFw fun σ H Q q=>by
 obtain ⟨ρ,Hi,R,ou⟩:=q
 exact ou.here R.s
theorem gC (he:PEd X G e f):POd X G (some e) (oS f):=PO.wk (zEW he) fun σ H Q q=>by
 obtain ⟨ρ,Hi,R,ou⟩:=q
 refine nJ R ou fun v d Hi1 H1 e1 R1 r1 o1=>?_
 cases d with
 | int i=>exact ⟨i,r1.intI,o1.here R1.s⟩
 | _=>exact o1.elim
theorem zIq {f:Ov} {Hi H:Hp} {σ:St} {ρ:Rho} {β:Type} {k:Option Int->Res β} {k':β->Hp->Hp->Prop} {Q:Option Int->Hp->Prop} (R:fG X G Hi H σ ρ) (o:Out G Hi H ((f ρ).bind k) k')
  (w:∀ c Hi' H',Ext Hi H Hi' H'->fG X G Hi' H' σ ρ->Out G Hi' H' (k c) k'->Q c H'):tOv X G f σ H Q:=
 ⟨ρ,Hi,R,o.bind.imp fun d Hi' H' e q=>w d Hi' H' e (R.grow e) q⟩
theorem zBn (n d:Nat) (i:Option Int):cut n i d=HT.sIx n d i:=by
 cases i with
 | none=>rfl
 | some i=>
  simp only [cut,HT.sIx]
  split<;>split<;>omega
theorem IsDs.cut {K:PySem.W.Frag} {H:Hp} {xs:List V} {ds:List D} (h:IsDs K H xs ds) (l r:Option Int):IsDs K H (zBX xs l r) (bW ds l r):=by
 unfold zBX bW
 rw [zBn,zBn,h.length]
 exact (h.drop _).take _
theorem iW (he:PEd X G e f) (hl:POd X G lo l) (hu:POd X G hi h):PEf X G (.Subscript e (.Slice lo hi none p2) pos) (fSl f l h):=PE.wk (wQ zAQ he hl hu) fun σ H Q q=>by
 obtain ⟨ρ,Hi,R,ou⟩:=q
 refine nJ R ou fun v d Hi1 H1 e1 R1 r1 o1=>?_
 refine zIq R1 o1 fun i Hi2 H2 e2 R2 o2=>?_
 refine zIq R2 o2 fun j Hi3 H3 e3 R3 o3=>?_
 cases d with
 | lst ds=>
  obtain ⟨a,xs,rfl,h1,h2⟩:=r1.lstI
  refine ⟨a,xs,rfl,bD (e2.i.trans (e3.i.trans R3.s)) h1,fun p hp=>?_⟩
  exact o3 _ _ (Ext.newF R3.s hp) p ⟨(e1.h.trans (e2.h.trans e3.h)).none hp,R3.s.none hp,_,aI,(h2.cut i j).mono (e2.i.trans e3.i)⟩
 | _=>exact o3.elim
def zJi (K:PySem.W.Frag):R2:=fun x y H Q=>∃ l b xs zs,x=.ref l/\y=.ref b/\SqL K H l xs/\SqL K H b zs/\xs.length+zs.length<=sizeLine/\∀ p,H p=none->Q (.ref p) (upd H p (.lst (xs++zs)))
theorem zDW:OpR X (binaryOp .Add) (zJi X.K):=by
 intro pins s σ H x y v u Q I rx ry h
 obtain ⟨l,b,xs,zs,rfl,rfl,hl,hb,hz,q⟩:=h
 cases rx
 cases ry
 obtain ⟨its,r,p,_⟩:=I.list hl
 obtain ⟨its2,r2,p2,_⟩:=I.list hb
 obtain ⟨⟨cls,dd,data,sl⟩,ho,hc,n,hd⟩:=id p.isList
 obtain ⟨⟨cls2,dd2,data2,sl2⟩,ho2,hc2,n2,hd2⟩:=id p2.isList
 simp only at hc hd hc2 hd2
 subst hc hd hc2 hd2
 have hsz:its.toArray.size+its2.toArray.size<=sizeLine:=by rw [List.size_toArray,List.size_toArray,<-r.length,<-r2.length];exact hz
 have e:its.toArray++its2.toArray=(its++its2).toArray:=by simp
 refine concat_meets ⟨_,ho,rfl⟩ ⟨_,ho2,rfl⟩ noFill_list_add seq_list_add PySem.F.slot_list_add PySem.F.entry_list_add (PySem.F.args_list_add_2 _ _) (list_addW l b its.toArray its2.toArray n n2 dd dd2 sl sl2 hsz) ⟨ho,ho2,?_⟩
 rw [e]
 exact ⟨.ref _,_,I.lnew (t':=s.toks) (r.append r2) (by rw [List.length_append];exact hz),rfl,q _ I.fresh⟩
theorem rS (ha:PEd X G a f) (hb:PEd X G b g):PEf X G (.BinOp a .Add b pos) (zFo f g):=PE.wk (zAs zDW ha hb) fun σ H Q q=>by
 obtain ⟨ρ,Hi,R,ou⟩:=q
 refine nJ R ou fun v d Hi1 H1 e1 R1 r1 o1=>?_
 refine nJ R1 o1 fun w d' Hi2 H2 e2 R2 r2 o2=>?_
 cases d<;>first | exact o2.elim | skip
 cases d'<;>first | exact o2.elim | skip
 rename_i ds es
 obtain ⟨a,xs,rfl,h1,h2⟩:=r1.lstI
 obtain ⟨b,ys,rfl,h3,h4⟩:=r2.lstI
 have o2':Out G Hi2 H2 (if ds.length+es.length<=16777216 then Res.ok (ds++es) else .no) _:=o2
 by_cases hz:ds.length+es.length<=16777216
 ·rw [if_pos hz] at o2'
  refine ⟨a,b,xs,ys,rfl,rfl,bD (e2.i.trans e2.s) h1,bD e2.s h3,by rw [h2.length,h4.length];exact hz,fun p hp=>?_⟩
  exact o2' _ _ (Ext.newF e2.s hp) p ⟨(e1.h.trans e2.h).none hp,e2.s.none hp,_,aI,(h2.mono e2.i).append h4⟩
 ·rw [if_neg hz] at o2';exact o2'.elim
end
end L3
namespace L3
open PySem PySem.Spec PyProof.Rows L2
unseal PEd PEf PTd PWd PAd PSd bZ POd
section
variable {X:Cx} {G:Gx} {a b e:Expr} {es:List Expr} {pos p:Pos} {f g:Ev} {fs gs:Fv} {t u:Tv} {x:Str} {st:Stmt} {rest:List Stmt} {sa sb:Sv}
theorem lU {Hi H:Hp} {σ:St} {ρ:Rho} {E:Ends} {α:Type} {r:Res α} {k:α->Res Fl} (R:fG X G Hi H σ ρ) (h:Fin X G Hi E (r.bind k)) {Q:α->Hp->Hp->Prop}
  (w:∀ a Hi' H',r=.ok a->Ext Hi H Hi' H'->Fin X G Hi' E (k a)->Q a Hi' H'):Out G Hi H r Q:=by
 cases r with
 | no=>exact h
 | err c=>exact fun Hi' H' e=>h Hi' H' (R.ext.trans e)
 | ok a=>exact fun Hi' H' e=>w a Hi' H' rfl e (Fin.mono (show Fin X G Hi E (k a) from h) e.i)
theorem bX:bZ X G [] sNext:=PSs.wk yY fun E σ H q=>by
 obtain ⟨ρ,Hi,R,h⟩:=q
 exact h σ Hi H (Same.refl _) R
theorem zJe {E:Ends} {Hi:Hp} {ρ:Rho} (h:Fin X G Hi E (bT sa sb ρ)):Fin X G Hi { E with nx:=tS X G sb E } (sa ρ):=by
 unfold bT at h
 cases z:sa ρ with
 | no=>rw [z] at h;exact h
 | err c=>rw [z] at h;exact h
 | ok fl=>
  rw [z] at h
  cases fl with
  | nx ρ'=>exact fun σ' Hi' H' s R'=>⟨ρ',Hi',R',Fin.mono (show Fin X G Hi E (sb ρ') from h) s⟩
  | brk ρ'=>exact h
  | ctn ρ'=>exact h
  | ret r=>cases r<;>exact h
theorem zDU {E:Ends} {σ:St} {H:Hp} (q:tS X G (bT sa sb) E σ H):tS X G sa { E with nx:=tS X G sb E } σ H:=by
 obtain ⟨ρ,Hi,R,h⟩:=q
 exact ⟨ρ,Hi,R,zJe h⟩
theorem aF (h1:PSd X G st sa) (h2:bZ X G rest sb):bZ X G (st::rest) (bT sa sb):=PSs.wk (gT h1 h2) fun _ _ _ q=>zDU q
theorem aH (h1:PSd X G st sa):bZ X G [st] sa:=qY h1
theorem zBP (he:PEd X G e f) (hs:swapsWith e none pos.line X.env=pure false:=by rfl):PSd X G (.Expr e pos) (zAb f):=PS.wk (pJ he hs) fun E σ H q=>by
 obtain ⟨ρ,Hi,R,h⟩:=q
 exact ⟨ρ,Hi,R,lU R h fun d Hi' H' _ e h' v r=>h' σ Hi' H' (Same.refl _) (R.grow e)⟩
theorem cD (he:PEd X G e f):PSd X G (.Return (some e) pos) (fF f):=PS.wk (sW he) fun E σ H q=>by
 obtain ⟨ρ,Hi,R,h⟩:=q
 obtain ⟨Hf,s1,R1,fl⟩:=R.frz
 refine ⟨ρ.map Sl.frz,Hf,R1,lU R1 (Fin.mono h s1) fun d Hi' H' _ e h' v r=>?_⟩
 exact h' v Hi' H' (R1.ext.trans e) r
theorem wD (he:PEf X G e fs):PSd X G (.Return (some e) pos) (qR fs):=PS.wk (sW he) fun E σ H q=>by
 obtain ⟨ρ,Hi,R,h⟩:=q
 obtain ⟨Hf,s1,R1,fl⟩:=R.frz
 refine ⟨ρ.map Sl.frz,Hf,R1,lU R1 (Fin.mono h s1) fun ds Hi' H' _ e h' a n=>?_⟩
 obtain ⟨n1,n2,xs,n3,n4⟩:=n
 exact h' a Hi' H' (R1.ext.trans e) ⟨R1.ext.h.none n1,n2,xs,n3,n4⟩
theorem qK (i:Nat) (he:PE X e (rZ i)):PSd X G (.Return (some e) pos) (iF i):=PS.wk (sW he) fun E σ H q=>by
 obtain ⟨ρ,Hi,R,h⟩:=q
 unfold iF at h
 cases z:ρ[i]? with
 | none=>rw [z] at h;exact h.elim
 | some s=>
  rw [z] at h
  cases s with
  | own ds=>
   obtain ⟨a,xs,p,h1,h2,h3,h4⟩:=R.slot i _ z
   exact ⟨.ref a,p,h a Hi H R.ext ⟨h3,h2,xs,h1,h4⟩⟩
  | un=>exact h.elim
  | val d=>exact h.elim
  | exc c=>exact h.elim
  | tab T=>exact h.elim
  | ins c fs=>exact h.elim
theorem jK {c:Expr} {as bs:List Stmt} (hc:PTd X G c t) (ha:bZ X G as sa) (hb:bZ X G bs sb):PSd X G (.If c as bs pos) (sIf t sa sb):=PS.wk (zIX hc ha hb) fun E σ H q=>by
 obtain ⟨ρ,Hi,R,h⟩:=q
 refine ⟨ρ,Hi,R,lU R h fun c Hi' H' _ e h'=>?_⟩
 cases c with
 | true=>exact ⟨ρ,Hi',R.grow e,h'⟩
 | false=>exact ⟨ρ,Hi',R.grow e,h'⟩
theorem zIP {i:Nat} {pos':Pos} (hN:X.N.Nodup) (hi:X.N[i]?=some x) (hx:Loc X.env.scope x) (he:PEd X G e f) (hs:swapsWith e (some (.Name x pos')) pos.line X.env=pure false:=by rfl)
  (hf:X.fn x=true∨X.env.scope.names.lookup x=some .local:=by first | exact .inl rfl | exact .inr rfl | assumption):PSd X G (.Assign [.Name x pos'] e pos) (eJ i f):=PS.wk (zAk hN hi hx he hs hf) fun E σ H q=>by
 obtain ⟨ρ,Hi,R,h⟩:=q
 exact ⟨ρ,Hi,R,lU R h fun d Hi' H' _ e h' v r=>h' _ Hi' H' (Same.refl _) ((R.grow e).set r)⟩
theorem xQ {i:Nat} {pos':Pos} (hN:X.N.Nodup) (hi:X.N[i]?=some x) (hx:Loc X.env.scope x) (he:PEf X G e fs) (hs:swapsWith e (some (.Name x pos')) pos.line X.env=pure false:=by rfl)
  (hf:X.fn x=true∨X.env.scope.names.lookup x=some .local:=by first | exact .inl rfl | exact .inr rfl | assumption):PSd X G (.Assign [.Name x pos'] e pos) (zDG i fs):=PS.wk (zAk hN hi hx he hs hf) fun E σ H q=>by
 obtain ⟨ρ,Hi,R,h⟩:=q
 refine ⟨ρ,Hi,R,lU R h fun ds Hi' H' _ e h' a n=>?_⟩
 obtain ⟨n1,n2,xs,n3,n4⟩:=n
 exact h' _ Hi' H' (Same.refl _) (R.setOwn e n1 n3 n2 n4)
theorem zCQ {i:Nat} {o:Expr} {apos cpos:Pos} (ho:PE X o (rZ i)) (he:PEd X G e f)
  (hbase:attributeBase o "append" X.env (eval o X.env)=eval o X.env:=by rfl)
  (hfew:((backTo cpos (starEach [e] X.env)).all (fun x=>!x.1) && (backToKw cpos (keywordEach [] X.env)).all (fun x=>x.1.isSome)
   && decide ([e].length+([]:List Keyword).length+(if ([]:List Keyword).isEmpty then 0 else 1) < 30))=true:=by rfl)
  (hline:(apos.endLine==cpos.line)=true:=by rfl) (hs:starEach [e] X.env=(false,eval e X.env)::starEach [] X.env:=by rfl)
  (hsw:swapsWith (.Call (.Attribute o "append" apos) [e] [] cpos) none pos.line X.env=pure false:=by rfl):
  PSd X G (.Expr (.Call (.Attribute o "append" apos) [e] [] cpos) pos) (zDD i f):=
 PS.wk (pJ (zFL PySem.F.plainAttrs_list PySem.F.slot_list_append PySem.F.type_list_append lT ho (cZ he gB hs) hbase hfew hline hs) hsw) fun E σ H q=>by
 obtain ⟨ρ,Hi,R,h⟩:=q
 unfold zDD at h
 cases z:ρ[i]? with
 | none=>rw [z] at h;exact h.elim
 | some s=>
  rw [z] at h
  cases s with
  | own ds=>
   obtain ⟨a,xs,p,h1,h2,h3,h4⟩:=R.slot i _ z
   refine ⟨.ref a,p,.inl ⟨rfl,xs,SqL.of h1⟩,?_⟩
   refine ⟨ρ,Hi,R,lU R h fun d Hi' H' _ e h' v r=>?_⟩
   have R':=R.grow e
   obtain ⟨g1,g2⟩:=e.out h1 h2
   by_cases hz:ds.length < 16777216
   ·rw [if_pos hz] at h'
    refine ⟨a,xs,v,rfl,rfl,g1,by rw [h4.length];exact hz,?_⟩
    exact h' σ Hi' _ (Same.refl _) (R'.write z p ((h4.mono e.i).append (.cons r .nil)))
   ·rw [if_neg hz] at h';exact h'.elim
  | un=>exact h.elim
  | val d=>exact h.elim
  | exc c=>exact h.elim
  | tab T=>exact h.elim
  | ins c fs=>exact h.elim
theorem zIF {i:Nat} {o:Expr} {apos cpos:Pos} (ho:PE X o (rZ i)) (he:PEf X G e fs)
  (hbase:attributeBase o "extend" X.env (eval o X.env)=eval o X.env:=by rfl)
  (hfew:((backTo cpos (starEach [e] X.env)).all (fun x=>!x.1) && (backToKw cpos (keywordEach [] X.env)).all (fun x=>x.1.isSome)
   && decide ([e].length+([]:List Keyword).length+(if ([]:List Keyword).isEmpty then 0 else 1) < 30))=true:=by rfl)
  (hline:(apos.endLine==cpos.line)=true:=by rfl) (hs:starEach [e] X.env=(false,eval e X.env)::starEach [] X.env:=by rfl)
  (hsw:swapsWith (.Call (.Attribute o "extend" apos) [e] [] cpos) none pos.line X.env=pure false:=by rfl):
  PSd X G (.Expr (.Call (.Attribute o "extend" apos) [e] [] cpos) pos) (zHE i fs):=
 PS.wk (pJ (zFL PySem.F.plainAttrs_list PySem.F.slot_list_extend PySem.F.type_list_extend zAe ho (cZ he gB hs) hbase hfew hline hs) hsw) fun E σ H q=>by
 obtain ⟨ρ,Hi,R,h⟩:=q
 unfold zHE at h
 cases z:ρ[i]? with
 | none=>rw [z] at h;exact h.elim
 | some s=>
  rw [z] at h
  cases s with
  | own ds=>
   obtain ⟨a,xs,p,h1,h2,h3,h4⟩:=R.slot i _ z
   refine ⟨.ref a,p,.inl ⟨rfl,xs,SqL.of h1⟩,?_⟩
   refine ⟨ρ,Hi,R,lU R h fun es Hi' H' _ e h' b n=>?_⟩
   obtain ⟨n1,n2,ys,n3,n4⟩:=n
   have R':=R.grow e
   obtain ⟨g1,g2⟩:=e.out h1 h2
   by_cases hz:ds.length+es.length<=16777216
   ·rw [if_pos hz] at h'
    refine ⟨a,b,xs,ys,rfl,rfl,g1,n3,by rw [h4.length,n4.length];exact hz,?_⟩
    exact h' σ Hi' _ (Same.refl _) (R'.write z p ((h4.mono e.i).append n4))
   ·rw [if_neg hz] at h';exact h'.elim
  | un=>exact h.elim
  | val d=>exact h.elim
  | exc c=>exact h.elim
  | tab T=>exact h.elim
  | ins c fs=>exact h.elim
theorem bZ.frzAt (i:Nat) {sts:List Stmt} (h:bZ X G sts sa):bZ X G sts (sFrzAt i sa):=PSs.wk h fun E σ H q=>by
 obtain ⟨ρ,Hi,R,h⟩:=q
 obtain ⟨Hi',s,R'⟩:=R.frzAt (i:=i)
 exact ⟨_,Hi',R',Fin.mono h s⟩
def tGv (X:Cx) (G:Gx) (g:Gv):TG:=fun v σ H Q=>∃ d ρ Hi,IsD X.K Hi v d/\fG X G Hi H σ ρ/\∃ ρ',g d ρ=.ok ρ'/\∀ σ' Hi' H',Same Hi Hi'->fG X G Hi' H' σ' ρ'->Q σ' H'
@[irreducible] def PGd (X:Cx) (G:Gx) (e:Expr) (g:Gv):Prop:=PG X e (tGv X G g)
unseal PGd
theorem zHI {i:Nat} (hN:X.N.Nodup) (hi:X.N[i]?=some x) (hx:Loc X.env.scope x) (hf:X.fn x=true∨X.env.scope.names.lookup x=some .local:=by first | exact .inl rfl | exact .inr rfl | assumption):PGd X G (.Name x pos) (gName i):=
 fun pins s σ H v u Q I r q=>uJ hN hi hx hf pins s σ H v u Q I r (by
  obtain ⟨d,ρ,Hi,rd,R,ρ',e,k⟩:=q
  cases e
  exact k _ Hi H (Same.refl _) (R.set rd))
def zJO (X:Cx) (G:Gx) (g:List D->Rho->Res Rho):TGs:=fun vs σ H Q=>∃ ds ρ Hi,IsDs X.K Hi vs ds/\fG X G Hi H σ ρ/\∃ ρ',g ds ρ=.ok ρ'/\∀ σ' Hi' H',Same Hi Hi'->fG X G Hi' H' σ' ρ'->Q σ' H'
@[irreducible] def cX (X:Cx) (G:Gx) (es:List Expr) (g:List D->Rho->Res Rho):Prop:=PGs X es (zJO X G g)
unseal cX
theorem zIc:cX X G [] zBV:=fun pins s σ H vs us Q I r q=>zAo pins s σ H vs us Q I r (by
  obtain ⟨ds,ρ,Hi,rd,R,ρ',e,k⟩:=q
  cases ds with
  | nil=>cases rd;cases e;exact ⟨rfl,k _ Hi H (Same.refl _) R⟩
  | cons d ds=>cases e)
theorem zAg {g:Gv} {r:List D->Rho->Res Rho} (h1:PGd X G e g) (h2:cX X G es r) (hs:(assignEach (e::es) X.env).map (·.2)=assign e X.env::(assignEach es X.env).map (·.2):=by rfl):cX X G (e::es) (jA g r):=
 fun pins s σ H vs us Q I rr q=>qX h1 h2 hs pins s σ H vs us Q I rr (by
  obtain ⟨ds,ρ,Hi,rd,R,ρ',e,k⟩:=q
  cases ds with
  | nil=>cases e
  | cons d ds=>
   cases rd with
   | cons rd rds=>
    refine ⟨_,_,rfl,d,ρ,Hi,rd,R,?_⟩
    have e':(g d ρ).bind (fun ρ'=>r ds ρ')=.ok ρ':=e
    cases z:g d ρ with
    | no=>rw [z] at e';cases e'
    | err c=>rw [z] at e';cases e'
    | ok ρ1=>
     rw [z] at e'
     exact ⟨ρ1,rfl,fun σ1 Hi1 H1 s1 R1=>⟨ds,ρ1,Hi1,rds.mono s1,R1,ρ',e',fun σ2 Hi2 H2 s2 R2=>k σ2 Hi2 H2 (s1.trans s2) R2⟩⟩)
theorem zIG {k:Nat} {r:List D->Rho->Res Rho} {n:Nat} (hc:X.calm=true) (h:cX X G es r) (hr:∀ ds ρ ρ',r ds ρ=.ok ρ'->ds.length=n) (hn:(assignEach es X.env).length=n:=by rfl) (hst:(assignEach es X.env).findIdx? (·.1)=none:=by rfl):PGd X G (.Tuple es k pos) (zCb r):=
 fun pins s σ H v u Q I rr q=>zDy hc h hn hst pins s σ H v u Q I rr (by
  obtain ⟨d,ρ,Hi,rd,R,ρ',e,kk⟩:=q
  cases d with
  | tup ds=>
   obtain ⟨a,xs,rfl,h1,h2⟩:=rd.tupI
   exact ⟨a,xs,rfl,aZ R.s h1,by rw [h2.length];exact hr ds ρ ρ' e,ds,ρ,Hi,h2,R,ρ',e,kk⟩
  | _=>cases e)
def Gives (K:PySem.W.Frag) (Hi:Hp) (J:It) (ds:List D):Prop:=∀ (Hi1 H1:Hp),Same Hi Hi1->Same Hi1 H1->∀ i,
 (ds.length<=i->J.stop i H1)/\∀ d,ds[i]?=some d->J.go i H1/\∀ x H2,J.yld i H1 x H2->∃ Hi2,Ext Hi1 H1 Hi2 H2/\IsD K Hi2 x d
def tIv (X:Cx) (G:Gx) (f:Fv):TI:=fun σ H R=>∃ ρ Hi,fG X G Hi H σ ρ/\Out G Hi H (f ρ) fun ds Hi' H'=>∀ J,Gives X.K Hi' J ds->R J H'
@[irreducible] def PId (X:Cx) (G:Gx) (tg e:Expr) (f:Fv):Prop:=PI X tg e (tIv X G f)
unseal PId
theorem PI.wk {tg:Expr} {t t':TI} (h:PI X tg e t) (w:∀ σ H Q,t' σ H Q->t σ H Q):PI X tg e t':=fun pins s σ H Q I q=>h pins s σ H Q I (w σ H Q q)
theorem zIa {g:Gv} {J:It} {ds:List D} {Hi1 H1:Hp} {σ:St} {ρ:Rho} {E:Ends} (hge:∀ d ρ c,g d ρ≠.err c) (R1:fG X G Hi1 H1 σ ρ) (h1:Fin X G Hi1 E (loop g sa ds ρ)) (gv:Gives X.K Hi1 J ds):zJL (fun _ _ R=>R J H1) (tGv X G g) (tS X G sa) E σ H1:=by
 refine ⟨fun i m σ' H'=>m=ds.length - i/\∃ ρ' Hi',Same Hi1 Hi'/\fG X G Hi' H' σ' ρ'/\Fin X G Hi' E (loop g sa (ds.drop i) ρ'),⟨_,rfl,ρ,Hi1,Same.refl _,R1,h1⟩,?_⟩
 rintro i m σ' H' ⟨rfl,ρ',Hi',s',R',h'⟩
 obtain ⟨w1,w2⟩:=gv Hi' H' s' R'.s i
 by_cases hl:i < ds.length
 ·obtain ⟨d,hd⟩:∃ d,ds[i]?=some d:=⟨_,List.getElem?_eq_getElem hl⟩
  obtain ⟨go,yl⟩:=w2 d hd
  have e3:ds.drop i=d::ds.drop (i+1):=by
   rw [List.getElem?_eq_getElem hl] at hd
   cases hd
   exact List.drop_eq_getElem_cons hl
  rw [e3] at h'
  refine .inr ⟨go,fun σ2 H2=>∃ ρ2 Hi2,Same Hi1 Hi2/\fG X G Hi2 H2 σ2 ρ2/\Fin X G Hi2 E (loop g sa (ds.drop (i+1)) ρ2),fun σ2 H2 z=>⟨ds.length - (i+1),by omega,rfl,z⟩,fun x H2 y=>?_⟩
  obtain ⟨Hi2,e2,r2⟩:=yl x H2 y
  have R2:=R'.grow e2
  have h2:Fin X G Hi2 E ((g d ρ').bind fun ρ1=>(sa ρ1).bind fun f=>match f with
   | .nx ρ2=>loop g sa (ds.drop (i+1)) ρ2
   | .ctn ρ2=>loop g sa (ds.drop (i+1)) ρ2
   | .brk ρ2=>.ok (.nx ρ2)
   | .ret r=>.ok (.ret r)):=Fin.mono h' e2.i
  cases z:g d ρ' with
  | no=>rw [z] at h2;exact h2.elim
  | err c=>exact absurd z (hge _ _ _)
  | ok ρ1=>
   rw [z] at h2
   refine ⟨d,ρ',Hi2,r2,R2,ρ1,z,fun σ3 Hi3 H3 s3 R3=>⟨ρ1,Hi3,R3,?_⟩⟩
   have h3:=Fin.mono h2 s3
   have sm:Same Hi1 Hi3:=(s'.trans e2.i).trans s3
   simp only [Res.bind] at h3
   cases zb:sa ρ1 with
   | no=>rw [zb] at h3;exact h3.elim
   | err c=>rw [zb] at h3;exact h3
   | ok fl=>
    rw [zb] at h3
    cases fl with
    | nx ρ2=>exact fun σ4 Hi4 H4 s4 R4=>⟨ρ2,Hi4,sm.trans s4,R4,Fin.mono (show Fin X G Hi3 E (loop g sa (ds.drop (i+1)) ρ2) from h3) s4⟩
    | ctn ρ2=>exact fun σ4 Hi4 H4 s4 R4=>⟨ρ2,Hi4,sm.trans s4,R4,Fin.mono (show Fin X G Hi3 E (loop g sa (ds.drop (i+1)) ρ2) from h3) s4⟩
    | brk ρ2=>exact h3
    | ret r=>cases r<;>exact h3
 ·rw [List.drop_eq_nil_of_le (by omega)] at h'
  exact .inl ⟨w1 (by omega),h' σ' Hi' H' (Same.refl _) R'⟩
theorem jP {tg iter:Expr} {body:List Stmt} {it:Fv} {g:Gv} (hp:PassesOwn (model X.prog X.w) X.A X.env X.xe) (hc:X.calm=true) (hi:PId X G tg iter it) (hg:PGd X G tg g) (hge:∀ d ρ c,g d ρ≠.err c) (hb:bZ X G body sa)
  (hs:∀ x,foldedSetIterable iter X.env x=pure x:=by intro _;rfl):PSd X G (.For tg iter body [] pos) (uD it g sa):=PS.wk (zGZ hp hc hi hg hb hs) fun E σ H q=>by
 obtain ⟨ρ,Hi,R,h⟩:=q
 exact ⟨ρ,Hi,R,lU R h fun ds Hi1 H1 _ e1 h1 J gv=>zIa hge (R.grow e1) h1 gv⟩
theorem zAa {K:PySem.W.Frag} {Hi:Hp} {a:Addr} {xs:List V} {ds:List D} (h:SqT K Hi a xs) (hs:IsDs K Hi xs ds):Gives K Hi (Itt K a) ds:=fun Hi1 H1 s1 s2 i=>by
 have h1:=aZ (s1.trans s2) h
 refine ⟨fun hl=>⟨xs,h1,by rw [hs.length];exact hl⟩,fun d hd=>?_⟩
 obtain ⟨v,hv,r⟩:=hs.at hd
 refine ⟨⟨xs,v,h1,hv⟩,fun x H2 y=>?_⟩
 obtain ⟨e,y⟩:=y
 subst e
 have:=y xs h1
 rw [hv] at this
 cases this
 exact ⟨Hi1,Ext.refl s2,r.mono s1⟩
theorem zER {lo c:Int} {n i:Nat} {d:D} (h:(rng lo n c)[i]?=some d):i < n/\d=.int (lo+(i:Int) * c):=by
 unfold rng at h
 rw [List.getElem?_map] at h
 by_cases hl:i < n
 ·rw [List.getElem?_range hl] at h;cases h;exact ⟨hl,rfl⟩
 ·rw [List.getElem?_eq_none (by rw [List.length_range];omega)] at h;cases h
theorem zEf (lo c:Int) (n:Nat):(rng lo n c).length=n:=by unfold rng;rw [List.length_map,List.length_range]
theorem zAq {K:PySem.W.Frag} {Hi:Hp} (lo:Int) (n:Nat):Gives K Hi (Itr lo n) (rng lo n 1):=fun Hi1 H1 s1 s2 i=>by
 refine ⟨fun hl=>by rw [zEf] at hl;exact hl,fun d hd=>?_⟩
 obtain ⟨h1,rfl⟩:=zER hd
 refine ⟨h1,fun x H2 y=>?_⟩
 obtain ⟨e,y⟩:=y
 subst e y
 rw [Int.mul_one]
 exact ⟨Hi1,Ext.refl s2,.int _⟩
theorem wI {tg:Expr} (hg:Gl X "range") (hm:X.mg "range" = none) (ha:PAd X G [a] fs) (hs:starEach [a] X.env=[(false,eval a X.env)]:=by rfl):PId X G tg (.Call (.Name "range" p) [a] [] pos) (sY fs):=PI.wk (zBc hg hm ha hs) fun σ H Q q=>by
 obtain ⟨ρ,Hi,R,ou⟩:=q
 refine zDP R ou fun vs ds Hi1 H1 e1 R1 r1 o1=>?_
 split at o1
 ·rename_i j
  obtain ⟨v,rfl,h⟩:=r1.one
  by_cases hz:-(2^62)<=j/\j < 2^62
  ·rw [if_pos hz] at o1
   exact ⟨j,by rw [h.intI],hz.1,hz.2,o1.here R1.s _ (zAq 0 j.toNat)⟩
  ·rw [if_neg hz] at o1;exact o1.elim
 ·exact o1.elim
end
end L3
namespace L3
open PySem PySem.Spec PyProof.Rows L2
unseal PEd PEf PTd PWd PAd PSd bZ POd PGd cX PId
structure Fn (K:PySem.W.Frag) (mg:Str->Option Value) (x:Str) (st:Stmt) (ps:List Str) (f:Addr) (fd:FuncData):Prop where
 fn:Fun K x x st f fd
 bd:jS K fd ps []
 kp:PySem.W.keepIn K (.ref f)=true
 mg:mg x=some (.ref f)
def XE (X:Cx) (G:Gx):XK:=fun cls _ H=>∃ c,X.mg c=some cls/\G.E c H
def iO (K:PySem.W.Frag) (mg:Str->Option Value) (P:Addr):Prop:=∃ f oc od fd osl c,mg "ranked" = some (.ref f)/\K.lookup f=some ⟨oc,od,.func fd,osl⟩/\fd.code=.ref c/\∀ h,K.In h->PySem.W.CodeHd h c P
def TB (K:PySem.W.Frag) (mg:Str->Option Value) (Hi H:Hp):Prop:=∀ P,iO K mg P->nY P H/\Hi P=none
theorem TB.ext {K:PySem.W.Frag} {mg:Str->Option Value} {Hi H Hi' H':Hp} (t:TB K mg Hi H) (e:Ext Hi H Hi' H'):TB K mg Hi' H':=fun P h=>⟨e.h.t P (t P h).1,by
 cases z:Hi' P with
 | none=>rfl
 | some o=>
  obtain ⟨⟨ps,q,_⟩,n⟩:=t P h
  have:=e.n P n (by rw [z];exact fun w=>by cases w)
  rw [q] at this;cases this⟩
structure Good (X:Cx) (G:Gx) (k:Nat):Prop where
 calm:X.calm=true
 room:Room k X.A
 pass:rV (CX1 X.prog X.w) X (XE X G)
 own:PassesOwn (model X.prog X.w) X.A X.env X.xe
 tb:TB X.K X.mg G.Bi G.B
def tJ (X:Cx) (G:Gx):Prop:=∀ (pins:List (Addr×Obj)) (σ:St) (H:Hp) (s s':Shared) (ea:Addr) (cls:Value) (vs:List Value),Inv X pins σ H s->Heap.MadeExcOf s.heap s'.heap ea cls vs->s'.os=s.os->AllBare s'.gens->XE X G cls none H->X.xe (.ref ea) s'
def spM (K:PySem.W.Frag) (mg:Str->Option Value) (p:Nat) (m:Mir):Sp:=fun vs H Q E=>vs.length=p/\∃ Bi ds,TB K mg Bi H/\Same Bi H/\IsDs K Bi vs ds/\match m ds with
 | .ok (.v d)=>∀ v Hi' H',Ext Bi H Hi' H'->IsD K Hi' v d->Q v H'
 | .ok (.f es)=>∀ a Hi' H',Ext Bi H Hi' H'->zBZ K H Hi' H' a es->Q (.ref a) H'
 | .err c=>∀ C,mg c=some C->∀ Hi' H',Ext Bi H Hi' H'->E C none H'
 | .no=>False
structure CanM (P:Program) (w:World) (K:PySem.W.Frag) (mg:Str->Option Value) (base:Heap) (k:Nat) (x:Str) (ps:List Str) (m:Mir):Prop where
 ex:∃ f fd,FnOk P w K mg base (CX1 P w) k f fd ps (spM K mg ps.length m)/\jS K fd ps []/\PySem.W.keepIn K (.ref f)=true/\mg x=some (.ref f)
 ln:∀ ds,m ds≠.no->ds.length=ps.length
theorem Good.u {X:Cx} {G:Gx} {k:Nat} (W:Good X G k):X.A.units+64 < cLine:=W.room.units
theorem CanM.mono {P:Program} {w:World} {K:PySem.W.Frag} {mg:Str->Option Value} {base:Heap} {j k:Nat} {x:Str} {ps:List Str} {m:Mir} (c:CanM P w K mg base j x ps m) (h:j<=k):CanM P w K mg base k x ps m:=by
 obtain ⟨⟨f,fd,F,r⟩,l⟩:=c
 exact ⟨⟨f,fd,F.mono h,r⟩,l⟩
section
variable {X:Cx} {G:Gx} {a b e:Expr} {es:List Expr} {pos p:Pos} {f g:Ev} {fs gs:Fv} {t u:Tv} {x:Str} {st:Stmt} {rest:List Stmt} {sa sb:Sv} {k:Nat} {ps:List Str} {m:Mir}
theorem zHH {ps:List Str} (tb:TB X.K X.mg G.Bi G.B) (ln:∀ ds,m ds≠.no->ds.length=ps.length):∀ σ H Q,tD X G (bK m fs) σ H Q->zEE (spM X.K X.mg ps.length m) [] (XE X G) (tAs X G fs) σ H Q:=fun σ H Q q=>by
 obtain ⟨ρ,Hi,R,ou⟩:=q
 refine zDP R ou fun vs ds Hi1 H1 e1 R1 r1 o1=>?_
 rw [List.append_nil]
 have hm:m ds≠.no:=fun z=>by rw [z] at o1;exact o1
 refine ⟨by rw [r1.length];exact ln ds hm,Hi1,ds,tb.ext R1.ext,R1.s,r1,?_⟩
 cases z:m ds with
 | no=>exact absurd z hm
 | err c=>rw [z] at o1;exact fun C hC Hi2 H2 e2=>⟨c,hC,o1 Hi2 H2 e2⟩
 | ok r=>
  rw [z] at o1
  cases r with
  | v d=>exact fun v Hi2 H2 e2 r2=>o1 Hi2 H2 e2 v r2
  | f ds=>
   intro a Hi2 H2 e2 n
   obtain ⟨n1,n2,xs,n3,n4⟩:=n
   exact o1 _ _ (e2.hold n1 n3 n2) (.ref a) (.lst (SqL.of aI) (n4.mono (bA n2 _)))
theorem aQ (W:Good X G k) (c:CanM X.prog X.w X.K X.mg X.base k x ps m) (hg:Gl X x) (ha:PAd X G (e::es) fs)
  (hdb:(x==("__debug__" : Str))=false:=by decide) (he:starEach (e::es) X.env=(false,eval e X.env)::starEach es X.env:=by rfl) (hpl:(backTo pos (starEach es X.env)).any (·.1)=false:=by rfl):
  PEd X G (.Call (.Name x p) (e::es) [] pos) (bK m fs):=by
 obtain ⟨⟨f,fd,F,b,kp,hm⟩,ln⟩:=c
 exact PE.wk (uP F W.room hg hm kp b .nil W.pass ha hdb he hpl) (zHH W.tb ln)
theorem zFa {ps:List Str} (tb:TB X.K X.mg G.Bi G.B) (ln:∀ ds,m ds≠.no->ds.length=ps.length):∀ σ H Q,tF X G (lW m fs) σ H Q->zEE (spM X.K X.mg ps.length m) [] (XE X G) (tAs X G fs) σ H Q:=fun σ H Q q=>by
 obtain ⟨ρ,Hi,R,ou⟩:=q
 refine zDP R ou fun vs ds Hi1 H1 e1 R1 r1 o1=>?_
 rw [List.append_nil]
 have hm:m ds≠.no:=fun z=>by rw [z] at o1;exact o1
 refine ⟨by rw [r1.length];exact ln ds hm,Hi1,ds,tb.ext R1.ext,R1.s,r1,?_⟩
 cases z:m ds with
 | no=>exact absurd z hm
 | err c=>rw [z] at o1;exact fun C hC Hi2 H2 e2=>⟨c,hC,o1 Hi2 H2 e2⟩
 | ok r=>
  rw [z] at o1
  cases r with
  | v d=>exact o1.elim
  | f ds=>exact fun a Hi2 H2 e2 n=>o1 Hi2 H2 e2 a ⟨e1.h.none n.1,n.2⟩
theorem iE (W:Good X G k) (c:CanM X.prog X.w X.K X.mg X.base k x ps m) (hg:Gl X x) (ha:PAd X G (e::es) fs)
  (hdb:(x==("__debug__" : Str))=false:=by decide) (he:starEach (e::es) X.env=(false,eval e X.env)::starEach es X.env:=by rfl) (hpl:(backTo pos (starEach es X.env)).any (·.1)=false:=by rfl):
  PEf X G (.Call (.Name x p) (e::es) [] pos) (lW m fs):=by
 obtain ⟨⟨f,fd,F,b,kp,hm⟩,ln⟩:=c
 exact PE.wk (uP F W.room hg hm kp b .nil W.pass ha hdb he hpl) (zFa W.tb ln)
theorem iK {d:D} (hg:Gl X x) (h:∃ v u',X.mg x=some u'/\bU v u'/\IsD X.K (fun _=>none) v d) (hdb:(x==("__debug__" : Str))=false:=by decide):PEd X G (.Name x pos) (eC d):=by
 obtain ⟨v,u',hm,r,hd⟩:=h
 exact fK (vB hg hm r hdb) fun H=>hd.mono fun b o z=>by cases z
end
abbrev BX (P:Program) (w:World) (K:PySem.W.Frag) (mg:Str->Option Value) (base:Heap) (N:List Str) (x:Str) (st:Stmt) (f:Addr) (cdv:Value) (A:Around) (outer:List Env) (s:Shared) (H:Hp) (E:XK):Cx:=
 xH (CX1 P w) P w K mg base N x (aE st) f cdv A outer s H E
theorem mG {K:PySem.W.Frag} {mg:Str->Option Value} {Bi H:Hp} {N:List Str} {vs:List V} {ds:List D} (s:Same Bi H) (h:IsDs K Bi vs ds):Rel K mg H Bi Bi H (L2.start N vs) (L3.start N.length ds) where
 len:=by
  unfold L2.start L3.start
  rw [List.length_append,List.length_append,List.length_map,List.length_map,List.length_replicate,List.length_replicate,h.length]
 ext:=Ext.refl s
 slot:=fun i sl e=>by
  unfold L3.start at e
  by_cases hi:i < ds.length
  ·rw [List.getElem?_append_left (by rw [List.length_map];exact hi),List.getElem?_map] at e
   obtain ⟨d,hd⟩:∃ d,ds[i]?=some d:=⟨_,List.getElem?_eq_getElem hi⟩
   rw [hd] at e;cases e
   obtain ⟨v,hv,r⟩:=h.at hd
   refine ⟨v,?_,r⟩
   unfold L2.start
   rw [List.getElem?_append_left (by rw [List.length_map,h.length];exact hi),List.getElem?_map,hv]
   rfl
  ·rw [List.getElem?_append_right (by rw [List.length_map];omega),List.getElem?_replicate] at e
   split at e
   ·cases e;trivial
   ·cases e
 dist:=fun i j a es fs e _ _ _=>by
  exfalso
  unfold L3.start at e
  by_cases hi:i < ds.length
  ·rw [List.getElem?_append_left (by rw [List.length_map];exact hi),List.getElem?_map] at e
   cases z:ds[i]? with
   | none=>rw [z] at e;cases e
   | some d=>rw [z] at e;cases e
  ·rw [List.getElem?_append_right (by rw [List.length_map];omega),List.getElem?_replicate] at e
   split at e<;>cases e
section
variable {P:Program} {w:World} {K:PySem.W.Frag} {mg:Str->Option Value} {base:Heap} {N ps:List Str} {x:Str} {st:Stmt} {f:Addr} {fd:FuncData} {k:Nat} {b:Sv}
theorem lR {cdv:Value} {A:Around} {outer:List Env} {s:Shared} {H Bi:Hp} {E:XK} (hr:Room k (A.deeper (envOfC x (aE st) s.heap.objs.size f cdv))) (tb:TB K mg Bi H):
  Good (BX P w K mg base N x st f cdv A outer s H E) ⟨H,Bi,fun c H'=>∀ C,mg c=some C->E C none H'⟩ k where
 calm:=rfl
 room:=hr
 pass:=zHm fun c H' q=>by
  obtain ⟨c',h1,h2⟩:=q
  exact h2 c h1
 own:=PassesOwn.leaving
 tb:=tb
theorem lE {cdv:Value} {A:Around} {outer:List Env} {s:Shared} {H Bi:Hp} {E:XK}:
  tJ (BX P w K mg base N x st f cdv A outer s H E) ⟨H,Bi,fun c H'=>∀ C,mg c=some C->E C none H'⟩:=fun pins σ H1 s1 s' ea cls vs I hx hos hg q=>by
 obtain ⟨c',h1,h2⟩:=q
 exact uU I hx hos hg (h2 cls h1)
theorem zHc (F:Fn K mg x st ps f fd) (S:FnScope N ps (aE st))
  (h:∀ (cdv:Value) (A:Around) (outer:List Env) (s:Shared) (H:Hp) (E:XK) (G:Gx),Good (BX P w K mg base N x st f cdv A outer s H E) G k->tJ (BX P w K mg base N x st f cdv A outer s H E) G->bZ (BX P w K mg base N x st f cdv A outer s H E) G (bL st) b):
  FnOk P w K mg base (CX1 P w) (k+1) f fd ps (spM K mg ps.length (fn ps.length N.length b)):=by
 obtain ⟨oc,od,kV,doc,pm,an,cdv,ct,osl,rfl,lk,hcd⟩:=F.fn.ex
 refine zBA lk hcd S (fun vs H Q E h=>h.1) fun A outer s H vs Q E hr hsp=>?_
 obtain ⟨hl,Bi,ds,tb,sm,hd,hq⟩:=hsp
 have hg:=lR (P:=P) (w:=w) (K:=K) (mg:=mg) (base:=base) (N:=N) (outer:=outer) (H:=H) (Bi:=Bi) (E:=E) hr tb
 refine ⟨_,h cdv A outer s H E _ hg lE,L3.start N.length ds,Bi,mG sm hd,?_⟩
 have hlen:ds.length=ps.length:=by rw [<-hd.length];exact hl
 unfold fn at hq
 rw [if_pos hlen] at hq
 cases z:b (L3.start N.length ds) with
 | no=>rw [z] at hq;exact hq
 | err c=>rw [z] at hq;exact fun Hi' H' e C hC=>hq C hC Hi' H' e
 | ok fl=>
  rw [z] at hq
  cases fl with
  | nx ρ'=>exact fun σ' Hi' H' s R=>hq .non Hi' H' R.ext .non
  | brk ρ'=>exact hq.elim
  | ctn ρ'=>exact hq.elim
  | ret r=>
   cases r with
   | v d=>exact hq
   | f es=>exact hq
theorem jN (F:Fn K mg x st ps f fd) (S:FnScope N ps (aE st))
  (h:∀ (cdv:Value) (A:Around) (outer:List Env) (s:Shared) (H:Hp) (E:XK) (G:Gx),Good (BX P w K mg base N x st f cdv A outer s H E) G k->tJ (BX P w K mg base N x st f cdv A outer s H E) G->bZ (BX P w K mg base N x st f cdv A outer s H E) G (bL st) b):
  CanM P w K mg base (k+1) x ps (fn ps.length N.length b):=by
 refine ⟨⟨f,fd,zHc F S h,F.bd,F.kp,F.mg⟩,fun ds hm=>?_⟩
 unfold fn at hm
 split at hm
 ·assumption
 ·exact absurd rfl hm
end
end L3
namespace L3
open PySem PySem.Spec PyProof.Rows L2
unseal PEd PEf PTd PWd PAd PSd bZ POd PGd cX PId
section
variable {X:Cx} {G:Gx} {a b e:Expr} {es:List Expr} {pos p:Pos} {f g:Ev} {fs gs:Fv} {t u:Tv} {x:Str} {st:Stmt} {rest:List Stmt} {sa sb:Sv} {k:Nat}
theorem zFn {c:Expr} (ha:PEd X G a f) (hc:PE X c (tC .non)) (hm:behindInMarks .Is c=false):PTd X G (.Compare a [.Is] [c] pos) (dU (zFP f)):=PT.wk (uQ zDV ha hc hm) fun σ H Q q=>by
 obtain ⟨ρ,Hi,R,ou⟩:=q
 unfold dU zFP at ou
 cases z:f ρ with
 | no=>rw [z] at ou;exact ou.elim
 | err c=>rw [z] at ou;exact ⟨ρ,Hi,R,by rw [z];exact ou⟩
 | ok d=>
  rw [z] at ou
  refine ⟨ρ,Hi,R,?_⟩
  rw [z]
  intro Hi1 H1 e1 v r
  exact ⟨rfl,_,rfl,by rw [zBE r];exact ou Hi1 H1 e1⟩
def iSq (K:PySem.W.Frag) (tl:TE):TI:=fun σ H R=>tl σ H fun x H1=>∃ a,x=.ref a/\(((∃ xs,SqL K H1 a xs)/\R (Itl K a) H1)∨((∃ xs,SqT K H1 a xs)/\R (Itt K a) H1))
theorem zHW {tg l:Expr} {tl:TE} (hl:PE X l tl):PI X tg l (iSq X.K tl):=by
 intro pins s σ H R I h
 refine thn (hl pins s σ H _ I h) fun v s1 ⟨x,H1,I1,r1,q1⟩=>?_
 obtain ⟨a,e,q1⟩:=q1
 subst e
 cases r1
 rcases q1 with ⟨⟨xs,hq⟩,q⟩ | ⟨⟨xs,hq⟩,q⟩
 ·obtain ⟨its,rv,p,hz⟩:=I1.list hq
  refine wpAny_pyIter_list p.isList ?_
  refine ⟨s1.heap.objs.size,[s1.heap.objs.size],_,_,H1,rfl,I1.kept (t':=s1.toks) fun b o e=>Heap.get?_push_of_some _ e,zW a _,⟨_,Heap.get?_push_size _ rfl,rfl,rfl⟩,fun b hb=>?_,q⟩
  have e:b=s1.heap.objs.size:=by simpa using hb
  subst e
  exact I1.fpOk (Nat.le_refl _) (I1.hok.fresh (Nat.le_refl _))
 ·obtain ⟨its,rv,p,hz⟩:=I1.tuple hq
  refine wpAny_pyIter_tuple (show s1.heap.IsTuple a its.toArray from p) ?_
  refine ⟨s1.heap.objs.size,[s1.heap.objs.size],_,_,H1,rfl,I1.kept (t':=s1.toks) fun b o e=>Heap.get?_push_of_some _ e,wZ a _,⟨_,Heap.get?_push_size _ rfl,rfl,rfl⟩,fun b hb=>?_,q⟩
  have e:b=s1.heap.objs.size:=by simpa using hb
  subst e
  exact I1.fpOk (Nat.le_refl _) (I1.hok.fresh (Nat.le_refl _))
theorem zBx {K:PySem.W.Frag} {Hi:Hp} {a:Addr} {xs:List V} {ds:List D} (h1:SqL K Hi a xs) (h2:IsDs K Hi xs ds):Gives K Hi (Itl K a) ds:=fun Hi1 H1 s1 s2 i=>by
 have h3:=bD (s1.trans s2) h1
 refine ⟨fun hl=>⟨xs,h3,by rw [h2.length];exact hl⟩,fun d hd=>?_⟩
 obtain ⟨v,hv,r⟩:=h2.at hd
 refine ⟨⟨xs,v,h3,hv⟩,fun x H2 y=>?_⟩
 obtain ⟨e,y⟩:=y
 subst e
 have:=y xs h3
 rw [hv] at this
 cases this
 exact ⟨Hi1,Ext.refl s2,r.mono s1⟩
theorem pE {tg:Expr} (h:PEd X G e f):PId X G tg e (yR f):=PI.wk (zHW h) fun σ H Q q=>by
 obtain ⟨ρ,Hi,R,ou⟩:=q
 refine nJ R ou fun v d Hi1 H1 e1 R1 r1 o1=>?_
 cases d with
 | lst ds=>
  obtain ⟨a,xs,rfl,h1,h2⟩:=r1.lstI
  exact ⟨a,rfl,.inl ⟨⟨xs,bD R1.s h1⟩,o1.here R1.s _ (zBx h1 h2)⟩⟩
 | tup ds=>
  obtain ⟨a,xs,rfl,h1,h2⟩:=r1.tupI
  exact ⟨a,rfl,.inr ⟨⟨xs,aZ R1.s h1⟩,o1.here R1.s _ (zAa h1 h2)⟩⟩
 | _=>exact o1.elim
theorem bY {i:Nat}:∀ d ρ c,gName i d ρ≠.err c:=fun d ρ c z=>by cases z
theorem zEQ:∀ d ρ c,zBV d ρ≠.err c:=fun d ρ c z=>by cases d<;>cases z
theorem wC {g:Gv} {r:List D->Rho->Res Rho} (h1:∀ d ρ c,g d ρ≠.err c) (h2:∀ d ρ c,r d ρ≠.err c):∀ d ρ c,jA g r d ρ≠.err c:=fun d ρ c z=>by
 cases d with
 | nil=>cases z
 | cons d ds=>
  have z':(g d ρ).bind (fun ρ'=>r ds ρ')=.err c:=z
  cases q:g d ρ with
  | no=>rw [q] at z';cases z'
  | err c'=>exact h1 _ _ _ q
  | ok ρ'=>rw [q] at z';exact h2 _ _ _ z'
theorem zEz {r:List D->Rho->Res Rho} (h:∀ d ρ c,r d ρ≠.err c):∀ d ρ c,zCb r d ρ≠.err c:=fun d ρ c z=>by
 cases d<;>first | cases z | exact h _ _ _ z
theorem zHS:∀ (ds:List D) (ρ ρ':Rho),zBV ds ρ=.ok ρ'->ds.length=0:=fun ds ρ ρ' z=>by
 cases ds with
 | nil=>rfl
 | cons d ds=>cases z
theorem zI {g:Gv} {r:List D->Rho->Res Rho} {n:Nat} (h:∀ (ds:List D) (ρ ρ':Rho),r ds ρ=.ok ρ'->ds.length=n):∀ (ds:List D) (ρ ρ':Rho),jA g r ds ρ=.ok ρ'->ds.length=n+1:=fun ds ρ ρ' z=>by
 cases ds with
 | nil=>cases z
 | cons d ds=>
  have z':(g d ρ).bind (fun ρ'=>r ds ρ')=.ok ρ':=z
  cases q:g d ρ with
  | no=>rw [q] at z';cases z'
  | err c'=>rw [q] at z';cases z'
  | ok ρ1=>rw [q] at z';rw [List.length_cons,h ds ρ1 ρ' z']
end
end L3
namespace L3
open PySem PySem.Spec PyProof.Rows L2
unseal PEd PEf PTd PWd PAd PSd bZ POd PGd cX PId
theorem sZ {K:PySem.W.Frag} {H:Hp}:∀ ns:List Int,IsDs K H (ns.map V.int) (ns.map D.int)
 | []=>.nil
 | n::ns=>.cons (.int n) (sZ ns)
end L3
namespace L3
open PySem PySem.Spec PyProof.Rows L2
unseal PEd PEf PTd PWd PAd PSd bZ POd PGd cX PId
section
variable {X:Cx} {G:Gx} {e:Expr} {es:List Expr} {pos np cpos:Pos} {fs:Fv} {k:Nat} {c:Str}
theorem iC (W:Good X G k) (WR:tJ X G) (hR:∃ C,Err X.K X.mg c C) (hg:Gl X c) (ha:PAd X G (e::es) fs)
  (he:starEach (e::es) X.env=(false,eval e X.env)::starEach es X.env:=by rfl) (hplain:(backTo cpos (starEach es X.env)).any (·.1)=false:=by rfl) (hd:(c==("__debug__" : Str))=false:=by decide):
  PSd X G (.Raise (some (.Call (.Name c np) (e::es) [] cpos)) none pos) (iM c fs):=by
 intro pins s σ H E I q
 obtain ⟨ρ,Hi,R,h⟩:=q
 obtain ⟨C,Er⟩:=hR
 obtain ⟨bmB,newId,B,initId,O,FB⟩:=Er.own X.base I.mod.kin
 obtain ⟨tl,N,nm,q,bs,hdct,sn,sub,ab,col,dd,k0,k1,k2,k3,k5,mN,hC,hN,hni,T⟩:=O.obj
 have hA:=ha cpos pins s σ H (fun vs H1=>vs.length<=sizeLine/\XE X G (.ref C) none H1) I ⟨ρ,Hi,R,lU R h fun ds Hi' H' _ e1 h' vs r=>by
  have h':Fin X G Hi' E (if ds.length<=16777216 then (.err c:Res Fl) else .no):=h'
  by_cases hz:ds.length<=16777216
  ·rw [if_pos hz] at h'
   exact ⟨by rw [r.length];exact hz,c,O.bound,h' Hi' H' (R.ext.trans e1)⟩
  ·rw [if_neg hz] at h';exact h'.elim⟩
 refine wpAny_Raise_call_subT (C:=C) (nm:=nm) (q:=q) (N:=N) (bs:=bs) (bm:=tl) (hdct:=hdct) (sn:=sn) (sub:=sub) (ab:=ab) (col:=col) (dd:=dd) (k0:=k0) (k1:=k1) (k2:=k2) (k3:=k3) (k5:=k5)
  FB (mN:=mN) (T.hasType FB.hasBase) (I.ok.hd W.calm) (by rw [he];show (false || (backTo cpos (starEach es X.env)).any (·.1))=false;rw [hplain];rfl) hni (kC I hg O.bound ⟨rfl,?_⟩ hd)
 rw [he] at hA ⊢
 refine Calls.evalArgs_plain (wpAny_mono hA (fun us s₂ h₂=>?_) fun _ _ y=>y)
 obtain ⟨vs,H2,I2,rv,hz,hx⟩:=h₂
 exact ⟨rfl,by show us.length<=sizeLine;rw [<-rv.length];exact hz,I2.bk _ _ hC,hN.keeps I2.bk,T.keeps I2.bk,fun h' ea hm=>WR pins σ H2 s₂ { s₂ with heap:=h' } ea (.ref C) us I2 hm rfl I2.bare hx⟩
end
end L3
namespace L3
open PySem PySem.Spec PyProof.Rows L2 PySem.W Builtin Builtin.ObjectAttr Builtin.Getset_descriptor
unseal PEd PEf PTd PWd PAd PSd bZ POd PGd cX PId
section
variable {prog:Program} {w:World} {A:Around} {E:Value->Shared->Prop} {s:Shared} {K:Frag} {x D:Addr} {ox:Obj}
def zFg (x D:Addr) (h:Heap):Prop:=∃ o,h.get? x=some o/\o.cls=.ref D
theorem zFg.looks {h:Heap} (I:zFg x D h) {M:Model}:Looks M h (typeOf (.ref x)) (.ref D):=by
 obtain ⟨o,h1,h2⟩:=I
 exact h2 ▸ (Looks.ld h1).andThen .now
theorem xO {h:Heap} {M:Model} {self:Value} {name:Str} {a g:Value} (X:K.In h) (ha:findIn K (.ref D) name=some (some a)) (hg:specialIn K a "__get__" = some (some g)) (ht:takesIn K a=some true):
  Looks M h (Builtin.ObjectAttr.find self (.ref D) name) (.bind g a):=by
 have L1:=looks_findIn (M:=M) X ha
 have L2:=looks_specialIn (M:=M) X hg
 have L3:=looks_takesIn (M:=M) X ht
 refine L1.andThen (L2.andThen ?_)
 intro A' Q' E' s' k q
 unfold Builtin.ObjectAttr.dataDescriptor?
 refine wpAny_bind (wpAny_bind (L3 A' _ E' s' k ?_))
 exact wpAny_pure (wpAny_bind (wpAny_rule (wpAny_pure q)))
theorem xN {R:Result->Shared->Prop} {tp:Value} (X:K.In s.heap) (I:zFg x D s.heap) (hm:mroIn K D (.type "object")=some true) (h:R (.ok (.ret (.ref D))) s):
  codeAny (model prog w) A (.call (.builtin "getset_descriptor.__get__") ⟨[.builtin "object.__class__", .ref x,tp],[]⟩) R s:=by
 obtain ⟨hh,gg,dr,tt,oo⟩:=s
 have L0:=I.looks (M:=model prog w)
 have L1:=looks_mroIn (M:=model prog w) X hm
 refine codeAny_call_builtin KF.slot_gs.plain KF.entry_gs (KF.slot_gs.check _ _ _ _ _ _ _ _ KF.type_class (KF.args_gs _ _ _) ?_)
 unfold Builtin.«getset_descriptor.__get__» descrGet
 rw [dga_obj]
 refine wpAny_bind (wpAny_pure ?_)
 unfold descrGetter descrCheckInstance descrNameAndClass isInstance
 simp only [KF.owner_class]
 repeat lk
 refine ⟨Code.quiet_builtin _ (by decide +kernel),codeAny_builtin KF.entry_class ?_⟩
 unfold Builtin.«object.__class__» shownTypeOf
 repeat lk
 exact h
structure ExK (K:Frag) (D:Addr):Prop where
 hc:(clsIn K D).isSome=true
 ga:findIn K (.ref D) "__getattribute__" = some (some (.builtin "BaseException.__getattribute__"))
 no:findIn K (.ref D) "__getattr__" = some none
 ha:findIn K (.ref D) "__class__" = some (some (.builtin "object.__class__"))
 hn:specialIn K (.builtin "object.__class__") "__get__" = some (some (.builtin "getset_descriptor.__get__"))
 tk:takesIn K (.builtin "object.__class__")=some true
 mo:mroIn K D (.type "object")=some true
 mb:mroIn K D (.type "BaseException")=some true
theorem yW (T:ExK K D) {Q:Option Value->Shared->Prop} (X:K.In s.heap) (I:zFg x D s.heap) (h:Q (some (.ref D)) { s with toks:=s.toks+1 }):
  wpAny (model prog w) A (getAttr? (.ref x) "__class__") Q E s:=by
 obtain ⟨hh,g,d,t,os⟩:=s
 have L0:=I.looks (M:=model prog w)
 have L1:=looks_findIn (M:=model prog w) X T.ga
 have L2:=looks_findIn (M:=model prog w) X T.no
 have L3:=xO (M:=model prog w) (self:=.ref x) X T.ha T.hn T.tk
 have L4:=looks_mroIn (M:=model prog w) X T.mb
 unfold getAttr? getAttrBy? getAttrBy
 refine wpAny_bind (wpAny_mkText (wpAny_bind (wpAny_attempt (wpAny_holding (wpAny_bind (L0.at (wpAny_bind (L1.at ?_))))))))
 have hx2:(Value.builtin "BaseException.__getattribute__" == Value.builtin "object.__getattribute__")=false:=by decide +kernel
 show wpAny _ _ (if (onTheHeap (.ref D) && Value.builtin "BaseException.__getattribute__" == Value.builtin "object.__getattribute__")=true then _ else _) _ _ _
 rw [hx2,Bool.and_false,if_neg Bool.false_ne_true]
 unfold getAttrByItsOwn hookBefore
 refine wpAny_bind ?_
 show wpAny _ _ (typeLookup (.ref D) "__getattr__") _ _ _
 refine L2.at ?_
 refine wpAny_bind (wpAny_attempt (wpAny_holding ?_))
 unfold callGetattribute boundAndCalled
 have f3:=F.excAttr_ValueError.ga.bind (.ref x)
 show wpAny _ _ (bindSpecial (.builtin "BaseException.__getattribute__") (.ref x) >>= _) _ _ _
 rw [f3]
 refine wpAny_bind (wpAny_pure ?_)
 have hk:builtinKind "BaseException.__getattribute__" = some .slot:=by decide +kernel
 have hsplit:splitId "BaseException.__getattribute__" = some ("BaseException", "__getattribute__"):=by decide +kernel
 refine wpAny_call (codeAny_call_builtin F.excAttr_ValueError.ga.plain F.entry_bexc_ga ?_)
 have ha:=F.args_bexc_ga (.ref x) (.str "__class__" t)
 simp only [checkBuiltinCall,hk,hsplit]
 refine wpAny_bind ?_
 unfold isInstance
 refine wpAny_bind ?_
 refine L0.at ?_
 refine L4.at ?_
 rw [if_neg (by decide)]
 repeat (first | assumption | wp_step)
 obtain ⟨ox,hx,hcl⟩:=I
 refine wpAny_loadPart_at hx ?_
 rw [hcl]
 refine wpAny_pure ?_
 refine wpAny_bind ?_
 refine L3.at ?_
 show wpAny _ _ (Builtin.ObjectAttr.bindTo (.builtin "getset_descriptor.__get__") (.builtin "object.__class__") (.ref x) (.ref D)) _ _ _
 unfold Builtin.ObjectAttr.bindTo
 show wpAny _ _ (do
   let v <-holding [Value.builtin "object.__class__"] (call (.builtin "getset_descriptor.__get__") [.builtin "object.__class__", .ref x,.ref D])
   ret v) _ _ _
 refine wpAny_bind (wpAny_holding (wpAny_call (xN X ⟨ox,hx,hcl⟩ T.mo ?_)))
 refine wpAny_pure ?_
 exact handed_on rfl (wpAny_pure h)
theorem zCB (T:ExK K D):KitX K (.ref x) (.ref D) (zFg x D) where
 ty:=fun _ _ _ I=>I.looks
 it:=fun _ _ X _=>by
  obtain ⟨cd,hcD⟩:=Option.isSome_iff_exists.mp T.hc
  unfold clsIn at hcD
  split at hcD
  ·rename_i c' d' cd' sl' ho
   intro A' Q' E' s' k q
   unfold isType loadHead
   exact wpAny_bind (wpAny_loadPart (k _ _ (X _ _ ho)) (wpAny_pure q))
  ·cases hcD
 ne:=fun h tp dd its n sl X htp=>by
  obtain ⟨cd,hcD⟩:=Option.isSome_iff_exists.mp T.hc
  refine Bool.eq_false_iff.mpr fun q=>?_
  have e:D=tp:=Value.ref.inj (beq_iff_eq.mp q)
  subst e
  unfold clsIn at hcD
  split at hcD
  ·rename_i c' d' cd' sl' ho
   have z:=(X _ _ ho).symm.trans htp
   cases z
  ·cases hcD
 ca:=fun X I k=>yW T X I k
end
end L3
namespace L3
open PySem PySem.Spec PyProof.Rows L2 PySem.W
unseal PEd PEf PTd PWd PAd PSd bZ POd PGd cX PId
section
variable {prog:Program} {w:World} {A:Around} {E:Value->Shared->Prop} {s:Shared} {K:Frag} {x C CE:Addr} {ox:Obj}
structure CaK (K:Frag) (CE:Addr):Prop where
 ty:typeIn K (.ref CE)=some (.type "type")
 cl:(clsIn K CE).isSome=true
 mb:mroIn K CE (.type "BaseException")=some true
theorem zBN (T:CaK K CE) (hm:mroIn K C (.ref CE)=some true) {Q:Bool->Shared->Prop} (X:K.In s.heap) (I:zFg x C s.heap) (h:Q true s):wpAny (model prog w) A (excMatches (.ref x) (.ref CE)) Q E s:=by
 obtain ⟨hh,g,d,t,os⟩:=s
 have L0:=I.looks (M:=model prog w)
 have L1:=looks_typeIn (M:=model prog w) X T.ty
 have L2:=looks_mroIn (M:=model prog w) X T.mb
 have L3:=looks_mroIn (M:=model prog w) X hm
 have Lt:Looks (model prog w) hh (isType (.ref CE)) true:=by
  obtain ⟨cd,hcD⟩:=Option.isSome_iff_exists.mp T.cl
  unfold clsIn at hcD
  split at hcD
  ·rename_i c' d' cd' sl' ho
   intro A' Q' E' s' k q
   unfold isType loadHead
   exact wpAny_bind (wpAny_loadPart (k _ _ (X _ _ ho)) (wpAny_pure q))
  ·cases hcD
 unfold excMatches isInstance isExcClass
 refine wpAny_bind (wpAny_bind ?_)
 refine L1.at ?_
 refine wpAny_of_eq tc_notTuple ?_
 show wpAny _ _ (forIn [Value.ref CE] PUnit.unit _ >>= _) _ _ _
 rw [List.forIn_cons]
 refine wpAny_bind (wpAny_bind (wpAny_bind (wpAny_bind ?_)))
 refine Lt.at ?_
 show wpAny _ _ (isSubtype (.ref CE) (.type "BaseException")) _ _ _
 refine L2.at ?_
 refine wpAny_pure ?_
 show wpAny _ _ (forIn ([]:List Value) PUnit.unit _) _ _ _
 rw [List.forIn_nil]
 refine wpAny_pure ?_
 refine wpAny_bind ?_
 refine L0.at ?_
 refine wpAny_bind ?_
 rw [List.forIn_cons]
 refine wpAny_bind (wpAny_bind ?_)
 refine L3.at ?_
 repeat (first | exact h | wp_step)
end
end L3
namespace L3
open PySem PySem.Spec PyProof.Rows L2 PySem.W
unseal PEd PEf PTd PWd PAd PSd bZ POd PGd cX PId
section
variable {X:Cx} {pins:List (Addr×Obj)} {σ:St} {H H':Hp} {s s':Shared} {ea:Addr} {cls:Value}
theorem Fly.stay (I:Inv X pins σ H s) (F:Fly X.prog X.w X.stack H H' s ea cls s') {h' B:Heap} {a0:Value}
  (hf:Heap.FlyingW B X.stack ea cls a0 s'.heap) (cov:∀ b o,s'.heap.get? b=some o->((∃ o',s.heap.get? b=some o')∨H' b≠none)->b∉frs X.stack->B.get? b=some o)
  (hf':Heap.FlyingW B X.stack ea cls a0 h') (up:s'.heap.UpToSlots h') {t':Nat}:Inv X pins σ H' { s' with heap:=h',toks:=t' }:=by
 have trk:∀ {b:Addr},H' b≠none->b∉frs X.stack:=fun {b} hb hm=>by
  have h1:=I.stkFree b hm
  obtain ⟨_,o,ho,_⟩:=I.stack.mem hm
  exact hb (F.un.free b o ho h1 (by simp))
 have keepB:∀ {b:Addr} {o:Obj},s'.heap.get? b=some o->((∃ o',s.heap.get? b=some o')∨H' b≠none)->b∉frs X.stack->h'.get? b=some o:=fun e1 e2 e3=>hf'.1 _ _ (cov _ _ e1 e2 e3)
 have slotOf:∀ {b:Addr} {o:Obj},b∈frs X.stack->s'.heap.get? b=some o->∃ sl,h'.get? b=some { o with slots:=sl }:=fun {b o} hm e=>by
  obtain ⟨_,o',ho',hn⟩:=hf.2.2.1.mem hm
  rw [e] at ho';cases ho'
  exact up b o e hn
 refine I.call' (s':={ s' with heap:=h',toks:=t' }) (ch:=[]) F.os ⟨?_,?_,F.un.free,?_,F.un.tups,F.un.frzs,F.un.tbls⟩ ?_ F.bare (fun b z=>absurd z (by simp))
 ·intro b o e n hb hx
  exact keepB (F.un.keep b o e n hb hx) (.inl ⟨o,e⟩) hb
 ·intro b o e n hb hx
  obtain ⟨sl,e1⟩:=F.un.slot b o e n hb hx
  obtain ⟨sl2,e2⟩:=slotOf hb e1
  exact ⟨sl2,e2⟩
 ·intro b o e hx
  obtain ⟨o1,e1⟩:=F.un.there b o e hx
  by_cases hs:b∈frs X.stack
  ·obtain ⟨sl,e3⟩:=slotOf hs e1
   exact ⟨_,e3⟩
  ·exact ⟨o1,keepB e1 (.inl ⟨o,e⟩) hs⟩
 ·intro a o e
  refine (F.hok a o e).stay (fun b u hb z=>?_) (fun b z=>z) (fun b xs z=>z)
  have hb':H' b≠none:=by
   rcases hb with rfl | hb
   ·rw [e];simp
   ·rw [hb];simp
  exact keepB z (.inr hb') (trk hb')
theorem _root_.L2.Inv.track (I:Inv X pins σ H s) {a:Addr} {o:HO} (hn:H a=none) (h0:X.s₀.heap.get? a=none) (hl:a≠X.env.locals) (hc:∀ x c,X.env.cells.lookup x=some c->c≠a) (hp:∀ p∈X.pn++pins,p.1≠a)
  (ho:fT X.prog X.w (upd H a o) s.heap a o):Inv X pins σ (upd H a o) s where
 ok:=I.ok
 os:=I.os
 bare:=I.bare
 base:=⟨I.base.keep,I.base.slot,fun b ob e n hx=>by
   have:b≠a:=fun z=>by rw [z,h0] at e;cases e
   rw [aJ this];exact I.base.free b ob e n hx,I.base.there,fun b xs e=>by
   have z:=I.base.tups b xs e
   rw [aJ (aM z hn)];exact z,fun b ob u e=>by
   have z:=I.base.frzs b ob u e
   rw [aJ (aM z hn)];exact z,fun b ps e=>by
   obtain ⟨m,z⟩:=I.base.tbls b ps e
   exact ⟨m,by rw [aJ (aM z hn)];exact z⟩⟩
 loc:=I.loc
 cell:=I.cell
 free:=by rw [aJ (Ne.symm hl)];exact I.free
 freeC:=fun x c e=>by rw [aJ (hc x c e)];exact I.freeC x c e
 pin:=fun p hp'=>by
  obtain ⟨e1,e2,e3,e4,e5⟩:=I.pin p hp'
  exact ⟨e1,by rw [aJ (hp p hp')];exact e2,e3,e4,e5⟩
 hok:=fun b u e=>by
  by_cases hb:b=a
  ·subst hb;rw [aI] at e;cases e;exact ho
  ·rw [aJ hb] at e
   exact (I.hok b u e).stay (fun c v _ q=>q) (fun c q=>by rw [aJ (aM q hn)];exact q) fun c xs q=>by rw [aJ (aM q hn)];exact q
 len:=I.len
theorem zEM {M:Model} {A:Around} {E:Value->Shared->Prop} {i:Nat} {n:Str} {pos:Pos} {Q:Unit->Shared->Prop} (I:Inv X pins σ H s) (hN:X.N.Nodup) (hi:X.N[i]?=some n) (hk:X.env.scope.names.lookup n=some .local)
  (h:∀ s',Inv X pins (σ.set i none) H s'->Q () s'):wpAny M A (do bindName X.env n .none;unbindBehindTheSuite X.env n pos) Q E s:=by
 obtain ⟨m,hn,hl⟩:=id I.loc
 have hcls:(X.env.scope.kind==.class || (X.env.scope.kind==.module && X.env.locals != X.env.globals))=false:=by rw [I.ok.kind];rfl
 have hiσ:i < σ.length:=by rw [I.len];exact (List.getElem?_eq_some_iff.mp hi).1
 have cne:=I.cne
 refine wpAny_nameGoes_keeps hk hn hcls fun h' v hn' hs=>?_
 obtain ⟨oL,_,_,hoL,_⟩:=id hn
 refine h _ ⟨I.ok,I.os,I.bare,⟨fun b o e n hb hx=>?_,fun b o e n hb hx=>?_,I.base.free,fun b o e hx=>?_,I.base.tups,I.base.frzs,I.base.tbls⟩,⟨_,hn',fun j y v' e1 e2 e3=>?_⟩,fun y c e=>?_,I.free,I.freeC,fun p hp=>?_,?_,by simpa using I.len⟩
 ·exact (hs.2 b (Nat.ne_of_lt (Nat.lt_of_lt_of_le (Heap.lt_size e) I.ok.above))).trans (I.base.keep b o e n hb hx)
 ·obtain ⟨sl,e1⟩:=I.base.slot b o e n hb hx
  exact ⟨sl,(hs.2 b (Nat.ne_of_lt (Nat.lt_of_lt_of_le (Heap.lt_size e) I.ok.above))).trans e1⟩
 ·obtain ⟨o',e1⟩:=I.base.there b o e hx
  exact ⟨o',(hs.2 b (Nat.ne_of_lt (Nat.lt_of_lt_of_le (Heap.lt_size e) I.ok.above))).trans e1⟩
 ·by_cases hj:j=i
  ·subst hj
   rw [List.getElem?_set_self hiσ] at e2
   cases e2
  ·rw [List.getElem?_set_ne (Ne.symm hj)] at e2
   obtain ⟨u',r',q⟩:=hl j y v' e1 e2 e3
   refine ⟨u',r',?_⟩
   rcases q with ⟨k,e⟩ | ⟨k,c,e,z⟩
   ·refine .inl ⟨k,?_⟩
    have:y≠n:=fun e=>hj (pK hN e1 (e ▸ hi))
    simp [this,e]
   ·exact .inr ⟨k,c,e,z.sameBut hs (cne y c e)⟩
 ·obtain ⟨w',z⟩:=I.cell y c e
  exact ⟨w',z.sameBut hs (cne y c e)⟩
 ·obtain ⟨e,n,ne,nf,d⟩:=I.pin p hp
  exact ⟨(hs.2 p.1 ne).trans e,n,ne,nf,d⟩
 ·intro b ob e
  refine (I.hok b ob e).stay (fun c w' hc q=>(hs.2 c ?_).trans q) (fun _ q=>q) fun _ _ q=>q
  rintro rfl
  have hfree:=I.free
  rcases hc with rfl | hc
  ·rw [hfree] at e;cases e
  ·rw [hfree] at hc;cases hc
abbrev gM (X:Cx) (ea:Addr):Cx:={ X with A:=X.A.mark (some (.ref ea)),calm:=false,xe:=fun _ _=>False }
theorem _root_.L2.Inv.clause (I:Inv X pins σ H s) (ea:Addr):Inv (gM X ea) pins σ H s:=
 ⟨⟨I.ok.mod,I.ok.kind,I.ok.glob,I.ok.blt,I.ok.above,I.ok.inj,I.ok.has,I.ok.cab,(fun z=>Bool.noConfusion z),I.ok.frames,I.ok.stk,I.ok.exf,I.ok.bs,I.ok.bsz,I.ok.noex,I.ok.exfs,I.ok.funs,I.ok.frf⟩,I.os,I.bare,I.base,I.loc,I.cell,I.free,I.freeC,I.pin,I.hok,I.len⟩
theorem _root_.L2.Inv.unclause {ea:Addr} (ok:X.Ok) (I:Inv (gM X ea) pins σ H s):Inv X pins σ H s:=⟨ok,I.os,I.bare,I.base,I.loc,I.cell,I.free,I.freeC,I.pin,I.hok,I.len⟩
end
end L3
namespace L3
open PySem PySem.Spec PyProof.Rows L2 PySem.W
unseal PEd PEf PTd PWd PAd PSd bZ POd PGd cX PId
section
variable {X:Cx} {G:Gx} {a e:Expr} {es:List Expr} {pos p:Pos} {fs:Fv} {t:Tv} {x:Str} {k:Nat} {ps:List Str} {m:Mir} {st:Stmt} {sts:List Stmt} {sa sb:Sv}
def G0 (G:Gx):Gx:={ G with E:=fun _ _=>False }
def zFS (X:Cx) (pins:List (Addr×Obj)) (σ:St) (Hi H:Hp) (c:Str) (ev:Value) (s':Shared):Prop:=
 ∃ (s1:Shared) (H1:Hp) (ea:Addr) (cls:Value) (Hi' H':Hp),ev=.ref ea/\Inv X pins σ H1 s1/\X.mg c=some cls/\Fly X.prog X.w X.stack H1 H' s1 ea cls s'/\Ext Hi H Hi' H'/\Keep H H1
def zIx (X:Cx) (G:Gx) (Hi:Hp) (E:Ends) (r:Res Fl):Prop:=match r with
 | .err _=>True
 | r=>Fin X G Hi E r
@[irreducible] def PSx (X:Cx) (G:Gx) (st:Stmt) (f:Sv):Prop:=∀ (pins:List (Addr×Obj)) (s:Shared) (σ:St) (H:Hp) (E:Ends) (ρ:Rho) (Hi:Hp) (Et:Value->Shared->Prop),
 Inv X pins σ H s->fG X G Hi H σ ρ->f ρ≠.no->zIx X G Hi E (f ρ)->(∀ c ev s',f ρ=.err c->zFS X pins σ Hi H c ev s'->Et ev s')->wpAny (model X.prog X.w) X.A (exec st X.env) (SP X pins E) Et s
unseal PSx
@[irreducible] def dS (X:Cx) (G:Gx) (sts:List Stmt) (f:Sv):Prop:=∀ (pins:List (Addr×Obj)) (s:Shared) (σ:St) (H:Hp) (E:Ends) (ρ:Rho) (Hi:Hp) (Et:Value->Shared->Prop),
 Inv X pins σ H s->fG X G Hi H σ ρ->f ρ≠.no->zIx X G Hi E (f ρ)->(∀ c ev s',f ρ=.err c->zFS X pins σ Hi H c ev s'->Et ev s')->wpAny (model X.prog X.w) X.A (execs sts X.env) (SP X pins E) Et s
unseal dS
theorem zEj (h:PSx X G st sa):dS X G [st] sa:=fun pins s σ H E ρ Hi Et I R hn hf he=>by
 refine wpAny_execs_cons (wpAny_mono (h pins s σ H E ρ Hi Et I R hn hf he) (fun f s1 q=>?_) fun _ _ z=>z)
 cases f with
 | next=>exact wpAny_execs_nil q
 | ret v=>exact q
 | brk=>exact q
 | cont=>exact q
theorem zIY {pins:List (Addr×Obj)} {s:Shared} {σ:St} {H:Hp} {ρ:Rho} {Hi:Hp} {Et:Value->Shared->Prop} {Q:VK} {ds:List D} (tb:TB X.K X.mg G.Bi G.B) (c:CanM X.prog X.w X.K X.mg X.base k x ps m) (hr:Room k X.A) (hg:Gl X x) (ha:PAd X.nox (G0 G) (e::es) fs)
  (I:Inv X pins σ H s) (R:fG X G Hi H σ ρ) (hds:fs ρ=.ok ds) (hm:m ds≠.no) (hq:∀ r v Hi' H',m ds=.ok r->Ext Hi H Hi' H'->IsD X.K Hi' v r.d->Q v H') (he:∀ c ev s',m ds=.err c->zFS X pins σ Hi H c ev s'->Et ev s')
  (hdb:(x==("__debug__" : Str))=false) (hst:starEach (e::es) X.env=(false,eval e X.env)::starEach es X.env) (hpl:(backTo pos (starEach es X.env)).any (·.1)=false):
  wpAny (model X.prog X.w) X.A (eval (.Call (.Name x p) (e::es) [] pos) X.env) (EP X pins σ Q) Et s:=by
 obtain ⟨⟨f,fd,F,b,kp,hmg⟩,ln⟩:=c
 refine wpAny_Call_Name_kw (kC I hg hmg ?_ hdb)
 have hA:=ha pos pins s σ H (fun vs H1=>∃ Hi1,Ext Hi H Hi1 H1/\IsDs X.K Hi1 vs ds) (I.wish _) ⟨ρ,Hi,R,by rw [hds];exact fun Hi1 H1 e1 vs r=>⟨Hi1,e1,r⟩⟩
 refine PySem.W.callWith_K (h₀:=X.base) I.ok.mod.kin kp (wpAny_mono hA (fun us s1 q=>?_) fun _ _ z=>False.elim z) hst hpl
 obtain ⟨vs,H1,I1',r,Hi1,e1,hd⟩:=q
 have I1:Inv X pins σ H1 s1:=I1'.unwish
 refine ⟨I1.kIn,?_⟩
 have hl:us.length=ps.length:=by rw [<-r.length,hd.length];exact ln ds hm
 refine wpAny_call (codeAny_mono (F.run X.A X.stack s1 H1 ⟨us,[]⟩ us vs (fun v H2=>Q v H2) (fun cls _ H2=>∃ c Hi2,X.mg c=some cls/\m ds=.err c/\Ext Hi1 H1 Hi2 H2) hr I1.env0 (by have:=b s1 us I1.kIn (by rw [List.append_nil];exact hl);rwa [List.append_nil] at this) r ?_) fun res s' hq'=>?_)
 ·refine ⟨by rw [hd.length];exact ln ds hm,Hi1,ds,tb.ext (R.ext.trans e1),e1.s,hd,?_⟩
  cases z:m ds with
  | no=>exact absurd z hm
  | err c'=>exact fun C hC Hi2 H2 e2=>⟨c',Hi2,hC,rfl,e2⟩
  | ok rr=>
   cases rr with
   | v d=>exact fun v Hi2 H2 e2 r2=>hq _ v Hi2 H2 z (e1.trans e2) r2
   | f es=>
    intro a' Hi2 H2 e2 n
    obtain ⟨n1,n2,xs,n3,n4⟩:=n
    exact hq _ (.ref a') (upd Hi2 a' (.lst xs)) H2 z (e1.trans (e2.hold n1 n3 n2)) (.lst (SqL.of aI) (n4.mono (bA n2 _)))
 ·cases res with
  | error ev=>
   obtain ⟨ea,cls,H',rfl,Fl,c',Hi2,hc,hmc,e2⟩:=hq'
   exact he c' _ s' hmc ⟨s1,H1,ea,cls,Hi2,H',rfl,I1,hc,Fl,e1.trans e2,e1.h⟩
  | ok fl=>
   cases fl with
   | ret u=>exact I1.after hq'
   | next=>exact False.elim hq'
   | brk=>exact False.elim hq'
   | cont=>exact False.elim hq'
theorem pS {α:Type} {r:Res α} {β:Type} {f:α->Res β} (h:(noErr r).bind f≠.no):∃ a,r=.ok a/\(noErr r).bind f=f a:=by
 cases r with
 | ok a=>exact ⟨a,rfl,rfl⟩
 | err c=>exact absurd rfl h
 | no=>exact absurd rfl h
theorem zIC {i:Nat} {y:Str} {py pos2:Pos} (hN:X.N.Nodup) (hi:X.N[i]?=some y) (hy:Loc X.env.scope y) (W:Good X G k) (c:CanM X.prog X.w X.K X.mg X.base k x ps m) (hg:Gl X x) (ha:PAd X.nox (G0 G) (e::es) fs)
  (hdb:(x==("__debug__" : Str))=false:=by decide) (hst:starEach (e::es) X.env=(false,eval e X.env)::starEach es X.env:=by rfl) (hpl:(backTo pos (starEach es X.env)).any (·.1)=false:=by rfl)
  (hs2:swapsWith (.Call (.Name x p) (e::es) [] pos) (some (.Name y py)) pos2.line X.env=pure false:=by rfl) (hfn:X.fn y=true∨X.env.scope.names.lookup y=some .local:=by first | exact .inl rfl | exact .inr rfl | assumption):
  PSx X G (.Assign [.Name y py] (.Call (.Name x p) (e::es) [] pos) pos2) (zIn i m fs):=fun pins s σ H E ρ Hi Et I R hn hf he=>by
 unfold zIn at hn hf he
 obtain ⟨ds,hds,heq⟩:=pS hn
 rw [heq] at hn hf he
 have hm:m ds≠.no:=fun z=>by rw [z] at hn;exact hn rfl
 refine wpAny_Assign_Name (wpAny_mono (zIY (Q:=fun v H'=>E.nx (σ.set i (some v)) H') W.tb c W.room hg ha I R hds hm (fun r v Hi' H' z e1 rv=>?_) (fun c' ev s' z q=>he c' ev s' (by rw [z];rfl) q) hdb hst hpl) (fun v s1 q=>?_) fun _ _ z=>z) hs2
 ·rw [z] at hf
  exact (show Fin X G Hi E (.ok (.nx (ρ.set i (.val r.d)))) from hf) _ Hi' H' e1.i ((R.grow e1).set rv)
 ·obtain ⟨v',H1,I1,r1,q1⟩:=q
  exact gK I1 hN hi hy r1 (fun s2 I2=>⟨_,H1,I2,q1⟩) hfn
theorem zJP {c:Expr} {as bs:List Stmt} (hc:PTd X.nox (G0 G) c t) (ha:dS X G as sa) (hb:dS X G bs sb):PSx X G (.If c as bs pos) (xIf t sa sb):=fun pins s σ H E ρ Hi Et I R hn hf he=>by
 unfold xIf at hn hf he
 obtain ⟨b,hb',heq⟩:=pS hn
 rw [heq] at hn hf he
 have hT:=hc pins s σ H (fun b' H1=>b'=b/\∃ Hi1,Ext Hi H Hi1 H1) (I.wish _) ⟨ρ,Hi,R,by rw [hb'];exact fun Hi1 H1 e1=>⟨rfl,Hi1,e1⟩⟩
 refine wpAny_If (wpAny_mono hT (fun b' s1 q=>?_) fun _ _ z=>False.elim z)
 obtain ⟨H1,I1',rfl,Hi1,e1⟩:=q
 have I1:Inv X pins σ H1 s1:=I1'.unwish
 have R1:=R.grow e1
 have cm:∀ c ev s',zFS X pins σ Hi1 H1 c ev s'->zFS X pins σ Hi H c ev s':=fun c ev s' q=>by
  obtain ⟨s2,H2,ea,cls,Hi',H',q1,q2,q3,q4,q5,q6⟩:=q
  exact ⟨s2,H2,ea,cls,Hi',H',q1,q2,q3,q4,e1.trans q5,e1.h.trans q6⟩
 have up:∀ r,zIx X G Hi E r->zIx X G Hi1 E r:=fun r z=>by
  cases r with
  | err c=>trivial
  | ok f=>exact Fin.mono (show Fin X G Hi E (.ok f) from z) e1.i
  | no=>exact z
 cases b' with
 | true=>exact ha pins s1 σ H1 E ρ Hi1 Et I1 R1 hn (up _ hf) fun c ev s' z q=>he c ev s' z (cm c ev s' q)
 | false=>exact hb pins s1 σ H1 E ρ Hi1 Et I1 R1 hn (up _ hf) fun c ev s' z q=>he c ev s' z (cm c ev s' q)
end
end L3
namespace L3
open PySem PySem.Spec PyProof.Rows L2 PySem.W
unseal PEd PEf PTd PWd PAd PSd bZ POd PGd cX PId PSx dS
section
variable {X:Cx} {G:Gx} {k:Nat} {fb fh:Sv} {body suite:List Stmt} {b₀:Stmt} {ce n:Str} {np hpos pos:Pos} {i:Nat} {tb:List Str}
def Cat (K:Frag) (mg:Str->Option Value) (ce c:Str):Prop:=∃ C CE,mg c=some (.ref C)/\mg ce=some (.ref CE)/\ExK K C/\CaK K CE/\mroIn K C (.ref CE)=some true
structure GoodH (X:Cx):Prop where
 u:X.A.units+64 < cLine
theorem Rel.setExc {K:PySem.W.Frag} {mg:Str->Option Value} {B Bi Hi H:Hp} {σ:St} {ρ:Rho} {a C:Addr} {c:Str} (R:Rel K mg B Bi Hi H σ ρ) (hn:H a=none) (hB:B a=none) (hc:mg c=some (.ref C)):
  Rel K mg B Bi Hi (upd H a (.ext (zCs a C))) (σ.set i (some (.ref a))) (ρ.set i (.exc c)) where
 len:=by rw [List.length_set,List.length_set];exact R.len
 ext:=R.ext.trans (Ext.newF R.s hn)
 slot:=fun j s q=>by
  by_cases z:i=j
  ·subst z
   by_cases hl:i < ρ.length
   ·rw [List.getElem?_set_self hl] at q;cases q
    exact ⟨a,C,by rw [List.getElem?_set_self (by rw [R.len];exact hl)],aI,R.s.none hn,hB,hc⟩
   ·rw [List.getElem?_eq_none (by rw [List.length_set];omega)] at q;cases q
  ·rw [List.getElem?_set_ne z] at q ⊢
   exact (R.slot j s q).ext (Ext.newF R.s hn)
 dist:=fun j l b es fs q1 q2 q3 q4=>by
  have nx:∀ {j:Nat} {es:List D},(ρ.set i (.exc c))[j]?=some (.own es)->i≠j:=fun {j es} q e=>by
   subst e
   by_cases hl:i < ρ.length
   ·rw [List.getElem?_set_self hl] at q;cases q
   ·rw [List.getElem?_eq_none (by rw [List.length_set];omega)] at q;cases q
  have n1:=nx q1
  have n2:=nx q2
  rw [List.getElem?_set_ne n1] at q1 q3
  rw [List.getElem?_set_ne n2] at q2 q4
  exact R.dist j l b es fs q1 q2 q3 q4
theorem Rel.gone {K:PySem.W.Frag} {mg:Str->Option Value} {B Bi Hi H:Hp} {σ:St} {ρ:Rho} (R:Rel K mg B Bi Hi H σ ρ):Rel K mg B Bi Hi H (σ.set i none) (ρ.set i .un) where
 len:=by rw [List.length_set,List.length_set];exact R.len
 ext:=R.ext
 slot:=fun j s q=>by
  by_cases z:i=j
  ·subst z
   by_cases hl:i < ρ.length
   ·rw [List.getElem?_set_self hl] at q;cases q;trivial
   ·rw [List.getElem?_eq_none (by rw [List.length_set];omega)] at q;cases q
  ·rw [List.getElem?_set_ne z] at q ⊢
   exact R.slot j s q
 dist:=fun j l b es fs q1 q2 q3 q4=>by
  have nx:∀ {j:Nat} {es:List D},(ρ.set i .un)[j]?=some (.own es)->i≠j:=fun {j es} q e=>by
   subst e
   by_cases hl:i < ρ.length
   ·rw [List.getElem?_set_self hl] at q;cases q
   ·rw [List.getElem?_eq_none (by rw [List.length_set];omega)] at q;cases q
  have n1:=nx q1
  have n2:=nx q2
  rw [List.getElem?_set_ne n1] at q1 q3
  rw [List.getElem?_set_ne n2] at q2 q4
  exact R.dist j l b es fs q1 q2 q3 q4
theorem zIK (W:Good X G k) (O:Own X) (hT:∀ c,tb.contains c=true->Cat X.K X.mg ce c) (hg:Gl X ce) (hN:X.N.Nodup) (hi:X.N[i]?=some n) (hk:X.env.scope.names.lookup n=some .local)
  (hb:dS X G body fb) (hh:∀ ea,GoodH (gM X ea)->bZ (gM X ea) (G0 G) (b₀::suite) fh) (hd:(ce==("__debug__" : Str))=false:=by decide):
  PSd X G (.Try body [.ExceptHandler (some (.Name ce np)) (some n) (b₀::suite) hpos] [] [] pos) (zIb tb i fb fh):=by
 intro pins s σ H E I q
 obtain ⟨ρ,Hi,R,h⟩:=q
 unfold zIb at h
 have hno:fb ρ≠.no:=fun z=>by rw [z] at h;exact h
 refine wpAny_Try_except ?_
 refine wpAny_mono (hb pins s σ H E ρ Hi _ I R hno ?_ ?_) (fun f s1 q=>?_) fun _ _ z=>z
 ·cases z:fb ρ with
  | no=>exact absurd z hno
  | err c=>trivial
  | ok f=>rw [z] at h;exact h
 ·rintro c ev s' z ⟨s1,H1,ea,cls,Hi',H',rfl,I1,hc,F,e1,sm⟩
  rw [z] at h
  have h:Fin X G Hi E (if tb.contains c=true then (match fh (ρ.set i (.exc c)) with
   | .ok (.nx ρ')=>.ok (.nx (ρ'.set i .un))
   | _=>.no) else .no):=h
  by_cases htb:tb.contains c=true
  ·rw [if_pos htb] at h
   obtain ⟨C,CE,m1,m2,T1,T2,T3⟩:=hT c htb
   rw [m1] at hc
   cases hc
   obtain ⟨B,a0,hf,cov⟩:=F.fly
   have hst:X.stack=X.env::X.outer:=O.stk
   have hfr:X.A.frames=some (X.env::X.outer):=by rw [I1.ok.frames,hst]
   have hf1:=hf
   rw [hst] at hf1
   refine wpAny_looks_onW hfr O.fr hf1 fun h4 held4 up4=>?_
   refine wpAny_landsW held4 fun h5 fly5 up5=>?_
   have up5':=up4.trans up5
   have fly5':Heap.FlyingW B X.stack ea (.ref C) a0 h5:=by rw [hst];exact fly5
   have I5:=Fly.stay I1 F hf cov fly5' up5' (t':=s'.toks)
   have tyAt:∀ {h6:Heap},Heap.FlyingW B X.stack ea (.ref C) a0 h6->zFg ea C h6:=fun z=>z.there
   refine wpAny_handleBy_cons (codeAny_handlers_test (kC (X:=gM X ea) (I5.clause ea) hg m2 ?_ hd)) (by intro q;cases q)
   refine zBN T2 T3 I5.kIn (tyAt fly5') ?_
   refine codeAny_handlers_suite_as ?_
   refine lands_againW fly5' fun h6 fly6 up6=>?_
   have I6:=Fly.stay I1 F hf cov fly6 (up5'.trans up6) (t':=s'.toks)
   have hnew:s1.heap.get? ea=none:=F.new
   have here:∀ {b:Addr} {o:Obj},s1.heap.get? b=some o->b≠ea:=fun {b o} e z=>by rw [z,hnew] at e;cases e
   have hs0:X.s₀.heap.get? ea=none:=by
    cases q:X.s₀.heap.get? ea with
    | none=>rfl
    | some o=>
     obtain ⟨o1,e1⟩:=I1.there0 O q
     rw [hnew] at e1;cases e1
   have hloc:ea≠X.env.locals:=by
    obtain ⟨_,⟨o,_,_,ho,_⟩,_⟩:=I1.loc
    exact Ne.symm (here ho)
   have hcell:∀ x c,X.env.cells.lookup x=some c->c≠ea:=fun x c e=>by
    obtain ⟨v,o,ho,_⟩:=I1.cell x c e
    exact here ho
   have hpin:∀ p∈X.pn++pins,p.1≠ea:=fun p hp=>here (I1.pin p hp).1
   obtain ⟨oe,vs,q1,q2,q3,_⟩:=fly6.first
   have I7:=I6.track (o:=.ext (zCs ea C)) F.ne hs0 hloc hcell hpin ⟨⟨oe,vs,q1,q2,q3⟩,⟨oe,q1⟩,fun g1 g2 ⟨o,vs,p1,p2,p3⟩ k=>⟨o,vs,k o p1,p2,p3⟩⟩
   have hB:G.B ea=none:=by
    cases q:G.B ea with
    | none=>rfl
    | some o=>
     obtain ⟨o',z2⟩:∃ o',H1 ea=some o':=by
      rcases (R.ext.h.trans sm).k _ _ q with z | ⟨_,ps',_,z⟩
      ·exact ⟨_,z⟩
      ·exact ⟨_,z⟩
     obtain ⟨ob,z3⟩:=(I1.hok ea o' z2).here
     rw [hnew] at z3;cases z3
   have R7:=(R.grow e1).setExc (i:=i) F.ne hB m1
   refine gK I7 hN hi (.inl hk) (v:=.ref ea) rfl (fun s7 I8=>?_) (.inr hk)
   have WH:GoodH (gM X ea):=⟨W.u⟩
   have hfin:∃ ρ',fh (ρ.set i (.exc c))=.ok (.nx ρ')/\Fin X G Hi E (.ok (.nx (ρ'.set i .un))):=by
    cases zz:fh (ρ.set i (.exc c)) with
    | no=>rw [zz] at h;exact h.elim
    | err c'=>rw [zz] at h;exact h.elim
    | ok fl=>
     rw [zz] at h
     cases fl with
     | nx ρ'=>exact ⟨ρ',rfl,h⟩
     | brk ρ'=>exact h.elim
     | ctn ρ'=>exact h.elim
     | ret r=>exact h.elim
   obtain ⟨ρ',zf,hend⟩:=hfin
   have hE:=hh ea WH pins s7 (σ.set i (some (.ref ea))) _ { nx:=fun σ' H2=>E.nx (σ'.set i none) H2,rt:=fun _ _=>False } (I8.clause ea) ⟨ρ.set i (.exc c),Hi',R7,by
    rw [zf]
    exact fun σ2 Hi2 H2 s2 R2=>hend (σ2.set i none) Hi2 H2 (e1.i.trans s2) (Rel.gone (i:=i) (show fG X G Hi2 H2 σ2 ρ' from R2))⟩
   refine wpAny_mono hE (fun fl s8 q=>?_) fun _ _ z=>False.elim z
   cases fl with
   | next=>
    obtain ⟨σ2,H2,I9,q⟩:=q
    exact zEM (Inv.unclause I.ok I9) hN hi hk fun s9 I10=>⟨_,H2,I10,q⟩
   | ret v=>obtain ⟨_,_,_,_,_,q⟩:=q;exact q.elim
   | brk=>obtain ⟨_,_,_,q⟩:=q;exact q.elim
   | cont=>obtain ⟨_,_,_,q⟩:=q;exact q.elim
  ·rw [if_neg htb] at h;exact h.elim
 ·cases f with
  | next=>exact wpAny_execs_nil q
  | ret v=>exact q
  | brk=>exact q
  | cont=>exact q
end
end L3
namespace L3
open PySem PySem.Spec PyProof.Rows L2 PySem.W
unseal PEd PEf PTd PWd PAd PSd bZ POd PGd cX PId PSx dS
def zIH (mg:Str->Option Value) (x:Str) (v:V) (cv:Value):Prop:=bU v cv/\(mg x=some cv∨(mg x=none/\bootBuiltins x=some cv/\x ≠ "__name__"))
def EK (K:Frag) (mg:Str->Option Value) (anc:List (Str×List Str)) (xs:List Str):Prop:=
 ∀ c l,anc.lookup c=some l->∃ C,mg c=some (.ref C)/\ExK K C/\∀ x,xs.contains x=true->∃ v cv,zIH mg x v cv/\(∃ z,(v=.ref z∨∃ T,v=.ty T))/\kitOne K (.ref C) cv=some (l.contains x)
section
variable {X:Cx} {G:Gx} {a:Expr} {p q pos:Pos} {i:Nat} {anc:List (Str×List Str)} {xs:List Str} {x:Str}
theorem zGQ {v:V} {cv:Value} (h:zIH X.mg x v cv) (hg:Gl X x) (hd:(x==("__debug__" : Str))=false):PE X (.Name x q) (tC v):=by
 obtain ⟨r,h | ⟨h1,h2,h3⟩⟩:=h
 ·exact vB hg h r hd
 ·exact eU hg h1 h2 r h3 hd
theorem zGc:jR X (.builtin "isinstance") (fun us H Q=>∃ a C v cv b,us=[.ref a,v]/\H a=some (.ext (zCs a C))/\ExK X.K C/\bU v cv/\kitOne X.K (.ref C) cv=some b/\Q (.bl b) H):=by
 intro pins s σ H us ws Q I r h
 obtain ⟨a,C,v,cv,b,rfl,ha,T,rv,e,q⟩:=h
 obtain ⟨u,w',rfl,rx,rc⟩:=zDY r
 cases (show u=Value.ref a from rx)
 obtain ⟨⟨o,vs,h1,h2,h3⟩,_⟩:=I.hok a _ ha
 have e1:w'=cv:=by
  cases v with
  | ref z=>cases (show w'=Value.ref z from rc);cases (show cv=Value.ref z from rv);rfl
  | ty z=>cases (show w'=Value.type z from rc);cases (show cv=Value.type z from rv);rfl
  | non=>cases (show w'=Value.none from rc);cases (show cv=Value.none from rv);rfl
  | bl z=>cases (show w'=Value.bool z from rc);cases (show cv=Value.bool z from rv);rfl
  | _=>
   exfalso
   obtain ⟨t,rfl⟩:=rv
   unfold kitOne at e
   rw [if_neg (by intro z;cases (beq_iff_eq.mp z))] at e
   simp [kitCls] at e
 subst e1
 exact PySem.W.kia_one (zCB T) I.kIn ⟨o,h1,h2⟩ e (fun z=>nomatch z) fun tk=>⟨.bl b,H,I.tok _,rfl,q⟩
theorem zDO (hK:EK X.K X.mg anc xs) (hx:xs.contains x=true) (hgi:Gl X "isinstance") (hm:X.mg "isinstance" = none) (hv:PE X a (rZ i)) (hg:Gl X x) (hd:(x==("__debug__" : Str))=false:=by decide)
  (h1:starEach [a,.Name x q] X.env=(false,eval a X.env)::starEach [.Name x q] X.env:=by rfl) (h2:starEach [.Name x q] X.env=(false,eval (.Name x q) X.env)::starEach [] X.env:=by rfl) (hpl:(backTo pos (starEach [.Name x q] X.env)).any (·.1)=false:=by rfl):
  PEd X G (.Call (.Name "isinstance" p) [a,.Name x q] [] pos) (zFW anc i [x]):=by
 intro pins s σ H Q I w
 obtain ⟨ρ,Hi,R,ou⟩:=w
 unfold zFW at ou
 cases z:ρ[i]? with
 | none=>rw [z] at ou;exact ou.elim
 | some sl=>
  rw [z] at ou
  cases sl with
  | exc c=>
   obtain ⟨ad,C,o1,o2,o3,o4,o5⟩:=R.slot i _ z
   cases zl:anc.lookup c with
   | none=>simp only [zl] at ou;exact ou.elim
   | some l=>
    simp only [zl] at ou
    obtain ⟨C',m1,T,hxs⟩:=hK c l zl
    rw [o5] at m1
    cases m1
    obtain ⟨v,cv,hcl,_,hk⟩:=hxs x hx
    refine lB zGc hgi hm boot_isinstance (cZ hv (cZ (zGQ hcl hg hd) gB h2) h1) (by decide) (by decide) h1 hpl pins s σ H Q I ?_
    refine ⟨.ref ad,o1,ad,C,v,cv,_,rfl,o2,T,hcl.1,hk,?_⟩
    have:=ou.here R.s (.bl (l.contains x)) (by simpa using IsD.bl (l.contains x))
    exact this
  | un=>exact ou.elim
  | val d=>exact ou.elim
  | own ds=>exact ou.elim
  | tab T=>exact ou.elim
  | ins c fs=>exact ou.elim
end
end L3
namespace L3
open PySem PySem.Spec PyProof.Rows L2 PySem.W
unseal PEd PEf PTd PWd PAd PSd bZ POd PGd cX PId PSx dS
theorem jX {α β:Type} [BEq α] [LawfulBEq α] {a:α} {b:β}:∀ {l:List (α×β)},l.lookup a=some b->(a,b)∈l
 | [],h=>by cases h
 | (x,y)::l,h=>by
  rw [List.lookup_cons] at h
  split at h
  ·rename_i e
   cases h
   rw [beq_iff_eq.mp e]
   exact List.mem_cons_self
  ·exact List.mem_cons_of_mem _ (jX h)
section
variable {K:Frag} {h:Heap} {mg:Str->Option Value} {x c ce:Str} {C CE:Addr}
theorem oP {newId:String} {bmB:List Value} {B initId:String} (X:K.In h) (G:h.Ns mainGlobals mg) (e:nsIn K mainGlobals x=some (some (.ref C))) (q:excIn K C bmB newId=true) (F:ExcBaseFacts B newId initId bmB):∃ C,Err K mg x C:=by
 refine ⟨C,⟨fun h' X'=>⟨bmB,newId,B,initId,⟨mg_of X G e,?_⟩,F⟩⟩⟩
 unfold excIn at q
 split at q
 ·rename_i dd cd sl ho
  split at q
  ·rename_i C' bm k0 k1 k2 k3 n k5 hm hs
   simp only [Bool.and_eq_true,beq_iff_eq,Bool.not_eq_true'] at q
   obtain ⟨⟨⟨⟨⟨rfl,rfl⟩,nX⟩,ht⟩,hok⟩,hni⟩:=q
   obtain ⟨nm,bs,mro,ns,qn,hd,sn,sub,ab,col,del⟩:=cd
   dsimp only at hm nX hok hni
   subst hm nX
   have hsl:sl=#[k0,k1,k2,k3,some (.builtin n),k5]:=by
    obtain ⟨l⟩:=sl
    simp only at hs
    rw [hs]
   subst hsl
   exact ⟨bm,ns,nm,qn,bs,hd,sn,sub,ab,col,dd,k0,k1,k2,k3,k5,_,X' _ _ ho,.of_isNs (isNs_of_in X' hok),nsMap_none_of_in X' hok hni,tail_of_in X' ht⟩
  ·cases q
 ·cases q
theorem zDH (q:hasDictIn K C=true):(clsIn K C).isSome=true:=by
 obtain ⟨cd,hc,_⟩:=any_some q
 rw [hc];rfl
theorem wB (h1:hasDictIn K C=true) (h2:findIn K (.ref C) "__getattribute__" = some (some (.builtin "BaseException.__getattribute__"))) (h3:findIn K (.ref C) "__getattr__" = some none) (h4:findIn K (.ref C) "__class__" = some (some (.builtin "object.__class__")))
  (h5:specialIn K (.builtin "object.__class__") "__get__" = some (some (.builtin "getset_descriptor.__get__"))) (h6:takesIn K (.builtin "object.__class__")=some true) (h7:mroIn K C (.type "object")=some true) (h8:mroIn K C (.type "BaseException")=some true):ExK K C:=
 ⟨zDH h1,h2,h3,h4,h5,h6,h7,h8⟩
theorem zDz (h1:typeIn K (.ref CE)=some (.type "type")) (h2:hasDictIn K CE=true) (h3:mroIn K CE (.type "BaseException")=some true):CaK K CE:=⟨h1,zDH h2,h3⟩
theorem lC (X:K.In h) (G:h.Ns mainGlobals mg) (e:nsIn K mainGlobals x=some (some (.ref C))):zIH mg x (.ref C) (.ref C):=⟨rfl,.inl (mg_of X G e)⟩
end
end L3
namespace L3
open PySem PySem.Spec PyProof.Rows L2
unseal PEd PEf PTd PWd PAd PSd bZ POd PGd cX PId PSx dS
def uA (env:Env):List (Str×NameKind)->List (Str×Addr)->List (Str×Addr)
 | [],cs=>cs
 | (n,k)::r,cs=>uA env r (if k==.free then (n,(env.cells.lookup n).getD 0)::cs else cs)
theorem zDv {env:Env}:∀ (l:List (Str×NameKind)) (cs:List (Str×Addr)),(∀ p∈l,p.2=.free->∃ c,env.cells.lookup p.1=some c)->
  (forIn l cs (fun p (r:List (Str×Addr))=>if (p.2==NameKind.free)=true then (do let a <-cellOf env p.1;pure (ForInStep.yield ((p.1,a)::r))) else pure (ForInStep.yield r)):Sem (List (Str×Addr)))=pure (uA env l cs)
 | [],cs,_=>by simp [uA]
 | (n,k)::r,cs,h=>by
  rw [List.forIn_cons,uA]
  have ih:=fun cs=>zDv r cs fun p hp=>h p (List.mem_cons_of_mem _ hp)
  by_cases e:(k==NameKind.free)=true
  ·obtain ⟨c,hc⟩:=h (n,k) List.mem_cons_self (beq_iff_eq.mp e)
   simp only [e,if_true,cellOf,hc,pure_bind,Option.getD_some]
   exact ih _
  ·simp only [e,Bool.false_eq_true,if_false,pure_bind]
   exact ih _
theorem zDQ {env:Env} {scope:Scope} (h:∀ p∈scope.names,p.2=.free->∃ c,env.cells.lookup p.1=some c):closureFor scope env=pure (uA env scope.names []):=by
 have:=zDv scope.names [] h
 unfold closureFor
 rw [<-this]
 simp
theorem nB {env:Env}:∀ (l:List (Str×NameKind)) (cs:List (Str×Addr)),(∀ p∈l,p.2=.free->∃ c,env.cells.lookup p.1=some c)->(∀ y c,cs.lookup y=some c->env.cells.lookup y=some c)->
  ∀ y c,(uA env l cs).lookup y=some c->env.cells.lookup y=some c
 | [],cs,_,h,y,c,e=>h y c e
 | (n,k)::r,cs,hl,h,y,c,e=>by
  rw [uA] at e
  refine nB r _ (fun p hp=>hl p (List.mem_cons_of_mem _ hp)) (fun y c e=>?_) y c e
  by_cases z:(k==NameKind.free)=true
  ·obtain ⟨c',hc⟩:=hl (n,k) List.mem_cons_self (beq_iff_eq.mp z)
   simp only [z,if_true,List.lookup_cons,hc,Option.getD_some] at e
   cases w:y==n with
   | true=>rw [w] at e;cases e;rw [beq_iff_eq.mp w];exact hc
   | false=>rw [w] at e;exact h y c e
  ·simp only [z,Bool.false_eq_true,if_false] at e
   exact h y c e
theorem wU {env:Env}:∀ (l:List (Str×NameKind)) (cs:List (Str×Addr)) (y:Str),(∃ c,cs.lookup y=some c)->∃ c,(uA env l cs).lookup y=some c
 | [],cs,y,h=>h
 | (n,k)::r,cs,y,⟨c,h⟩=>by
  rw [uA]
  refine wU r _ y ?_
  split
  ·rw [List.lookup_cons]
   cases y==n with
   | true=>exact ⟨_,rfl⟩
   | false=>exact ⟨c,h⟩
  ·exact ⟨c,h⟩
theorem nH {env:Env}:∀ (l:List (Str×NameKind)) (cs:List (Str×Addr)) (y:Str),(y,NameKind.free)∈l->∃ c,(uA env l cs).lookup y=some c
 | (n,k)::r,cs,y,h=>by
  rw [uA]
  rcases List.mem_cons.mp h with e | h
  ·cases e
   refine wU r _ _ ⟨(env.cells.lookup n).getD 0,?_⟩
   simp only [beq_self_eq_true,if_true,List.lookup_cons]
  ·exact nH r _ y h
theorem bB {α:Type}:∀ {l:List (Str×α)} {y:Str} {k:α},l.lookup y=some k->(y,k)∈l
 | (n,k')::r,y,k,h=>by
  rw [List.lookup_cons] at h
  cases z:y==n with
  | true=>rw [z] at h;cases h;rw [beq_iff_eq.mp z];exact List.mem_cons_self
  | false=>rw [z] at h;exact List.mem_cons_of_mem _ (bB h)
theorem bH {env:Env}:∀ {l:List (Str×NameKind)} {y:Str} {k:NameKind},
  (l.map fun (n,k)=>if (k==NameKind.free && env.scope.kind==.function && env.kindOf n==some .cell) then (n,NameKind.cell) else (n,k)).lookup y=some k->
  l.lookup y=some k∨(k=.cell/\l.lookup y=some .free)
 | (n,k')::r,y,k,h=>by
  rw [List.map_cons] at h
  rw [List.lookup_cons]
  by_cases c:(k'==NameKind.free && env.scope.kind==.function && env.kindOf n==some .cell)=true
  ·simp only [c,if_true,List.lookup_cons] at h
   cases z:y==n with
   | true=>
    rw [z] at h
    cases h
    refine .inr ⟨rfl,?_⟩
    simp only [Bool.and_eq_true] at c
    rw [beq_iff_eq.mp c.1.1]
   | false=>rw [z] at h;exact bH h
  ·simp only [c,Bool.false_eq_true,if_false,List.lookup_cons] at h
   cases z:y==n with
   | true=>rw [z] at h;exact .inl h
   | false=>rw [z] at h;exact bH h
def msk (x y:Str):Str:=if y=x then ("" : Str) else y
structure BlkOk (X:Cx) (x:Str) (scope:Scope):Prop where
 kind:scope.kind=.function
 cell:∀ y∈scope.names,y.2≠.cell
 loc:scope.names.lookup x=some .local
 names:∀ y∈scope.names,y.2=.local->scope.names.lookup y.1=some .local
 fre:∀ p∈scope.names,p.2=.free->X.env.kindOf p.1=some .cell∨X.env.kindOf p.1=some .free
 oth:∀ y∈X.N,y≠x->scope.names.lookup y≠some .local
 emp:scope.names.lookup ("" : Str)=none
def cxC (X:Cx) (x:Str) (scope:Scope) (C:Addr) (s₂:Shared) (H₂:Hp) (fp:List Addr):Cx:=
  { prog:=X.prog,w:=X.w,K:=X.K,mg:=X.mg,base:=X.base,A:=X.A,N:=X.N.map (msk x)++[x],s₀:=s₂,H₀:=H₂,env:=compEnvC scope (uA X.env scope.names []) C X.env,outer:=X.stack,stack:=X.stack,
    ex:=fp,fn:=fun _=>false,calm:=X.calm,pn:=X.pn,xe:=fun _ _=>False }
section
variable {X:Cx} {pins:List (Addr×Obj)} {σ:St} {H:Hp} {s₂:Shared} {x:Str} {scope:Scope} {fp:List Addr} {D C:Addr} {h₁:Heap}
theorem BlkOk.cl (B:BlkOk X x scope) (I:Inv X pins σ H s₂):∀ p∈scope.names,p.2=.free->∃ c,X.env.cells.lookup p.1=some c:=fun p hp e=>I.ok.has p.1 (B.fre p hp e)
theorem zIL (I:Inv X pins σ H s₂) (B:BlkOk X x scope) (hfp:∀ b∈fp,kP X pins H b) (hfl:∀ b∈fp,b < s₂.heap.objs.size) (hD:s₂.heap.objs.size<=D) (hC:s₂.heap.objs.size<=C) (hDC:D≠C)
  (old:∀ b o,s₂.heap.get? b=some o->h₁.get? b=some o) {n:Nat} (hacc:h₁.get? D=some { cls:=.type "list", data:=.seq ([]:List Value).toArray n }) {m:Str->Option Value} (hns:h₁.Ns C m) (t:Nat):
  Inv (cxC X x scope C s₂ H fp) pins (σ++[none]) (upd H D (.lst [])) { s₂ with heap:=h₁,toks:=t }:=by
 have sub:=nB scope.names [] (B.cl I) (fun y c e=>nomatch e)
 have old_lt:∀ {b:Addr} {o:Obj},s₂.heap.get? b=some o->b≠D/\b≠C:=fun e=>⟨Nat.ne_of_lt (Nat.lt_of_lt_of_le (Heap.lt_size e) hD),Nat.ne_of_lt (Nat.lt_of_lt_of_le (Heap.lt_size e) hC)⟩
 have free:∀ {b:Addr},b≠D->H b=none->upd H D (.lst []) b=none:=fun n e=>by rw [aJ n];exact e
 refine ⟨⟨I.ok.mod,B.kind,I.ok.glob,I.ok.blt,hC,fun y z c e1 e2=>I.ok.inj y z c (sub y c e1) (sub z c e2),fun y hy=>?_,fun y c e=>(nomatch e),I.ok.hd,I.ok.frames,.inl rfl,fun b hb=>⟨Nat.ne_of_lt (Nat.lt_of_lt_of_le (hfl b hb) hC),fun y c e=>(hfp b hb).2.2.2.2.1 y c (sub y c e)⟩,
  I.bs,Nat.le_trans I.ok.bsz I.sz,fun b o e hb=>?_,fun b hb z=>?_,I.stack,I.stkFree⟩,rfl,I.bare,Un.laid old hD (I.hok.fresh hD),⟨m,hns,fun i y v e1 e2 e3=>?_⟩,fun y c e=>?_,free (Ne.symm hDC) (I.hok.fresh hC),fun y c e=>?_,fun p hp=>?_,I.hok.laid old hD ⟨Nat.zero_le _,[],n,.nil,hacc⟩,?_⟩
 ·have:∃ k,(k=NameKind.cell∨k=NameKind.free)/\((relabel scope X.env).names).lookup y=some k:=hy.elim (fun h=>⟨_,.inl rfl,h⟩) fun h=>⟨_,.inr rfl,h⟩
  obtain ⟨k,hk,e⟩:=this
  have e':(y,NameKind.free)∈scope.names:=by
   rcases bH e with z | ⟨_,z⟩
   ·rcases hk with rfl | rfl
    ·exact absurd rfl (B.cell _ (bB z))
    ·exact bB z
   ·exact bB z
  exact nH scope.names [] y e'
 ·rcases (hfp b hb).2.2.2.1 with z | z
  ·exact I.ok.noex b o e z
  ·exact absurd (Nat.lt_of_lt_of_le (Heap.lt_size e) (Nat.le_trans I.ok.bsz z)) (Nat.lt_irrefl _)
 ·rcases List.mem_cons.mp (I.stkSub b z) with w | w
  ·exact (hfp b hb).2.1 w
  ·exact (hfp b hb).2.2.1 w
 ·
  have hi:i < σ.length:=by
   by_cases hi:i < σ.length
   ·exact hi
   ·exfalso
    rw [List.getElem?_append_right (by omega)] at e2
    cases q:i - σ.length with
    | zero=>rw [q] at e2;cases e2
    | succ j=>rw [q] at e2;cases e2
  rw [List.getElem?_append_left hi] at e2
  have e1':(X.N.map (msk x)++[x])[i]?=some y:=e1
  rw [List.getElem?_append_left (by rw [List.length_map,<-I.len];exact hi),List.getElem?_map] at e1'
  cases q:X.N[i]? with
  | none=>rw [q] at e1';cases e1'
  | some z=>
   rw [q] at e1'
   have e1'':msk x z=y:=Option.some.inj e1'
   have hz:z∈X.N:=List.mem_of_getElem? q
   have vis:∃ k,((relabel scope X.env).names).lookup y=some k:=e3.elim (fun h=>⟨_,h⟩) fun h=>h.elim (fun h=>⟨_,h⟩) fun h=>⟨_,h⟩
   have hzx:z≠x:=fun w=>by
    obtain ⟨k,hk⟩:=vis
    have:y=("" : Str):=by rw [<-e1'',w];exact if_pos rfl
    rw [this] at hk
    rcases bH hk with h | ⟨_,h⟩<;>(rw [B.emp] at h;cases h)
   have hy:z=y:=by rw [<-e1''];exact (if_neg hzx).symm
   subst hy
   have fr:(z,NameKind.free)∈scope.names:=by
    rcases e3 with h | h | h
    ·rcases bH h with h | ⟨h,_⟩
     ·exact absurd h (B.oth z hz hzx)
     ·cases h
    ·rcases bH h with h | ⟨_,h⟩
     ·exact absurd rfl (B.cell _ (bB h))
     ·exact bB h
    ·rcases bH h with h | ⟨h,_⟩
     ·exact bB h
     ·cases h
   have kd:=B.fre _ fr rfl
   obtain ⟨m0,hn0,hl⟩:=I.loc
   obtain ⟨u,ru,lk⟩:=hl i z v q e2 (kd.elim (fun h=>.inr (.inl h)) fun h=>.inr (.inr h))
   refine ⟨u,ru,.inr ⟨?_,?_⟩⟩
   ·rcases e3 with h | h | h
    ·rcases bH h with h | ⟨h,_⟩
     ·exact absurd h (B.oth z hz hzx)
     ·cases h
    ·exact .inl h
    ·exact .inr h
   ·rcases lk with ⟨k1,_⟩ | ⟨_,c,hc,hcell⟩
    ·rcases kd with kd | kd<;>(rw [kd] at k1;cases k1)
    ·obtain ⟨c',hc'⟩:=nH (env:=X.env) scope.names [] z fr
     have:=sub z c' hc'
     rw [hc] at this
     cases this
     obtain ⟨o,ho,hd⟩:=hcell
     exact ⟨c,hc',o,old _ _ ho,hd⟩
 ·obtain ⟨v,o,ho,hd⟩:=I.cell y c (sub y c e)
  exact ⟨v,o,old _ _ ho,hd⟩
 ·obtain ⟨v,o,ho,hd⟩:=I.cell y c (sub y c e)
  exact free (old_lt ho).1 (I.freeC y c (sub y c e))
 ·obtain ⟨e,n,ne,nf,d⟩:=I.pin p hp
  refine ⟨old _ _ e,free (old_lt e).1 n,(old_lt e).2,fun z=>?_,d⟩
  rcases List.mem_cons.mp (I.stkSub _ z) with w | w
  ·exact ne w
  ·exact nf w
 ·show (σ++[none]).length=(X.N.map (msk x)++[x]).length
  rw [List.length_append,List.length_append,List.length_map,I.len];rfl
end
end L3
namespace L3
open PySem PySem.Spec PyProof.Rows L2
unseal PEd PEf PTd PWd PAd PSd bZ POd PGd cX PId PSx dS
section
variable {K:PySem.W.Frag} {mg:Str->Option Value} {B Bi Hi H Hi' H':Hp} {σ:St} {ρ:Rho}
theorem Rel.snoc {v:V} {d:D} (R:Rel K mg B Bi Hi H σ ρ) (h:IsD K Hi v d):Rel K mg B Bi Hi H (σ++[some v]) (ρ++[.val d]) where
 len:=by rw [List.length_append,List.length_append,R.len];rfl
 ext:=R.ext
 slot:=fun j s q=>by
  by_cases hl:j < ρ.length
  ·rw [List.getElem?_append_left hl] at q
   rw [List.getElem?_append_left (by rw [R.len];exact hl)]
   exact R.slot j s q
  ·rw [List.getElem?_append_right (by omega)] at q
   rw [List.getElem?_append_right (by rw [R.len];omega),R.len]
   cases z:j - ρ.length with
   | zero=>rw [z] at q;cases q;exact ⟨v,rfl,h⟩
   | succ n=>rw [z] at q;cases q
 dist:=fun j k a ds es q1 q2 q3 q4=>by
  have own:∀ {j:Nat} {ds:List D},(ρ++[Sl.val d])[j]?=some (.own ds)->j < ρ.length:=fun {j ds} q=>by
   by_cases hl:j < ρ.length
   ·exact hl
   ·rw [List.getElem?_append_right (by omega)] at q
    cases z:j - ρ.length with
    | zero=>rw [z] at q;cases q
    | succ n=>rw [z] at q;cases q
  have h1:=own q1
  have h2:=own q2
  rw [List.getElem?_append_left h1] at q1
  rw [List.getElem?_append_left h2] at q2
  rw [List.getElem?_append_left (by rw [R.len];exact h1)] at q3
  rw [List.getElem?_append_left (by rw [R.len];exact h2)] at q4
  exact R.dist j k a ds es q1 q2 q3 q4
theorem Ext.rewrite {a:Addr} {o:HO} (e:Ext Hi H Hi' H') (hn:H a=none) (hi:Hi' a=none) (hl:∃ xs,H' a=some (.lst xs)):Ext Hi H Hi' (upd H' a o) where
 i:=e.i
 h:=⟨fun b u z=>by rw [aJ (aM z hn)];exact e.h.k _ _ z,fun P z=>by
  obtain ⟨xs,hl⟩:=hl
  exact (e.h.t P z).put (fun ps y=>by rw [hl] at y;cases y) (fun ob u y=>by rw [hl] at y;cases y)⟩
 s:=fun b u z=>by rw [aJ (aM z hi)];exact e.s _ _ z
 n:=e.n
theorem IsDs.snoc {v:V} {d:D} (h:IsD K H v d):∀ {vs:List V} {ds:List D},IsDs K H vs ds->IsDs K H (vs++[v]) (ds++[d])
 | _,_,.nil=>.cons h .nil
 | _,_,.cons r t=>.cons r (IsDs.snoc h t)
end
theorem pX {α:Type} {r:Res α} {a:α} (h:noErr r=.ok a):r=.ok a:=by
 cases r with
 | ok b=>exact h
 | err c=>cases h
 | no=>cases h
theorem yP {t:Tv} {f:Ev} {ρ:Rho} {d:D} {ds es:List D} (h:eI t f ρ (d::ds)=.ok es):
  (t (ρ++[.val d])=.ok false/\eI t f ρ ds=.ok es)∨(t (ρ++[.val d])=.ok true/\∃ e es',f (ρ++[.val d])=.ok e/\eI t f ρ ds=.ok es'/\es=e::es'):=by
 rw [eI] at h
 cases ht:noErr (t (ρ++[.val d])) with
 | no=>rw [ht] at h;cases h
 | err c=>rw [ht] at h;cases h
 | ok c=>
  rw [ht] at h
  have ht':=pX ht
  cases c with
  | false=>exact .inl ⟨ht',h⟩
  | true=>
   refine .inr ⟨ht',?_⟩
   have h':((noErr (f (ρ++[.val d]))).bind fun e=>(eI t f ρ ds).bind fun es=>.ok (e::es))=.ok es:=h
   cases hf:noErr (f (ρ++[.val d])) with
   | no=>rw [hf] at h';cases h'
   | err c=>rw [hf] at h';cases h'
   | ok e=>
    rw [hf] at h'
    have h'':((eI t f ρ ds).bind fun es=>.ok (e::es))=.ok es:=h'
    cases hr:eI t f ρ ds with
    | no=>rw [hr] at h'';cases h''
    | err c=>rw [hr] at h'';cases h''
    | ok es'=>
     rw [hr] at h''
     cases h''
     exact ⟨e,es',pX hf,rfl,rfl⟩
theorem rA {t:Tv} {f:Ev} {ρ:Rho} {c:Str}:∀ {ds:List D},eI t f ρ ds≠.err c
 | []=>fun h=>by cases h
 | d::ds=>fun h=>by
  rw [eI] at h
  cases ht:noErr (t (ρ++[.val d])) with
  | no=>rw [ht] at h;cases h
  | err c=>cases q:t (ρ++[.val d])<;>(rw [q] at ht;cases ht)
  | ok b=>
   rw [ht] at h
   cases b with
   | false=>exact rA h
   | true=>
    have h':((noErr (f (ρ++[.val d]))).bind fun e=>(eI t f ρ ds).bind fun es=>.ok (e::es))=.err c:=h
    cases hf:noErr (f (ρ++[.val d])) with
    | no=>rw [hf] at h';cases h'
    | err c=>cases q:f (ρ++[.val d])<;>(rw [q] at hf;cases hf)
    | ok e=>
     rw [hf] at h'
     cases hr:eI t f ρ ds with
     | no=>simp only [Res.bind,hr] at h';cases h'
     | err c'=>exact rA hr
     | ok es=>simp only [Res.bind,hr] at h';cases h'
@[irreducible] def PTs (X:Cx) (G:Gx) (ifs:List Expr) (t:Tv):Prop:=
 ∀ (pins:List (Addr×Obj)) (s:Shared) (σ:St) (H:Hp) (Q:Bool->Hp->Prop),Inv X pins σ H s->tTb X G t σ H Q->
  wpAny (model X.prog X.w) X.A (forIn ifs true fun c r=>if r=true then do let ok <-isTrue c X.env (eval c X.env);pure (ForInStep.yield ok) else pure (ForInStep.yield r)) (TP X pins σ Q) X.xe s
unseal PTs
theorem zDK {X:Cx} {G:Gx}:PTs X G [] xC:=fun pins s σ H Q I ⟨ρ,Hi,R,o⟩=>wpAny_tests_nil ⟨H,I,Out.here (a:=true) o R.s⟩
end L3
namespace L3
open PySem PySem.Spec PyProof.Rows L2
unseal PEd PEf PTd PWd PAd PSd bZ POd PGd cX PId PSx dS PTs
section
variable {X:Cx} {G:Gx} {elt iter:Expr} {x:Str} {px pos:Pos} {ifs:List Expr} {scope:Scope} {it:Fv} {t:Tv} {f:Ev} {k:Nat}
theorem zEy {M:Model} {A:Around} {α:Type} {m:Sem α} {itv u:Value} {s:Shared} {Q1:Unit->Shared->Prop} {R1:α->Shared->Prop} {E:Value->Shared->Prop} (h:wpAny M A (letOwnedTupleGo (.Name x px) itv u) Q1 E s)
  (k:∀ s5,Q1 () s5->wpAny M A m R1 E s5):wpAny M A m R1 E s:=by
 have key:=wpAny_bind (f:=fun _:Unit=>m) (wpAny_mono h (fun _ s5 h5=>k s5 h5) fun _ _ z=>z)
 have e:(letOwnedTupleGo (.Name x px) itv u >>= fun _=>m)=m:=pure_bind () fun _=>m
 rw [e] at key
 exact key
theorem zAN {N:List Str} (hN:N.Nodup) (h0:("" : Str)∉N) (hx:x≠("" : Str)):(N.map (msk x)++[x]).Nodup:=by
 rw [List.nodup_append]
 refine ⟨?_,List.nodup_cons.mpr ⟨by simp,List.nodup_nil⟩,fun a ha b hb e=>?_⟩
 ·induction N with
  | nil=>exact List.nodup_nil
  | cons y N ih=>
   rw [List.map_cons,List.nodup_cons]
   obtain ⟨hy,hN⟩:=List.nodup_cons.mp hN
   refine ⟨fun hm=>?_,ih hN fun z=>h0 (List.mem_cons_of_mem _ z)⟩
   obtain ⟨z,hz,e⟩:=List.mem_map.mp hm
   unfold msk at e
   by_cases c1:z=x
   ·by_cases c2:y=x
    ·exact hy (by rw [c2,<-c1];exact hz)
    ·rw [if_pos c1,if_neg c2] at e;exact h0 (by rw [e];exact List.mem_cons_self)
   ·by_cases c2:y=x
    ·rw [if_neg c1,if_pos c2] at e;exact h0 (by rw [<-e];exact List.mem_cons_of_mem _ hz)
    ·rw [if_neg c1,if_neg c2] at e;exact hy (by rw [<-e];exact hz)
 ·obtain ⟨z,hz,e1⟩:=List.mem_map.mp ha
  rw [List.mem_singleton] at hb
  subst hb
  subst e
  unfold msk at e1
  split at e1
  ·exact hx e1.symm
  ·rename_i c;exact c e1
structure CW where
 i:Nat
 v:List (Option V)
 H:Hp
 Hi:Hp
 ys:List V
 done:List D
 rest:List D
structure CS (Y:Cx) (pins:List (Addr×Obj)) (σ:St) (tn:Nat->Heap->Prop) (fp:List Addr) (Hi2 H2:Hp) (a:Addr) (m:Nat) (cp:Nat->Res (List D)) (es:List D) (c:CW) (s':Shared):Prop where
 inv:Inv Y pins (σ++c.v) c.H s'
 wid:c.v.length=m
 tn:tn c.i s'.heap
 fr:∀ b∈fp,c.H b=none
 ext:Ext Hi2 H2 c.Hi c.H
 acc:c.H a=some (.lst c.ys)
 hi:c.Hi a=none
 isd:IsDs Y.K c.Hi c.ys c.done
 len:c.done.length<=c.i
 cmp:cp c.i=.ok c.rest
 all:es=c.done++c.rest
def zJC (X:Cx) (pins:List (Addr×Obj)) (σ:St) (use:Option (Value->Sem Unit)) (Q':Value->Shared->Prop) (Qa:Addr->Hp->Prop):Prop:=
 ∀ (C A:Addr) (m:Str->Option Value) (s4:Shared) (H3:Hp),s4.heap.Ns C m->(∀ h',Heap.SameBut C s4.heap h'->Inv X pins σ H3 { s4 with heap:=h' })->kP X pins H3 C->Qa A H3->
  compPost (model X.prog X.w) X.A X.xe use Q' (.ref A) C (.ok .next) s4
theorem zA (hc:X.calm=true/\TB X.K X.mg G.Bi G.B) (hr:Room k X.A) (Bk:BlkOk X x scope) (hN:X.N.Nodup) (h0:("" : Str)∉X.N) (hx0:x≠("" : Str)) (hi:PId X G (.Name x px) iter it)
  (hb:∀ (C:Addr) (s₂:Shared) (H₂:Hp) (fp:List Addr) (G':Gx),Good (cxC X x scope C s₂ H₂ fp) G' k->PTs (cxC X x scope C s₂ H₂ fp) G' ifs t/\PEd (cxC X x scope C s₂ H₂ fp) G' elt f)
  (hs:∀ x,foldedSetIterable iter X.env x=pure x:=by intro _;rfl)
  {pins:List (Addr×Obj)} {s:Shared} {σ:St} {H Hi:Hp} {ρ:Rho} {use:Option (Value->Sem Unit)} {Q':Value->Shared->Prop} {Qa:Addr->Hp->Prop} {cpos:Pos} (I:Inv X pins σ H s) (R:fG X G Hi H σ ρ)
  (ou:Out G Hi H ((xV it t f) ρ) fun ds Hi' H'=>∀ a,zBZ X.K H Hi' H' a ds->Qa a H') (hend:zJC X pins σ use Q' Qa):
  wpAny (model X.prog X.w) X.A (comprehension (.ListComp elt [⟨.Name x px,iter,ifs,0⟩] scope pos) scope X.env cpos (newList []) false (eval iter X.env) use) Q' X.xe s:=by
 refine wpAny_comprehension_free (use:=use) rfl hs (zDQ (Bk.cl I)) Bk.kind Bk.names ?_
 refine thn (hi pins s σ H (fun J H2=>∃ ds Hi2,Ext Hi H Hi2 H2/\Gives X.K Hi2 J ds/\Out G Hi2 H2 (if ds.length<=16777215 then eI t f ρ ds else .no) fun ds Hi' H'=>∀ a,zBZ X.K H Hi' H' a ds->Qa a H') I
  ⟨ρ,Hi,R,(Out.bind ou).imp fun ds Hi2 H2 e2 o2 J gv=>⟨ds,Hi2,e2,gv,o2⟩⟩) fun v s1 h1=>thn h1 fun itv s2 h2=>?_
 obtain ⟨itA,fp,tn,J,H2,rfl,I2,T,st2,f2,ds,Hi2,e2,gv,ou2⟩:=h2
 have hlen:ds.length<=16777215:=by
  by_cases hlen:ds.length<=16777215
  ·exact hlen
  ·rw [if_neg hlen] at ou2;exact ou2.elim
 rw [if_pos hlen] at ou2
 cases hes:eI t f ρ ds with
 | no=>rw [hes] at ou2;exact ou2.elim
 | err c=>exact absurd hes rA
 | ok es=>
  rw [hes] at ou2
  have R2:fG X G Hi2 H2 σ ρ:=R.grow e2
  refine wpAny_newObj_type (wpAny_newFunctionEnv Bk.cell (by intro y hy;simp at hy) (fun h₁ hns₁ hsb₁=>?_) Bk.kind)
  dsimp only at hns₁ hsb₁ ⊢
  generalize hH2:s2.heap.push { cls:=.type "list", dict:=none,data:=.seq ([]:List Value).toArray }=HP at hns₁ hsb₁ ⊢
  have hC:HP.objs.size=s2.heap.objs.size+1:=by rw [<-hH2,Heap.size_push]
  have hDC:s2.heap.objs.size≠HP.objs.size:=by rw [hC];omega
  have ltC:∀ {b:Addr} {o:Obj},s2.heap.get? b=some o->b≠HP.objs.size:=fun e=>by rw [hC];exact Nat.ne_of_lt (Nat.lt_succ_of_lt (Heap.lt_size e))
  have old:∀ b o,s2.heap.get? b=some o->h₁.get? b=some o:=fun b o e=>hsb₁.extBut b o (ltC e) (Heap.get?_push_of_some _ (hH2 ▸ Heap.get?_push_of_some _ e))
  have hacc:h₁.get? s2.heap.objs.size=some { cls:=.type "list", data:=.seq ([]:List Value).toArray 0 }:=hsb₁.extBut _ _ hDC (Heap.get?_push_of_some _ (hH2 ▸ Heap.get?_push_size _ rfl))
  have hfl:∀ b∈fp,b < s2.heap.objs.size:=fun b hb=>by obtain ⟨o,e,_⟩:=T.obj _ _ st2 b hb;exact Heap.lt_size e
  have IE:=zIL (t:=s2.toks+([]:List (Str×Value)).length) I2 Bk f2 hfl (Nat.le_refl _) (by rw [hC];omega) hDC old hacc hns₁
  have sub:=nB scope.names [] (Bk.cl I2) (fun y c e=>nomatch e)
  have H2D:H2 s2.heap.objs.size=none:=I2.hok.fresh (Nat.le_refl _)
  have HD:H s2.heap.objs.size=none:=e2.h.none H2D
  have Hi2D:Hi2 s2.heap.objs.size=none:=e2.s.none H2D
  generalize hX:cxC X x scope HP.objs.size s2 H2 fp=Y at IE
  have GY:Good Y ⟨G.B,G.Bi,fun _ _=>False⟩ k:=by
   subst hX
   exact ⟨hc.1,hr,fun pins σ H s e s' _ h=>by obtain ⟨_,_,_,_,_,c,_,z⟩:=h;exact z.elim,PassesOwn.never,hc.2⟩
  obtain ⟨hts,hel⟩:=(hX ▸ hb HP.objs.size s2 H2 fp ⟨G.B,G.Bi,fun _ _=>False⟩ (hX.symm ▸ GY):PTs Y ⟨G.B,G.Bi,fun _ _=>False⟩ ifs t/\PEd Y ⟨G.B,G.Bi,fun _ _=>False⟩ elt f)
  have stat:∀ {H':Hp},(∀ b∈fp,H' b=none)->∀ b∈fp,kP Y pins H' b:=fun hn b hb=>by
   subst hX
   refine ⟨hn b hb,?_,fun z=>?_,.inl hb,fun y c e=>(f2 b hb).2.2.2.2.1 y c (sub y c e),(f2 b hb).2.2.2.2.2⟩
   ·show b≠HP.objs.size
    rw [hC];exact Nat.ne_of_lt (Nat.lt_succ_of_lt (hfl b hb))
   ·rcases List.mem_cons.mp (I2.stkSub b z) with w | w
    ·exact (f2 b hb).2.1 w
    ·exact (f2 b hb).2.2.1 w
  have YN:Y.N.Nodup:=by subst hX;exact zAN hN h0 hx0
  have Yx:Y.N[σ.length]?=some x:=by
   subst hX
   show (X.N.map (msk x)++[x])[σ.length]?=some x
   rw [List.getElem?_append_right (by rw [List.length_map,I2.len];omega),List.length_map,I2.len,Nat.sub_self]
   rfl
  have Yl:Y.env.scope.names.lookup x=some .local:=by subst hX;exact lookup_relabel_local Bk.loc
  have Ye:Y.env=compEnvC scope (uA X.env scope.names []) HP.objs.size X.env:=by subst hX;rfl
  have Yxe:∀ e s,¬ Y.xe e s:=by subst hX;exact fun _ _ h=>h
  have tn1:tn 0 h₁:=T.keep _ _ _ st2 fun b _ o e=>old b o e
  have loop:∀ s3:Shared,s3={ s2 with heap:=h₁,toks:=s2.toks+([]:List (Str×Value)).length }->
    codeAny (model X.prog X.w) X.A (.compLoop (.ListComp elt [⟨.Name x px,iter,ifs,0⟩] scope pos) 0 (.ref itA) (.ref s2.heap.objs.size) Y.env) (compPost (model X.prog X.w) X.A X.xe use Q' (.ref s2.heap.objs.size) HP.objs.size) s3:=by
   rintro s3 rfl
   subst hX
   have fr0:∀ b∈fp,upd H2 s2.heap.objs.size (.lst []) b=none:=fun b hb=>by
    rw [aJ (Nat.ne_of_lt (hfl b hb))]
    exact (f2 b hb).1
   refine codeAny_compLoop_tests (fun n s'=>∃ c:CW,n=ds.length - c.i/\CS (cxC X x scope HP.objs.size s2 H2 fp) pins σ tn fp Hi2 H2 s2.heap.objs.size 1 (fun i=>eI t f ρ (ds.drop i)) es c s') ?_ ds.length
    ⟨⟨0,[none],_,Hi2,[],[],es⟩,rfl,⟨IE,rfl,tn1,fr0,(Ext.refl e2.s).trans (Ext.newF e2.s H2D),aI,Hi2D,.nil,Nat.le_refl _,hes,rfl⟩⟩
   ·rintro n s3 ⟨⟨i,vv,H3,Hi3,ys,done,rest⟩,rfl,I3,wd3,st3,fr3,e3,hD3,hiD3,rd3,hl3,hr3,hes3⟩
    dsimp only at I3 wd3 st3 fr3 e3 hD3 hiD3 rd3 hl3 hr3 hes3 ⊢
    obtain ⟨v,rfl⟩:∃ v,vv=[v]:=by
     match vv,wd3 with
     | [v],_=>exact ⟨v,rfl⟩
    obtain ⟨w1,w2⟩:=gv Hi3 H3 e3.i e3.s i
    have lift:∀ {α:Type} {m:Sem α} {Q':α->Shared->Prop} {E:Value->Shared->Prop} {s':Shared},wpAny (model X.prog X.w) X.A m Q' (cxC X x scope HP.objs.size s2 H2 fp).xe s'->wpAny (model X.prog X.w) X.A m Q' E s':=fun h=>wpAny_mono h (fun _ _ z=>z) fun e s z=>(Yxe e s z).elim
    by_cases hlt:i < ds.length
    ·obtain ⟨d,hd⟩:∃ d,ds[i]?=some d:=⟨_,List.getElem?_eq_getElem hlt⟩
     obtain ⟨go,yl⟩:=w2 d hd
     have e4:ds.drop i=d::ds.drop (i+1):=by
      rw [List.getElem?_eq_getElem hlt] at hd
      cases hd
      exact List.drop_eq_getElem_cons hlt
     rw [e4] at hr3
     refine thn (T.item (cxC X x scope HP.objs.size s2 H2 fp) rfl rfl rfl hc.1 i pins s3 _ H3 _ I3 (stat fr3) st3 go) fun r s4 ⟨u,hru,h4⟩=>?_
     subst hru
     refine zEy h4 fun s5 h5=>?_
     obtain ⟨xv,H5,I5,r5,y5,st5,fr5⟩:=h5
     obtain ⟨Hi5,e5,rd5⟩:=yl xv H5 y5
     have I5':=I5.pinned (stat fr5) (T.obj _ _ st5)
     refine wpAny_assign_Name (gK I5' YN Yx (.inl Yl) r5 (fun s6 I6=>?_) (.inr Yl))
     have es6:(σ++[v]).set σ.length (some xv)=σ++[some xv]:=by rw [List.set_append_right _ _ (Nat.le_refl _),Nat.sub_self];rfl
     rw [es6] at I6
     have E5:Ext Hi2 H2 Hi5 H5:=e3.trans e5
     have R5:fG (cxC X x scope HP.objs.size s2 H2 fp) ⟨G.B,G.Bi,fun _ _=>False⟩ Hi5 H5 (σ++[some xv]) (ρ++[.val d]):=Rel.snoc (R2.grow E5) rd5
     obtain ⟨hD5,hiD5⟩:=e5.out hD3 hiD3
     have rd5':=rd3.mono e5.i
     have again:∀ {H8 Hi8:Hp} {ys':List V} {done' rest':List D} {s8:Shared},Inv (cxC X x scope HP.objs.size s2 H2 fp) (pins++mP fp s5.heap) (σ++[some xv]) H8 s8->Ext Hi2 H2 Hi8 H8->H8 s2.heap.objs.size=some (.lst ys')->Hi8 s2.heap.objs.size=none->IsDs X.K Hi8 ys' done'->done'.length<=i+1->
       eI t f ρ (ds.drop (i+1))=.ok rest'->es=done'++rest'->∃ m,m < ds.length - i/\∃ c:CW,m=ds.length - c.i/\CS (cxC X x scope HP.objs.size s2 H2 fp) pins σ tn fp Hi2 H2 s2.heap.objs.size 1 (fun i=>eI t f ρ (ds.drop i)) es c s8:=fun {H8 Hi8 ys' done' rest' s8} I8 E8 a1 a2 a3 a4 a5 a6=>by
      refine ⟨ds.length - (i+1),by omega,⟨i+1,[some xv],H8,Hi8,ys',done',rest'⟩,rfl,⟨I8.unpinned,rfl,T.keep _ _ _ st5 fun b hb o e=>(I8.pin (b,o) (List.mem_append_right _ (List.mem_append_right _ (cM hb e)))).1,fun b hb=>?_,E8,a1,a2,a3,a4,a5,a6⟩⟩
      obtain ⟨o,e,_⟩:=T.obj _ _ st5 b hb
      exact (I8.pin (b,o) (List.mem_append_right _ (List.mem_append_right _ (cM hb e)))).2.1
     rcases yP hr3 with ⟨ht,hr4⟩ | ⟨ht,e,es',hf,hr4,hee⟩
     ·refine lift (thn (hts _ s6 _ H5 (fun b H'=>b=false/\∃ Hi',Ext Hi5 H5 Hi' H') I6 ⟨_,Hi5,R5,by rw [ht];exact fun Hi' H' e=>⟨rfl,Hi',e⟩⟩) fun b s7 h7=>?_)
      obtain ⟨H7,I7,rfl,Hi7,e7⟩:=h7
      obtain ⟨hD7,hiD7⟩:=e7.out hD5 hiD5
      exact again I7 (E5.trans e7) hD7 hiD7 (rd5'.mono e7.i) (by omega) hr4 hes3
     ·refine lift (thn (hts _ s6 _ H5 (fun b H'=>b=true/\∃ Hi',Ext Hi5 H5 Hi' H') I6 ⟨_,Hi5,R5,by rw [ht];exact fun Hi' H' e=>⟨rfl,Hi',e⟩⟩) fun b s7 h7=>?_)
      obtain ⟨H7,I7,rfl,Hi7,e7⟩:=h7
      obtain ⟨hD7,hiD7⟩:=e7.out hD5 hiD5
      simp only [if_true]
      refine lift (thn (hel _ s7 _ H7 (fun w H'=>∃ Hi',Ext Hi7 H7 Hi' H'/\IsD X.K Hi' w e) I7 ⟨_,Hi7,R5.grow e7,by rw [hf];exact fun Hi' H' ee w hw=>⟨Hi',ee,hw⟩⟩) fun u8 s8 h8=>?_)
      obtain ⟨w8,H8,I8,r8,Hi8,e8,rw8⟩:=h8
      obtain ⟨hD8,hiD8⟩:=e8.out hD7 hiD7
      have rdy:IsDs X.K Hi8 ys done:=(rd5'.mono e7.i).mono e8.i
      refine lift (thn (lT (X:=(cxC X x scope HP.objs.size s2 H2 fp)) _ s8 _ H8 (.ref s2.heap.objs.size) [w8] (.ref s2.heap.objs.size) [u8] (fun _ H'=>H'=upd H8 s2.heap.objs.size (.lst (ys++[w8]))) I8 rfl (.cons r8 .nil) ⟨_,ys,w8,rfl,rfl,hD8,?_,rfl⟩) fun _ s9 h9=>?_)
      ·rw [rdy.length]
       exact Nat.lt_of_le_of_lt hl3 (Nat.lt_of_lt_of_le hlt (Nat.le_trans hlen (by decide)))
      ·obtain ⟨_,H9,I9,_,rfl⟩:=h9
       refine again I9 (Ext.rewrite ((E5.trans e7).trans e8) H2D hiD8 ⟨_,hD8⟩) aI hiD8 (rdy.snoc rw8) (by rw [List.length_append];exact Nat.succ_le_succ hl3) hr4 ?_
       rw [hes3,hee,List.append_assoc];rfl
    ·rw [List.drop_eq_nil_of_le (by omega),eI] at hr3
     cases hr3
     refine thn (T.done (cxC X x scope HP.objs.size s2 H2 fp) rfl rfl rfl hc.1 i pins s3 _ H3 _ I3 (stat fr3) st3 (w1 (by omega))) fun r s4 ⟨hrn,I4⟩=>?_
     subst hrn
     obtain ⟨m4,hn4,_⟩:=I4.loc
     have fC:H3 HP.objs.size=none:=I4.free
     have nC:∀ b u,H3 b=some u->b≠HP.objs.size:=fun b u e z=>by rw [z,fC] at e;cases e
     have U4:=I4.base
     refine hend HP.objs.size s2.heap.objs.size m4 s4 H3 hn4 (fun h' hs'=>?_) (I2.fpOk (by rw [hC];omega) fC) ?_
     ·have kp:∀ b o,b≠HP.objs.size->s4.heap.get? b=some o->h'.get? b=some o:=fun b o hb e=>hs'.extBut b o hb e
      refine Inv.call' I2 (ch:=fp) I4.os ⟨fun b o e n hb hx=>kp b o (ltC e) (U4.keep b o e n hb hx),fun b o e n hb hx=>?_,U4.free,fun b o e hx=>?_,U4.tups,U4.frzs,U4.tbls⟩ (fun b u e=>?_) I4.bare (fun b hb=>⟨(f2 b hb).2.2.2.1,(f2 b hb).2.1,(f2 b hb).2.2.2.2.1,(f2 b hb).2.2.2.2.2⟩)
      ·obtain ⟨sl,q⟩:=U4.slot b o e n hb hx
       exact ⟨sl,kp b _ (ltC e) q⟩
      ·obtain ⟨o',q⟩:=U4.there b o e hx
       exact ⟨o',kp b _ (ltC e) q⟩
      ·refine (I4.hok b u e).stay (fun c v hc q=>kp c v ?_ q) (fun _ q=>q) fun _ _ q=>q
       rcases hc with z | z
       ·rw [z];exact nC b u e
       ·exact nC c _ z
     ·refine ou2 Hi3 H3 e3 _ ⟨HD,hiD3,ys,hD3,?_⟩
      rw [hes3,List.append_nil]
      exact rd3
  rw [Ye] at loop
  exact codeAny_compStart_list (loop _ rfl) (T.self _ 0 _ _ _ tn1 (loop _ rfl))
theorem zFv (hc:X.calm=true/\TB X.K X.mg G.Bi G.B) (hr:Room k X.A) (Bk:BlkOk X x scope) (hN:X.N.Nodup) (h0:("" : Str)∉X.N) (hx0:x≠("" : Str)) (hi:PId X G (.Name x px) iter it)
  (hb:∀ (C:Addr) (s₂:Shared) (H₂:Hp) (fp:List Addr) (G':Gx),Good (cxC X x scope C s₂ H₂ fp) G' k->PTs (cxC X x scope C s₂ H₂ fp) G' ifs t/\PEd (cxC X x scope C s₂ H₂ fp) G' elt f)
  (hs:∀ x,foldedSetIterable iter X.env x=pure x:=by intro _;rfl):PEf X G (.ListComp elt [⟨.Name x px,iter,ifs,0⟩] scope pos) (xV it t f):=by
 intro pins s σ H Q I w
 obtain ⟨ρ,Hi,R,ou⟩:=w
 rw [eval_ListComp]
 refine zA hc hr Bk hN h0 hx0 hi hb hs (use:=none) (Qa:=fun a H'=>Q (.ref a) H') I R ou fun C A m s4 H3 hn hI _ q=>?_
 exact ⟨m,hn,fun h' hs'=>⟨.ref A,H3,hI h' hs',rfl,q⟩⟩
def PC (X:Cx) (e:Expr) (t:TE):Prop:=∀ (pins:List (Addr×Obj)) (s:Shared) (σ:St) (H:Hp) (Q:VK),Inv X pins σ H s->t σ H Q->∀ (u:Value->Sem Unit) (Q':Unit->Shared->Prop),
 (∀ (C:Addr) (m:Str->Option Value) (s4:Shared) (v:V) (w:Value) (H3:Hp),s4.heap.Ns C m->(∀ h',Heap.SameBut C s4.heap h'->Inv X pins σ H3 { s4 with heap:=h' })->kP X pins H3 C->bU v w->Q v H3->
  wpAny (model X.prog X.w) X.A (u w) (fun _ s''=>∃ m,s''.heap.Ns C m/\∀ h',Heap.SameBut C s''.heap h'->Q' () { s'' with heap:=h' }) X.xe s4)->wpAny (model X.prog X.w) X.A (evalThenUse e X.env u) Q' X.xe s
theorem PC.wk {X:Cx} {e:Expr} {t t':TE} (h:PC X e t) (w:∀ σ H Q,t' σ H Q->t σ H Q):PC X e t':=fun pins s σ H Q I q=>h pins s σ H Q I (w σ H Q q)
@[irreducible] def PCd (X:Cx) (G:Gx) (e:Expr) (f:Ev):Prop:=PC X e (tD X G f)
unseal PCd
@[irreducible] def PCf (X:Cx) (G:Gx) (e:Expr) (f:Fv):Prop:=PC X e (tF X G f)
unseal PCf
theorem PCf.d (h:PCf X G e fs):PCd X G e (eF fs):=PC.wk h fun σ H Q q=>by
 obtain ⟨ρ,Hi,R,ou⟩:=q
 refine ⟨ρ,Hi,R,?_⟩
 cases z:fs ρ with
 | no=>unfold eF at ou;rw [z] at ou;exact ou
 | err c=>unfold eF at ou;rw [z] at ou;exact ou
 | ok ds=>
  unfold eF at ou;rw [z] at ou
  intro Hi1 H1 e1 a n
  obtain ⟨n1,n2,xs,n3,n4⟩:=n
  have o2:∀ Hi' H',Ext Hi H Hi' H'->∀ v,IsD X.K Hi' v (.lst ds)->Q v H':=ou
  exact o2 _ _ (e1.hold n1 n3 n2) (.ref a) (.lst (SqL.of aI) (n4.mono (bA n2 _)))
theorem zFp {i:Nat} {y:Str} {e:Expr} {te:TE} {pos' pos:Pos} (hN:X.N.Nodup) (hi:X.N[i]?=some y) (hx:Loc X.env.scope y) (he:PC X e te) (hs:swapsWith e (some (.Name y pos')) pos.line X.env=pure true)
  (hf:X.fn y=true∨X.env.scope.names.lookup y=some .local):PS X (.Assign [.Name y pos'] e pos) (zJD te (L2.gName i)):=by
 intro pins s σ H E I h
 rw [exec_Assign_Name_used _ _ _ _ hs]
 refine wpAny_bind (wpAny_standAt (wpAny_bind ?_))
 refine he pins s σ H _ I h _ _ fun C m s4 v w H3 hn hI fo r q=>?_
 have I4:Inv X pins σ H3 s4:=hI s4.heap (Heap.SameBut.refl _ _)
 refine wpAny_assign_Name (tO I4 hN hi hx r (fun s5 I5 sb=>?_) hf)
 obtain ⟨a,sb,ha⟩:=sb
 have aC:C≠a:=by
  rcases ha with rfl | ha
  ·exact fo.2.1
  ·exact fun z=>fo.2.2.2.2.1 y a ha z.symm
 refine ⟨m,hn.sameBut sb aC,fun h' hs'=>wpAny_pure ?_⟩
 have fC:=fo.1
 have nC:∀ b u,H3 b=some u->b≠C:=fun b u e z=>by rw [z,fC] at e;cases e
 have kp:∀ b o,b≠C->s5.heap.get? b=some o->h'.get? b=some o:=fun b o hb e=>hs'.extBut b o hb e
 refine ⟨σ.set i (some v),H3,?_,q⟩
 refine Inv.call' I5 (ch:=[C]) rfl ⟨fun b o e n hb hx=>kp b o (by simpa using hx) e,fun b o e n hb hx=>⟨o.slots,kp b _ (by simpa using hx) e⟩,fun b o e n hx=>n,fun b o e hx=>⟨o,kp b _ (by simpa using hx) e⟩,fun _ _ q=>q,fun _ _ _ q=>q,fun _ ps q=>⟨#[],by simpa using q⟩⟩ (fun b u e=>?_) I5.bare (fun b hb=>?_)
 ·refine (I5.hok b u e).stay (fun c v hc q=>kp c v ?_ q) (fun _ q=>q) fun _ _ q=>q
  rcases hc with z | z
  ·rw [z];exact nC b u e
  ·exact nC c _ z
 ·have e:b=C:=by simpa using hb
  subst e
  exact ⟨fo.2.2.2.1,fo.2.1,fo.2.2.2.2.1,fo.2.2.2.2.2⟩
theorem zDu {i:Nat} {y:Str} {e:Expr} {f:Ev} {pos' pos:Pos} (hN:X.N.Nodup) (hi:X.N[i]?=some y) (hx:Loc X.env.scope y) (he:PCd X G e f) (hs:swapsWith e (some (.Name y pos')) pos.line X.env=pure true)
  (hf:X.fn y=true∨X.env.scope.names.lookup y=some .local:=by first | exact .inl rfl | exact .inr rfl | assumption):PSd X G (.Assign [.Name y pos'] e pos) (eJ i f):=PS.wk (zFp hN hi hx he hs hf) fun E σ H q=>by
 obtain ⟨ρ,Hi,R,h⟩:=q
 exact ⟨ρ,Hi,R,lU R h fun d Hi' H' _ e h' v r=>h' _ Hi' H' (Same.refl _) ((R.grow e).set r)⟩
end
end L3
namespace L3
open PySem PySem.Spec PyProof.Rows L2
unseal PEd PEf PTd PWd PAd PSd bZ POd PGd cX PId PSx dS PTs PCd PCf
def zIQ (sc:Scope) (N:List Str) (x:Str) (scope:Scope):Bool:=
 scope.names.all (fun y=>y.2 != .cell) && scope.names.lookup x==some .local && scope.names.all (fun y=>y.2 != .local || scope.names.lookup y.1==some .local)
  && scope.names.all (fun p=>p.2 != .free || (sc.names.lookup p.1==some .cell || sc.names.lookup p.1==some .free)) && N.all (fun y=>y==x || scope.names.lookup y != some .local) && (scope.names.lookup ("" : Str)).isNone && !N.contains ("" : Str) && x != ("" : Str)
section
variable {X:Cx} {G:Gx} {elt iter:Expr} {x:Str} {px pos:Pos} {ifs:List Expr} {scope sc:Scope} {it:Fv} {t:Tv} {f:Ev} {k:Nat} {N:List Str}
theorem zGl (hk:scope.kind=.function) (hsc:X.env.scope=sc) (hN:X.N=N) (h:zIQ sc N x scope=true):BlkOk X x scope/\("" : Str)∉X.N/\x≠("" : Str):=by
 unfold zIQ at h
 simp only [Bool.and_eq_true] at h
 obtain ⟨⟨⟨⟨⟨⟨⟨h1,h2⟩,h3⟩,h4⟩,h5⟩,h6⟩,h7⟩,h8⟩:=h
 subst hN hsc
 refine ⟨⟨hk,fun y hy e=>?_,beq_iff_eq.mp h2,fun y hy e=>?_,fun p hp e=>?_,fun y hy hne e=>?_,?_⟩,fun z=>?_,fun z=>?_⟩
 ·have:=List.all_eq_true.mp h1 y hy
  rw [e] at this;cases this
 ·have:=List.all_eq_true.mp h3 y hy
  rw [e] at this
  simpa using this
 ·have:=List.all_eq_true.mp h4 p hp
  rw [e] at this
  have q:X.env.scope.names.lookup p.1=some .cell∨X.env.scope.names.lookup p.1=some .free:=by simpa using this
  exact q
 ·have:=List.all_eq_true.mp h5 y hy
  rw [e] at this
  simp [hne] at this
 ·simpa using h6
 ·have:X.N.contains ("" : Str)=true:=by simpa using z
  rw [this] at h7;cases h7
 ·rw [z] at h8;simp at h8
theorem wG (W:Good X G k) (hnd:N.Nodup) (hk:scope.kind=.function) (hsc:X.env.scope=sc) (hN:X.N=N) (h:zIQ sc N x scope=true) (hi:PId X G (.Name x px) iter it)
  (hb:∀ (C:Addr) (s₂:Shared) (H₂:Hp) (fp:List Addr) (G':Gx),Good (cxC X x scope C s₂ H₂ fp) G' k->PTs (cxC X x scope C s₂ H₂ fp) G' ifs t/\PEd (cxC X x scope C s₂ H₂ fp) G' elt f)
  (hs:∀ x,foldedSetIterable iter X.env x=pure x:=by intro _;rfl):PEf X G (.ListComp elt [⟨.Name x px,iter,ifs,0⟩] scope pos) (xV it t f):=by
 obtain ⟨b,h0,hx⟩:=zGl hk hsc hN h
 exact zFv ⟨W.calm,W.tb⟩ W.room b (hN ▸ hnd) h0 hx hi hb hs
end
end L3
namespace L3
open PySem PySem.Spec PyProof.Rows L2
unseal PEd PEf PTd PWd PAd PSd bZ POd PGd cX PId PSx dS PTs PCd PCf
section
variable {X:Cx} {G:Gx} {a b:Expr} {pos:Pos} {f:Fv} {g:Ev}
theorem IsDs.rep {K:PySem.W.Frag} {H:Hp} {xs:List V} {ds:List D} (h:IsDs K H xs ds):∀ n:Nat,IsDs K H (List.replicate n xs).flatten (List.replicate n ds).flatten
 | 0=>.nil
 | n+1=>by
  rw [List.replicate_succ,List.replicate_succ,List.flatten_cons,List.flatten_cons]
  exact h.append (IsDs.rep h n)
theorem zDJ (ha:PEf X G a f) (hb:PEd X G b g):PEf X G (.BinOp a .Mult b pos) (zFX f g):=PE.wk (zAs zHN ha hb) fun σ H Q q=>by
 obtain ⟨ρ,Hi,R,ou⟩:=q
 refine ⟨ρ,Hi,R,(Out.bind ou).imp fun ds Hi1 H1 e1 o1 l nl=>?_⟩
 refine ⟨ρ,Hi1,R.grow e1,(Out.bind o1).imp fun d Hi2 H2 e2 o2 v rv=>?_⟩
 cases d<;>first | exact o2.elim | skip
 rename_i k
 obtain ⟨n1,n2,xs,n3,n4⟩:=nl
 have o2':Out G Hi2 H2 (if 0<=k/\k < 2^62/\ds.length * k.toNat<=16777216 then Res.ok (List.replicate k.toNat ds).flatten else .no) _:=o2
 by_cases hz:0<=k/\k < 2^62/\ds.length * k.toNat<=16777216
 ·rw [if_pos hz] at o2'
  refine ⟨l,k,xs,rfl,rv.intI,e2.h.at n3,by omega,by omega,by rw [n4.length];exact hz.2.2,fun p hp=>?_⟩
  exact o2' _ _ (Ext.newF e2.s hp) p ⟨(e1.h.trans e2.h).none hp,e2.s.none hp,_,aI,(n4.mono e2.i).rep _⟩
 ·rw [if_neg hz] at o2';exact o2'.elim
end
section
variable {es r:List Expr} {a b f:Expr} {k:Nat} {p:Pos} {x:Str} {c:Const} {env:Env}
theorem lD:starEach (.List es p::r) env=(false,eval (.List es p) env)::starEach r env:=rfl
theorem cA {o:Operator}:starEach (.BinOp a o b p::r) env=(false,eval (.BinOp a o b p) env)::starEach r env:=rfl
theorem eL:starEach (.Subscript a b p::r) env=(false,eval (.Subscript a b p) env)::starEach r env:=rfl
theorem bC:starEach (.Name x p::r) env=(false,eval (.Name x p) env)::starEach r env:=rfl
theorem aW:starEach (.Constant c k p::r) env=(false,eval (.Constant c k p) env)::starEach r env:=rfl
theorem aO {ks:List Keyword}:starEach (.Call f es ks p::r) env=(false,eval (.Call f es ks p) env)::starEach r env:=rfl
end
end L3
namespace L3
open PySem PySem.Spec PyProof.Rows L2
unseal PEd PEf PTd PWd PAd PSd bZ POd PGd cX PId PSx dS PTs PCd PCf
section
variable {X:Cx} {G:Gx} {e st:Expr} {te tk:TE} {lo hi:Option Expr} {tl th:TO} {pos p2:Pos} {f g:Ev} {l h:Ov}
end
end L3
set_option maxRecDepth 100000
namespace L3
open PySem PySem.Spec PyProof.Rows L2
section
variable {prog:Program} {w:World} {A:Around} {E:Value->Shared->Prop} {s:Shared}
end
section
unseal PEd PEf PTd PWd PAd PSd bZ POd PGd cX PId PSx dS PTs PCd PCf
variable {X:Cx} {G:Gx} {fs:Fv} {f:Ev}
end
end L3
namespace L3
open PySem PySem.Spec PyProof.Rows L2
unseal PEd PEf PTd PWd PAd PSd bZ POd PGd cX PId PSx dS PTs PCd PCf
section
variable {X:Cx} {G:Gx}
def zJF (K:PySem.W.Frag):List V->Hp->VK->Prop:=fun xs H Q=>∃ (a:Addr) (ns:List Int),xs=[.ref a]/\(SqL K H a (ns.map V.int)∨SqT K H a (ns.map V.int))/\Q (.int ns.sum) H
theorem lL (ns:List Int):∀ j,preSum (fun i=>ns.getD i 0) j=(ns.take j).sum
 | 0=>by rw [List.take_zero];rfl
 | j+1=>by
  rw [preSum,lL ns j,List.take_succ]
  rw [List.getD_eq_getElem?_getD]
  cases ns[j]? with
  | none=>simp
  | some x=>simp
theorem qH {ns:List Int} {its:List Value} (r:cG (ns.map V.int) its) {i:Nat} {v:Value} (h:its[i]?=some v):∃ t,v=.int (ns.getD i 0) t:=by
 have hl:=r.length
 rw [List.length_map] at hl
 have hi:=(List.getElem?_eq_some_iff.mp h).1
 have hx:(ns.map V.int)[i]?=some (.int (ns.getD i 0)):=by
  rw [List.getElem?_map,List.getD_eq_getElem?_getD,List.getElem?_eq_getElem (by omega)]
  rfl
 obtain ⟨u,hu,ru⟩:=r.get hx
 rw [h] at hu
 cases hu
 exact ru
theorem zDp (hc:X.calm=true):jR X (.builtin "sum") (zJF X.K):=by
 intro pins s σ H xs us Q I r h
 obtain ⟨a,ns,rfl,hq,q⟩:=h
 obtain ⟨u,rfl,ru⟩:=r.one
 cases ru
 have hh:=I.ok.hd hc
 rcases hq with hq | hq
 ·obtain ⟨its,rv,p,hz⟩:=I.list hq
  have hlt:a < s.heap.objs.size:=by obtain ⟨_,e,_⟩:=p.isList;exact Heap.lt_size e
  have hl:=rv.length
  rw [List.length_map] at hl
  refine call_sum_walkG (wpAny_pyIter_list p.isList ?_)
  refine ⟨s.heap.objs.size,_,_,_,_,_,fun i=>ns.getD i 0,rfl,Walks.list (A:=X.A.in1) hh s.heap.objs.size a (Nat.ne_of_lt hlt) its.toArray,⟨⟨_,Heap.get?_push_size _ rfl,rfl,rfl⟩,p.isList.push _⟩,fun b hb=>?_,fun i v hv=>qH rv (by simpa using hv),fun h' tk t' hk=>?_⟩
  ·show b < (s.heap.push _).objs.size
   rw [Heap.size_push]
   rcases List.mem_cons.mp hb with rfl | hb
   ·exact Nat.lt_succ_self _
   ·rcases List.mem_cons.mp hb with rfl | hb
    ·exact Nat.lt_succ_of_lt hlt
    ·cases hb
  ·refine ⟨.int ns.sum,H,I.kept (t':=tk) fun b o e=>hk b o (fun z=>?_) (Heap.get?_push_of_some _ e),⟨t',?_⟩,q⟩
   ·have z':b=s.heap.objs.size:=by simpa using z
    have l:=Heap.lt_size e
    rw [z'] at l
    exact Nat.lt_irrefl _ l
   ·rw [List.size_toArray,<-hl,lL,List.take_length]
 ·obtain ⟨its,rv,p,hz⟩:=I.tuple hq
  have p':s.heap.IsTuple a its.toArray:=p
  have hlt:a < s.heap.objs.size:=by obtain ⟨_,e,_⟩:=p';exact Heap.lt_size e
  have hl:=rv.length
  rw [List.length_map] at hl
  refine call_sum_walkG (wpAny_pyIter_tuple p' ?_)
  refine ⟨s.heap.objs.size,_,_,_,_,_,fun i=>ns.getD i 0,rfl,Walks.tuple (A:=X.A.in1) hh s.heap.objs.size a (Nat.ne_of_lt hlt) its.toArray,⟨⟨_,Heap.get?_push_size _ rfl,rfl,rfl⟩,p'.push _⟩,fun b hb=>?_,fun i v hv=>qH rv (by simpa using hv),fun h' tk t' hk=>?_⟩
  ·show b < (s.heap.push _).objs.size
   rw [Heap.size_push]
   rcases List.mem_cons.mp hb with rfl | hb
   ·exact Nat.lt_succ_self _
   ·rcases List.mem_cons.mp hb with rfl | hb
    ·exact Nat.lt_succ_of_lt hlt
    ·cases hb
  ·refine ⟨.int ns.sum,H,I.kept (t':=tk) fun b o e=>hk b o (fun z=>?_) (Heap.get?_push_of_some _ e),⟨t',?_⟩,q⟩
   ·have z':b=s.heap.objs.size:=by simpa using z
    have l:=Heap.lt_size e
    rw [z'] at l
    exact Nat.lt_irrefl _ l
   ·rw [List.size_toArray,<-hl,lL,List.take_length]
theorem fA {K:PySem.W.Frag} {H:Hp}:∀ {xs:List V} {ds:List D} {ns:List Int},IsDs K H xs ds->gU ds=some ns->xs=ns.map V.int
 | _,_,ns,.nil,h=>by cases h;rfl
 | _,_,ns,.cons (d:=d) (ds:=ds) r rs,h=>by
  cases d with
  | int i=>
   rw [gU] at h
   cases z:gU ds with
   | none=>rw [z] at h;cases h
   | some ms=>
    rw [z] at h
    cases h
    rw [r.intI,fA rs z]
    rfl
  | _=>cases h
theorem zGD:pY X (zJF X.K) zFQ:=⟨fun a c z=>(by
  unfold zFQ at z
  split at z
  ·split at z<;>cases z
  ·split at z<;>cases z
  ·cases z),fun Hi H vs ds d Q s r z q=>by
  unfold zFQ at z
  split at z
  ·split at z
   ·rename_i ns hns
    cases z
    obtain ⟨v,rfl,h⟩:=r.one
    obtain ⟨a,xs,rfl,h1,h2⟩:=h.lstI
    have e:=fA h2 hns
    subst e
    exact ⟨a,ns,rfl,.inl (bD s h1),q _ Hi H (Ext.refl s) (.int _)⟩
   ·cases z
  ·split at z
   ·rename_i ns hns
    cases z
    obtain ⟨v,rfl,h⟩:=r.one
    obtain ⟨a,xs,rfl,h1,h2⟩:=h.tupI
    have e:=fA h2 hns
    subst e
    exact ⟨a,ns,rfl,.inr (aZ s h1),q _ Hi H (Ext.refl s) (.int _)⟩
   ·cases z
  ·cases z⟩
theorem zAG:bootBuiltins "sum" = some (.builtin "sum"):=by first | rfl | decide +kernel
end
end L3
namespace L3
open PySem PySem.Spec PyProof.Rows L2
unseal PEd PEf PTd PWd PAd PSd bZ POd PGd cX PId PSx dS PTs PCd PCf
section
variable {prog:Program} {w:World} {A:Around} {E:Value->Shared->Prop} {s:Shared}
end
section
variable {X:Cx} {G:Gx} {es:List Expr} {pos:Pos}
end
theorem ln0 {α:Type} {us:List α} (h:us.length=0):us=[]:=List.eq_nil_of_length_eq_zero h
theorem ln1 {α:Type} {us:List α} (h:us.length=1):∃ a0:α,us=[a0]:=by
 cases us with
 | nil=>cases h
 | cons a r=>
  cases ln0 (Nat.succ.inj h)
  exact ⟨a,rfl⟩
theorem ln2 {α:Type} {us:List α} (h:us.length=2):∃ a0 a1:α,us=[a0,a1]:=by
 cases us with
 | nil=>cases h
 | cons a r=>
  obtain ⟨a1,rfl⟩:=ln1 (Nat.succ.inj h)
  exact ⟨a,a1,rfl⟩
theorem ln3 {α:Type} {us:List α} (h:us.length=3):∃ a0 a1 a2:α,us=[a0,a1,a2]:=by
 cases us with
 | nil=>cases h
 | cons a r=>
  obtain ⟨a1,a2,rfl⟩:=ln2 (Nat.succ.inj h)
  exact ⟨a,a1,a2,rfl⟩
end L3
namespace L3
open PySem PySem.Spec PyProof.Rows L2
unseal PEd PEf PTd PWd PAd PSd bZ POd PGd cX PId PSx dS PTs PCd PCf
section
variable {X:Cx} {G:Gx} {a b c e:Expr} {pos p2:Pos} {f g h:Ev} {fs:Fv} {lo hi:Option Expr} {l u:Ov}
theorem zGB:OpK X (fun x y H Q=>∃ i j,x=.str i/\y=.str j/\i.length+j.length<=sizeLine/\Q (.str (i++j)) H) zAc:=⟨fun a b c z=>(by
  unfold zAc at z
  split at z
  ·split at z<;>cases z
  ·cases z),fun Hi H x y a b d Q s r1 r2 z q=>by
  unfold zAc at z
  split at z
  ·split at z
   ·rename_i hz
    cases z
    exact ⟨_,_,r1.strI,r2.strI,hz,q _ Hi H (Ext.refl s) (.str _)⟩
   ·cases z
  ·cases z⟩
theorem zHM {o:Option Nat} {c:Str}:chO o≠.err c:=fun z=>by cases o<;>cases z
theorem zJn:OpK X (fun x y H Q=>∃ z i c,x=.str z/\y=.int i/\0<=i/\i < 2^63/\i < z.length/\z.cps[i.toNat]?=some c/\Q (.str ⟨#[c]⟩) H) zCi:=⟨fun a b c z=>(by
  unfold zCi at z
  split at z
  ·split at z
   ·exact zHM z
   ·cases z
  ·cases z),fun Hi H x y a b d Q s r1 r2 z q=>by
  unfold zCi at z
  split at z
  ·rename_i w i
   split at z
   ·rename_i hz
    cases hc:w.cps[i.toNat]? with
    | none=>rw [hc] at z;cases z
    | some c=>
     rw [hc] at z
     cases z
     have hl:i.toNat < w.cps.size:=(Array.getElem?_eq_some_iff.mp hc).1
     exact ⟨w,i,c,r1.strI,r2.intI,hz.1,hz.2,by show i < (w.cps.size:Int);omega,hc,q _ Hi H (Ext.refl s) (.str _)⟩
   ·cases z
  ·cases z⟩
theorem zDI (ha:PEd X G a f) (hb:PEd X G b g) (hs:vP b):PEd X G (.Subscript a b pos) (eOp zCi f g):=PE.wk (uV ha hb hs) (op2 zJn)
theorem zJm:OpK X (fun x y H Q=>∃ i j,x=.str i/\y=.str j/\Q (.bl (!(Builtin.Str.occurrences j i 0 j.length 1).isEmpty)) H) zHa:=⟨fun a b c z=>(by
  unfold zHa at z
  split at z<;>cases z),fun Hi H x y a b d Q s r1 r2 z q=>by
  unfold zHa at z
  split at z
  ·cases z
   exact ⟨_,_,r1.strI,r2.strI,q _ Hi H (Ext.refl s) (.bl _)⟩
  ·cases z⟩
theorem zEx:pY X (fun xs H Q=>∃ x n,xs=[x]/\zJB X.K x H n/\Q (.int n) H) zBt:=⟨fun a c z=>(by
  unfold zBt at z
  split at z
  ·split at z<;>cases z
  ·cases z),fun Hi H vs ds d Q s r z q=>by
  unfold zBt at z
  split at z
  ·split at z
   ·rename_i hz
    cases z
    obtain ⟨v,rfl,h⟩:=r.one
    exact ⟨v,_,rfl,by rw [h.strI];exact ⟨hz,rfl⟩,q _ Hi H (Ext.refl s) (.int _)⟩
   ·cases z
  ·cases z⟩
theorem Out.grow {Hi H Hi' H':Hp} {α:Type} {r:Res α} {k:α->Hp->Hp->Prop} (o:Out G Hi H r k) (e:Ext Hi H Hi' H'):Out G Hi' H' r k:=by
 cases r with
 | no=>exact o
 | err c=>exact fun a b x=>o a b (e.trans x)
 | ok y=>exact fun a b x=>o a b (e.trans x)
theorem zHU {r r':R2} {o o':Op2} (k:OpK X r o) (k':OpK X r' o'):∀ σ H Q,tD X G (vV o o' f g h) σ H Q->zDx r r' (tD X G f) (tD X G g) (tD X G h) σ H Q:=fun σ H Q q=>by
 obtain ⟨ρ,Hi,R,ou⟩:=q
 refine nJ R ou fun v d Hi1 H1 e1 R1 r1 o1=>?_
 refine nJ R1 o1 fun w d' Hi2 H2 e2 R2 r2 o2=>?_
 cases z:o d d' with
 | no=>rw [z] at o2;exact o2.elim
 | err c=>exact absurd z (k.1 d d' c)
 | ok y=>
  rw [z] at o2
  refine k.2 Hi2 H2 v w d d' y _ R2.s (r1.mono e2.i) r2 z fun v3 Hi3 H3 e3 r3=>?_
  have o3:Out G Hi3 H3 (zGr o' h ρ d' y) _:=Out.grow o2 e3
  have R3:=R2.grow e3
  cases y with
  | bl b=>
   refine ⟨b,r3.blI,?_⟩
   cases b with
   | true=>
    rw [if_pos rfl]
    refine nJ R3 o3 fun w2 d2 Hi4 H4 e4 R4 r4 o4=>?_
    cases z':o' d' d2 with
    | no=>rw [z'] at o4;exact o4.elim
    | err c=>exact absurd z' (k'.1 d' d2 c)
    | ok y'=>
     rw [z'] at o4
     exact k'.2 Hi4 H4 w w2 d' d2 y' _ R4.s ((r2.mono e3.i).mono e4.i) r4 z' fun v5 Hi5 H5 e5 r5=>o4 Hi5 H5 e5 v5 r5
   | false=>
    rw [if_neg (by decide)]
    exact o3.here R3.s _ (.bl _)
  | _=>exact o3.elim
theorem zCw {op op':CmpOp} {r r':R2} {o o':Op2} (ho:OpR X (compareOp op) r) (k:OpK X r o) (ho':OpR X (compareOp op') r') (k':OpK X r' o') (ha:PEd X G a f) (hb:PEd X G b g) (hc:PEd X G c h)
  (hm:lastMarks [op,op'] [b,c]=false:=by with_unfolding_all rfl):PEd X G (.Compare a [op,op'] [b,c] pos) (vV o o' f g h):=PE.wk (zDo ho ho' ha hb hc hm) (zHU k k')
def zJH (K:PySem.W.Frag):List V->Hp->VK->Prop:=fun xs H Q=>∃ (a:Addr) (bs:List Bool),xs=[.ref a]/\SqL K H a (bs.map V.bl)/\Q (.bl (bs.all id)) H
theorem zAr (bs:List Bool):(List.range bs.length).all (fun i=>bs.getD i false)=bs.all id:=by
 induction bs with
 | nil=>rfl
 | cons b r ih=>
  rw [List.length_cons,List.range_succ_eq_map,List.all_cons,List.all_cons,List.all_map,<-ih]
  rfl
theorem zCM (hc:X.calm=true):jR X (.builtin "all") (zJH X.K):=by
 intro pins s σ H xs us Q I r h
 obtain ⟨a,bs,rfl,hq,q⟩:=h
 obtain ⟨u,rfl,ru⟩:=sN r
 cases ru
 have hh:=I.ok.hd hc
 obtain ⟨its,rv,p,hz⟩:=I.list hq
 have hlt:a < s.heap.objs.size:=by obtain ⟨_,e,_⟩:=p.isList;exact Heap.lt_size e
 have hl:=rv.length
 rw [List.length_map] at hl
 refine call_all_walk (wpAny_pyIter_list p.isList ?_)
 refine ⟨s.heap.objs.size,_,_,_,_,_,fun i=>bs.getD i false,rfl,Walks.list (A:=X.A.in1) hh s.heap.objs.size a (Nat.ne_of_lt hlt) its.toArray,⟨⟨_,Heap.get?_push_size _ rfl,rfl,rfl⟩,p.isList.push _⟩,fun i v s' Q' E' hv hQ=>?_,fun h' tk hk=>?_⟩
 ·have hv':its[i]?=some v:=by simpa using hv
  have hi:i < its.length:=(List.getElem?_eq_some_iff.mp hv').1
  have hx:(bs.map V.bl)[i]?=some (.bl (bs.getD i false)):=by
   rw [List.getElem?_map,List.getD_eq_getElem?_getD,List.getElem?_eq_getElem (by omega)]
   rfl
  obtain ⟨u,hu,ru⟩:=rv.get hx
  rw [hv'] at hu
  cases hu
  cases ru
  exact wpAny_truthy_bool hQ
 ·refine ⟨.bl (bs.all id),H,I.kept (t':=tk) fun b o e=>hk b o (fun z=>?_) (Heap.get?_push_of_some _ e),?_,q⟩
  ·have z':b=s.heap.objs.size:=by simpa using z
   have l:=Heap.lt_size e
   rw [z'] at l
   exact Nat.lt_irrefl _ l
  ·show Value.bool _=Value.bool _
   rw [List.size_toArray,<-hl,zAr]
theorem mW {K:PySem.W.Frag} {H:Hp}:∀ {xs:List V} {ds:List D} {bs:List Bool},IsDs K H xs ds->kH ds=some bs->xs=bs.map V.bl
 | _,_,_,.nil,h=>by cases h;rfl
 | _,_,_,.cons (d:=d) (ds:=ds) r rs,h=>by
  cases d with
  | bl i=>
   rw [kH] at h
   cases z:kH ds with
   | none=>rw [z] at h;cases h
   | some ms=>
    rw [z] at h
    cases h
    rw [r.blI,mW rs z]
    rfl
  | _=>cases h
theorem zGH:pY X (zJH X.K) zHA:=⟨fun a c z=>(by
  unfold zHA at z
  split at z
  ·split at z<;>cases z
  ·cases z),fun Hi H vs ds d Q s r z q=>by
  unfold zHA at z
  split at z
  ·split at z
   ·rename_i ns hns
    cases z
    obtain ⟨v,rfl,h⟩:=r.one
    obtain ⟨a,xs,rfl,h1,h2⟩:=h.lstI
    have e:=mW h2 hns
    subst e
    exact ⟨a,ns,rfl,bD s h1,q _ Hi H (Ext.refl s) (.bl _)⟩
   ·cases z
  ·cases z⟩
theorem zBr:bootBuiltins "all" = some (.builtin "all"):=by first | rfl | decide +kernel
def Its (x:Str):It:=⟨fun i _=>i < x.cps.size,fun i H v H'=>H'=H/\∃ c,x.cps[i]?=some c/\v=.str ⟨#[c]⟩,fun i _=>x.cps.size<=i⟩
theorem wF {P:Program} {w:World} {K:PySem.W.Frag} {tg:Expr} (it:Addr) (x:Str) (t:Tok) {ty:String} (hty:ty = "str_ascii_iterator" ∨ ty = "str_iterator"):Turn P w K tg (Its x) [it] it (fun i h=>h.IsStrIter it ty x t i) where
 mem:=by simp
 obj:=fun i h st b hb=>by
  have e:b=it:=by simpa using hb
  subst e
  obtain ⟨o,e,c,d⟩:=st
  exact ⟨o,e,fun v z=>by rw [d] at z;cases z⟩
 keep:=fun i h h' st k=>by
  obtain ⟨o,e,c,d⟩:=st
  exact ⟨o,k it (by simp) o e,c,d⟩
 item:=by
  intro X hP hw hK hc i pins s σ H E I hf st hg
  subst hP hw hK
  obtain ⟨f0,f1,f2,f3,f4,f5⟩:=hf it (by simp)
  have hx:x.cps[i]?=some x.cps[i]:=Array.getElem?_eq_getElem hg
  have next:∀ h',h'.IsStrIter it ty x t (i+1)->Heap.SameBut it s.heap h'->∃ u,some (Value.str ⟨#[x.cps[i]]⟩ s.toks)=some u/\
    wpAny (model X.prog X.w) X.A (letOwnedTupleGo tg (.ref it) u) (fun _ s2=>∃ y H',Inv X pins σ H' s2/\bU y u/\(Its x).yld i H y H'/\s2.heap.IsStrIter it ty x t (i+1)/\∀ b∈[it],H' b=none) E { s with heap:=h',toks:=s.toks+1 }:=by
   intro h' st' sb
   have I1:Inv X pins σ H { s with heap:=h',toks:=s.toks+1 }:=I.turned (t':=s.toks+1) (fun b o hb e=>(sb.2 b hb).trans e) f0 f1 f3 f4 f5
   obtain ⟨o,e,c,d⟩:=id st'
   exact ⟨_,rfl,zDf (s:={ s with heap:=h',toks:=s.toks+1 }) e c d (by rcases hty with rfl | rfl<;>decide) ⟨.str ⟨#[x.cps[i]]⟩,H,I1,⟨_,rfl⟩,⟨rfl,_,hx,rfl⟩,st',fun b hb=>(hf b hb).1⟩⟩
  rcases hty with rfl | rfl
  ·exact wpAny_pyNext_ascii_item st hx next
  ·exact wpAny_pyNext_wide_item st hx next
 done:=by
  intro X hP hw hK hc i pins s σ H E I hf st hg
  subst hP hw hK
  obtain ⟨f0,f1,f2,f3,f4,f5⟩:=hf it (by simp)
  have hx:x.cps[i]?=none:=Array.getElem?_eq_none hg
  rcases hty with rfl | rfl
  ·exact wpAny_pyNext_ascii_end (I.ok.hd hc) st hx fun h' eb=>⟨rfl,I.turned (t':=s.toks) (fun b o hb e=>eb b o hb e) f0 f1 f3 f4 f5⟩
  ·exact wpAny_pyNext_wide_end (I.ok.hd hc) st hx fun h' eb=>⟨rfl,I.turned (t':=s.toks) (fun b o hb e=>eb b o hb e) f0 f1 f3 f4 f5⟩
 self:=fun _ _ _ _ _ st h=>by
  rcases hty with rfl | rfl
  ·exact wpAny_pyIter_striter_ascii st h
  ·exact wpAny_pyIter_striter_wide st h
def zKi (tl:TE):TI:=fun σ H R=>tl σ H fun x H1=>∃ z,x=.str z/\R (Its z) H1
theorem zGu {tg l:Expr} {tl:TE} (hl:PE X l tl):PI X tg l (zKi tl):=by
 intro pins s σ H R I h
 refine thn (hl pins s σ H _ I h) fun v s1 ⟨x,H1,I1,r1,q1⟩=>?_
 obtain ⟨z,e,q⟩:=q1
 subst e
 obtain ⟨t,rfl⟩:=r1
 have done':∀ b∈[s1.heap.objs.size],kP X pins H1 b:=fun b hb=>by
  have e:b=s1.heap.objs.size:=by simpa using hb
  subst e
  exact I1.fpOk (Nat.le_refl _) (I1.hok.fresh (Nat.le_refl _))
 cases ha:z.cps.all (· < 128)
 ·exact wpAny_pyIter_wide ha ⟨s1.heap.objs.size,[s1.heap.objs.size],_,_,H1,rfl,I1.kept (t':=s1.toks) fun b o e=>Heap.get?_push_of_some _ e,wF _ z t (.inr rfl),⟨_,Heap.get?_push_size _ rfl,rfl,rfl⟩,done',q⟩
 ·exact wpAny_pyIter_ascii ha ⟨s1.heap.objs.size,[s1.heap.objs.size],_,_,H1,rfl,I1.kept (t':=s1.toks) fun b o e=>Heap.get?_push_of_some _ e,wF _ z t (.inl rfl),⟨_,Heap.get?_push_size _ rfl,rfl,rfl⟩,done',q⟩
theorem zAl {K:PySem.W.Frag} {Hi:Hp} (x:Str):Gives K Hi (Its x) (x.cps.toList.map fun c=>.str ⟨#[c]⟩):=fun Hi1 H1 s1 s2 i=>by
 refine ⟨fun hl=>by rw [List.length_map,Array.length_toList] at hl;exact hl,fun d hd=>?_⟩
 rw [List.getElem?_map] at hd
 cases hc:x.cps.toList[i]? with
 | none=>rw [hc] at hd;cases hd
 | some c=>
  rw [hc] at hd
  cases hd
  have hc':x.cps[i]?=some c:=by simpa using hc
  refine ⟨(Array.getElem?_eq_some_iff.mp hc').1,fun y H2 q=>?_⟩
  obtain ⟨e,c2,h2,h3⟩:=q
  subst e
  rw [hc'] at h2
  cases h2
  subst h3
  exact ⟨Hi1,Ext.refl s2,.str _⟩
theorem zJj {tg:Expr} (h:PEd X G e f):PId X G tg e (zIJ f):=PI.wk (zGu h) fun σ H Q q=>by
 obtain ⟨ρ,Hi,R,ou⟩:=q
 refine nJ R ou fun v d Hi1 H1 e1 R1 r1 o1=>?_
 cases d with
 | str x=>exact ⟨x,r1.strI,o1.here R1.s _ (zAl x)⟩
 | _=>exact o1.elim
end
end L3
namespace L3
open PySem PySem.Spec PyProof.Rows L2
unseal PEd PEf PTd PWd PAd PSd bZ POd PGd cX PId PSx dS PTs PCd PCf
section
variable {X:Cx} {G:Gx} {a b c e:Expr} {pos p2 p:Pos} {f g h:Ev} {fs:Fv} {x:Str}
theorem zBq {bl:List Stmt}:bZ X G bl sNo:=fun pins s σ H E I q=>by
 obtain ⟨ρ,Hi,R,ou⟩:=q
 exact ou.elim
def zGj (T:List (Str×Str)):List (Str×KTD.Dat):=T.map fun q=>(q.1,.flat (.str q.2))
structure IsTab (K:PySem.W.Frag) (mg:Str->Option Value) (x:Str) (T:List (Str×Str)) (a:Addr):Prop where
 mg:mg x=some (.ref a)
 tab:∀ h:Heap,K.In h->KTD.TextTab h a (zGj T)
theorem zAd (k:Str):∀ T:List (Str×Str),KTD.datumAt k (zGj T)=(T.lookup k).map fun y=>.flat (.str y)
 | []=>rfl
 | (x,y)::r=>by
  show (if decide (k=x)=true then some (KTD.Dat.flat (.str y)) else KTD.datumAt k (zGj r))=_
  rw [List.lookup_cons]
  by_cases hx:k=x
  ·rw [if_pos (decide_eq_true hx),show (k==x)=true from beq_iff_eq.mpr hx];rfl
  ·rw [if_neg (by simp [hx]),show (k==x)=false from beq_eq_false_iff_ne.mpr hx];exact zAd k r
theorem zEH (k:Str) (T:List (Str×Str)):KTD.inKeys k (zGj T)=(T.lookup k).isSome:=by
 rw [<-KTD.isSome_datumAt,zAd,Option.isSome_map]
theorem zHO {T:List (Str×Str)} {ad:Addr} (t:IsTab X.K X.mg x T ad) (hg:Gl X x) (hd:(x==("__debug__" : Str))=false:=by decide):PE X (.Name x p) (tC (.ref ad)):=vB hg t.mg rfl hd
theorem zAV {T:List (Str×Str)} {ad:Addr} (t:IsTab X.K X.mg x T ad):OpR X (compareOp .NotIn) (fun v y H Q=>∃ k,v=.str k/\y=.ref ad/\Q (.bl (!(T.lookup k).isSome)) H):=by
 intro pins s σ H v y u w Q I rx ry h
 obtain ⟨k,rfl,rfl,q⟩:=h
 obtain ⟨tk,rfl⟩:=rx
 cases ry
 refine KTD.notin_text ⟨t.tab s.heap I.kIn,fun _ _ e=>e⟩ ?_
 rw [zEH]
 exact ⟨.bl _,H,I.tok _,rfl,q⟩
theorem unT {o:D->Res D} {r:R2} {y:V} (hr:∀ (Hi H:Hp) (v:V) (d:D) (Q:VK),IsD X.K Hi v d->Same Hi H->(∃ d',o d=.ok d'/\(∀ w Hi' H',Ext Hi H Hi' H'->IsD X.K Hi' w d'->Q w H'))->r v y H Q)
  (he:∀ d c,o d≠.err c):∀ σ H Q,tD X G (eUn o f) σ H Q->tOp r (tD X G f) (tC y) σ H Q:=fun σ H Q q=>by
 obtain ⟨ρ,Hi,R,ou⟩:=q
 refine nJ R ou fun v d Hi1 H1 e1 R1 r1 o1=>?_
 cases z:o d with
 | no=>rw [z] at o1;exact o1.elim
 | err c=>exact absurd z (he d c)
 | ok d'=>rw [z] at o1;exact hr Hi1 H1 v d Q r1 R1.s ⟨d',z,fun w Hi' H' e1 r1=>o1 Hi' H' e1 w r1⟩
theorem zHl {T:List (Str×Str)} {ad:Addr}:∀ σ H Q,tD X G (eUn (jY T) f) σ H Q->tOp (fun v y H Q=>∃ k,v=.str k/\y=.ref ad/\Q (.bl (!(T.lookup k).isSome)) H) (tD X G f) (tC (.ref ad)) σ H Q:=
 unT (fun Hi H v d Q r s h=>by
  obtain ⟨d',z,q⟩:=h
  unfold jY at z
  split at z
  ·cases z;exact ⟨_,r.strI,rfl,q _ Hi H (Ext.refl s) (.bl _)⟩
  ·cases z) fun d c z=>by unfold jY at z;split at z<;>cases z
theorem zGY {op:CmpOp} {o:D->Res D} {r:R2} {y:V} (hp:PT X (.Compare a [op] [b] pos) (zHo (tOp r (tD X G f) (tC y)))) (hu:∀ σ H Q,tD X G (eUn o f) σ H Q->tOp r (tD X G f) (tC y) σ H Q):PTd X G (.Compare a [op] [b] pos) (dU (eUn o f)):=
 PT.wk hp fun σ H Q q=>by
  obtain ⟨ρ,Hi,R,ou⟩:=q
  refine hu σ H _ ⟨ρ,Hi,R,ou.bind.imp fun d Hi' H' e o v r=>?_⟩
  cases d with
  | bl c=>rw [r.blI];exact ⟨c,rfl,o.here e.s⟩
  | _=>exact o.elim
theorem zCh {T:List (Str×Str)} {ad:Addr} (t:IsTab X.K X.mg x T ad) (hg:Gl X x) (ha:PEd X G a f) (hm:behindInMarks .NotIn (.Name x p)=false) (hd:(x==("__debug__" : Str))=false:=by decide):PTd X G (.Compare a [.NotIn] [.Name x p] pos) (dU (eUn (jY T) f)):=
 zGY (uQ (zAV t) ha (zHO t hg hd) hm) zHl
end
end L3
namespace L3
open PySem PySem.Spec PyProof.Rows L2
unseal PEd PEf PTd PWd PAd PSd bZ POd PGd cX PId PSx dS PTs PCd PCf
section
variable {prog:Program} {w:World} {A:Around} {R:Result->Shared->Prop} {I:Addr} {fp wr:List Addr} {n:Nat} {P:Nat->Value->Prop} {St:Nat->Heap->Prop} {kw:List (Str×Value)}
def zEt (R:Result->Shared->Prop) (wr:List Addr) (S:Addr) (s:Shared) (P:Value->Prop):Prop:=
 ∀ v h' tk,P v->(∀ b o,b∉wr->b≠S->s.heap.get? b=some o->h'.get? b=some o)->R (.ok (.ret v)) { s with heap:=h',toks:=tk }
def zJc (s:Shared) (S:Addr) (vs:Array Value) (c:Nat):Prop:=s.heap.get? S=some { cls:=.type "list", dict:=none,data:=.seq vs c,slots:=#[] }
theorem vH:(toString "max" ++ toString ".loop" : String) = "max.loop" := by decide
theorem zEP (W:Walks prog w A.in1 I fp wr n P St) (bt:Nat->Nat->Bool) (hcmp:CmpOf prog w A.in1 .Gt P bt) (S:Addr) (hSf:S∉fp):
  ∀ (k j:Nat) (s:Shared) (vb:Value) (c:Nat),n - (j+1)=k->j+1<=n->St (j+1) s.heap->P (argBest bt j) vb->zJc s S #[vb,vb] c->zEt R wr S s (P (argBest bt (n - 1)))->
  codeAny (model prog w) A (.builtin "max.loop" ⟨[.ref I,.none,.ref S],kw⟩) R s:=by
 have hSw:S∉wr:=fun h=>hSf (W.sub _ h)
 intro k
 induction k with
 | zero=>
  intro j s vb c hk hj hst hPb hS hR
  have hin:j+1=n:=by omega
  refine codeAny_builtin F.entry_max_loop ?_;rw [Around.under_plainId F.plain_max_loop _]
  refine wpAny_bind (wpAny_seqItems hS rfl ?_)
  refine wpAny_bind (m:=tryCatch (pyNext (.ref I)) _) (wpAny_tryCatch (W.done s _ _ (hin ▸ hst) fun h' tk hk'=>?_))
  have hS':=hk' S _ hSw hS
  refine wpAny_bind (m:=updateSeq S (fun _=>#[])) (wpAny_updateSeq hS' rfl (wpAny_bind (wpAny_letGo (wpAny_pure ?_))))
  exact hR vb _ tk (by rw [<-hin];exact hPb) fun b o hbw hbS e=>(Heap.get?_update_other _ _ (Ne.symm hbS)).trans (hk' b o hbw e)
 | succ k ih=>
  intro j s vb c hk hj hst hPb hS hR
  have hlt:j+1 < n:=by omega
  refine codeAny_builtin F.entry_max_loop ?_;rw [Around.under_plainId F.plain_max_loop _]
  refine wpAny_bind (wpAny_seqItems hS rfl ?_)
  refine wpAny_bind (m:=tryCatch (pyNext (.ref I)) _) (wpAny_tryCatch (W.item (j+1) s _ _ hlt hst fun v h' tk hP hst' hk'=>?_))
  have hS':=hk' S _ hSw hS
  refine wpAny_bind (m:=tryCatch (holding [v,v] (richCompare .Gt v vb >>= _)) _) (wpAny_tryCatch (wpAny_holding (wpAny_bind (hcmp (j+1) (argBest bt j) v vb _ _ _ hP hPb ?_))))
  refine wpAny_bind (wpAny_holding (wpAny_truthy_bool (wpAny_bind (wpAny_letGo (wpAny_pure ?_)))))
  cases hb:bt (j+1) (argBest bt j) with
  | true=>
   simp only [if_true]
   refine wpAny_bind ?_;refine wpAny_updateSeq hS' rfl (wpAny_bind (wpAny_letGo ?_));rw [vH]
   refine wpAny_pure ⟨plainId_quiet F.plain_max_loop _,ih (j+1) _ v _ (by omega) hlt (W.frame _ _ _ hst' fun b hbf o e=>(Heap.get?_update_other _ _ (fun h:S=b=>hSf (by rw [h];exact hbf))).trans e) (by simp only [argBest,hb,if_true];exact hP) (Heap.get?_update_self _ hS' rfl) fun v' h'' tk'' hP' hk''=>?_⟩
   exact hR v' h'' tk'' hP' fun b o hbw hbS e=>hk'' b o hbw hbS ((Heap.get?_update_other _ _ (Ne.symm hbS)).trans (hk' b o hbw e))
  | false=>
   simp only [Bool.false_eq_true,if_false]
   refine wpAny_bind (wpAny_letGo ?_);rw [vH]
   exact wpAny_pure ⟨plainId_quiet F.plain_max_loop _,ih (j+1) _ vb c (by omega) hlt hst' (by simp only [argBest,hb,Bool.false_eq_true,if_false];exact hPb) hS' fun v' h'' tk'' hP' hk''=>hR v' h'' tk'' hP' fun b o hbw hbS e=>hk'' b o hbw hbS (hk' b o hbw e)⟩
theorem zDl (W:Walks prog w A.in1 I fp wr n P St) (bt:Nat->Nat->Bool) (hcmp:CmpOf prog w A.in1 .Gt P bt) (S:Addr) (hSf:S∉fp) (hn:0 < n) {s:Shared} {c:Nat} (hst:St 0 s.heap) (hS:zJc s S #[] c) (hR:zEt R wr S s (P (argBest bt (n - 1)))):
  codeAny (model prog w) A (.builtin "max.loop" ⟨[.ref I,.none,.ref S],kw⟩) R s:=by
 have hSw:S∉wr:=fun h=>hSf (W.sub _ h)
 refine codeAny_builtin F.entry_max_loop ?_;rw [Around.under_plainId F.plain_max_loop _]
 refine wpAny_bind (wpAny_seqItems hS rfl ?_)
 refine wpAny_bind (m:=tryCatch (pyNext (.ref I)) _) (wpAny_tryCatch (W.item 0 s _ _ hn hst fun v h' tk hP hst' hk'=>?_))
 have hS':=hk' S _ hSw hS
 refine wpAny_bind (m:=updateSeq S (fun _=>#[v,v])) (wpAny_updateSeq hS' rfl ?_);rw [vH]
 refine wpAny_pure ⟨plainId_quiet F.plain_max_loop _,zEP W bt hcmp S hSf _ 0 _ v _ rfl hn (W.frame _ _ _ hst' fun b hbf o e=>(Heap.get?_update_other _ _ (fun h:S=b=>hSf (by rw [h];exact hbf))).trans e) hP (Heap.get?_update_self _ hS' rfl) fun v' h'' tk'' hP' hk''=>?_⟩
 exact hR v' h'' tk'' hP' fun b o hbw hbS e=>hk'' b o hbw hbS ((Heap.get?_update_other _ _ (Ne.symm hbS)).trans (hk' b o hbw e))
theorem zEu {x:Str} {d:Value} (W:Walks prog w A.in1 I fp wr 0 P St) (S:Addr) (hSf:S∉fp) {s:Shared} {c:Nat} (hst:St 0 s.heap) (hS:zJc s S #[] c) (hR:zEt R wr S s (·=d)):
  codeAny (model prog w) A (.builtin "max.loop" ⟨[.ref I,.none,.ref S],[(x,d)]⟩) R s:=by
 refine codeAny_builtin F.entry_max_loop ?_;rw [Around.under_plainId F.plain_max_loop _]
 refine wpAny_bind (wpAny_seqItems hS rfl ?_)
 refine wpAny_bind (m:=tryCatch (pyNext (.ref I)) _) (wpAny_tryCatch (W.done s _ _ hst fun h' tk hk'=>?_))
 exact wpAny_bind (wpAny_rule (wpAny_pure (hR d h' tk rfl fun b o hbw _ e=>hk' b o hbw e)))
end
section
variable {X:Cx} {G:Gx} {a c:Expr} {pos p kp:Pos} {f g:Ev}
theorem zBu (num:Nat->Int):∀ k,num (argBest (fun i j=>decide (num i > num j)) k)=qC (num 0) ((List.range k).map fun i=>num (i+1))
 | 0=>rfl
 | k+1=>by
  rw [List.range_succ,List.map_append]
  have app:∀ (l:List Int) (a b:Int),qC a (l++[b])=if b > qC a l then b else qC a l:=by
   intro l
   induction l with
   | nil=>intro a b;rfl
   | cons x r ih=>intro a b;rw [List.cons_append,qC,ih,qC]
  rw [List.map_singleton,app,<-zBu num k]
  show num (if decide (num (k+1) > num (argBest _ k))=true then k+1 else argBest _ k)=_
  by_cases h:num (k+1) > num (argBest (fun i j=>decide (num i > num j)) k)
  ·rw [if_pos (decide_eq_true h),if_pos h]
  ·rw [if_neg (by simp [h]),if_neg h]
theorem uM (m:Int) (ns:List Int):(m::ns).getD (argBest (fun i j=>decide ((m::ns).getD i 0 > (m::ns).getD j 0)) ns.length) 0=qC m ns:=by
 rw [zBu (fun i=>(m::ns).getD i 0) ns.length]
 show qC m _=_
 congr 1
 refine List.ext_getElem? fun i=>?_
 rw [List.getElem?_map]
 by_cases h:i < ns.length
 ·rw [List.getElem?_range h,List.getElem?_eq_getElem h]
  show some ((m::ns).getD (i+1) 0)=_
  rw [List.getD_cons_succ,List.getD_eq_getElem?_getD,List.getElem?_eq_getElem h];rfl
 ·rw [List.getElem?_eq_none (by rw [List.length_range];omega),List.getElem?_eq_none (by omega)];rfl
def zJz (d:Int):List Int->Int
 | []=>d
 | m::r=>qC m r
def zGt (K:PySem.W.Frag):R2:=fun x y H Q=>∃ (ad:Addr) (d:Int) (ns:List Int),x=.ref ad/\y=.int d/\SqL K H ad (ns.map V.int)/\Q (.int (zJz d ns)) H
theorem zBQ (x v:Value):argsOk "max" ⟨[x],[(Str.ofString "default", v)]⟩:=by unfold argsOk;kernel_rfl
theorem zBy (hc:X.calm=true) {pins:List (Addr×Obj)} {s:Shared} {σ:St} {H:Hp} {ad:Addr} {d:Int} {t:Tok} {ns:List Int} {Q:VK} (I:Inv X pins σ H s) (hq:SqL X.K H ad (ns.map V.int)) (q:Q (.int (zJz d ns)) H):
  wpAny (model X.prog X.w) X.A (call (.builtin "max") [.ref ad] [(Str.ofString "default", .int d t)]) (EP X pins σ Q) X.xe s:=by
 have hh:=I.ok.hd hc
 obtain ⟨its,rv,p,hz⟩:=I.list hq
 have hlt:ad < s.heap.objs.size:=by obtain ⟨_,e,_⟩:=p.isList;exact Heap.lt_size e
 have hl:=rv.length
 rw [List.length_map] at hl
 refine kmk_tree F.kind_max F.plain_max F.entry_max (zBQ _ _) ?_
 refine wpAny_bind (m:=Builtin.Builtins.bindParams "max" ["key", "default"] 0 ⟨[],[(Str.ofString "default", .int d t)]⟩) (wpAny_of_eq (a:=[none,some (.int d t)]) (by first | rfl | kernel_rfl) ?_)
 refine wpAny_bind (wpAny_pure ?_)
 refine wpAny_bind (wpAny_pyIter_list p.isList ?_)
 refine wpAny_bind (wpAny_newObj_type ?_)
 rw [vH]
 refine wpAny_pure ⟨plainId_quiet F.plain_max_loop _,?_⟩
 have W:=Walks.list (prog:=X.prog) (w:=X.w) (A:=X.A.in1) hh s.heap.objs.size ad (Nat.ne_of_lt hlt) its.toArray
 have hSf:(s.heap.push { cls:=.type "list_iterator", data:=.fields #[.ref ad,.int 0 0] }).objs.size∉[s.heap.objs.size,ad]:=by
  rw [Heap.size_push]
  intro z
  rcases List.mem_cons.mp z with z | z
  ·exact Nat.succ_ne_self _ z
  ·exact Nat.lt_irrefl _ (Nat.lt_of_le_of_lt (Nat.le_of_eq (List.mem_singleton.mp z)) (Nat.lt_succ_of_lt hlt))
 have keep:∀ {h':Heap} {b:Addr} {o:Obj},(∀ b o,b∉[s.heap.objs.size]->b≠(s.heap.push { cls:=.type "list_iterator", data:=.fields #[.ref ad,.int 0 0] }).objs.size->((s.heap.push { cls:=.type "list_iterator", data:=.fields #[.ref ad,.int 0 0] }).push { cls:=.type "list", data:=.seq #[] }).get? b=some o->h'.get? b=some o)->s.heap.get? b=some o->h'.get? b=some o:=fun {h' b o} hk e=>by
  have l:=Heap.lt_size e
  refine hk b o (fun z=>?_) (fun z=>?_) (Heap.get?_push_of_some _ (Heap.get?_push_of_some _ e))
  ·rw [List.mem_singleton.mp z] at l;exact Nat.lt_irrefl _ l
  ·rw [z,Heap.size_push] at l;exact Nat.lt_irrefl _ (Nat.lt_of_succ_lt l)
 have hst:((s.heap.push { cls:=.type "list_iterator", data:=.fields #[.ref ad,.int 0 0] }).push { cls:=.type "list", data:=.seq #[] }).IsListIter s.heap.objs.size ad 0/\((s.heap.push { cls:=.type "list_iterator", data:=.fields #[.ref ad,.int 0 0] }).push { cls:=.type "list", data:=.seq #[] }).IsList ad its.toArray:=
  ⟨⟨_,Heap.get?_push_of_some _ (Heap.get?_push_size _ rfl),rfl,rfl⟩,(p.isList.push _).push _⟩
 cases ns with
 | nil=>
  have e0:its=[]:=List.eq_nil_of_length_eq_zero (by rw [<-hl];rfl)
  subst e0
  exact zEu W _ hSf hst (Heap.get?_push_size _ rfl) fun v h' tk hv hk=>⟨.int d,H,I.kept (t':=tk) fun b o e=>keep hk e,⟨t,hv⟩,q⟩
 | cons m r=>
  refine zDl W (fun i j=>decide ((m::r).getD i 0 > (m::r).getD j 0)) (CmpOf.ints_gt _ fun i v hv=>qH rv (by simpa using hv)) _ hSf (by rw [List.size_toArray,<-hl];exact Nat.succ_pos _) hst (Heap.get?_push_size _ rfl) fun v h' tk hv hk=>?_
  obtain ⟨t',rfl⟩:=qH rv (i:=argBest (fun i j=>decide ((m::r).getD i 0 > (m::r).getD j 0)) (its.toArray.size - 1)) (by simpa using hv)
  refine ⟨.int (qC m r),H,I.kept (t':=tk) fun b o e=>keep hk e,⟨t',?_⟩,q⟩
  rw [List.size_toArray,<-hl,List.length_cons,Nat.add_sub_cancel,uM]
theorem zFC {ta tb:TE} (hc:X.calm=true) (hg:Gl X "max") (hm:X.mg "max" = none) (ha:PE X a ta) (hb:PE X c tb) (hs:starEach [a] X.env=(false,eval a X.env)::starEach [] X.env:=by rfl):
  PE X (.Call (.Name "max" p) [a] [⟨some "default", c,kp⟩] pos) (tOp (zGt X.K) ta tb):=by
 intro pins s σ H Q I h
 refine wpAny_Call_Name_kw (iT I hg hm boot_max ?_ (by decide) (by decide))
 refine callWith_kw (thn ((cZ ha gB hs) pos pins s σ H (fun vs H1=>match vs with | [x]=>tb σ H1 fun y H2=>zGt X.K x y H2 Q | _=>False) I h) fun us s1 ⟨vs,H1,I1,r1,q1⟩=>?_) (by rw [hs];rfl) (by rw [hs];rfl)
 match vs,r1,q1 with
 | [x],r1,q1=>
  obtain ⟨u,rfl,ru⟩:=sN r1
  refine kws_cons (thn (hb pins s1 σ H1 _ I1 q1) fun v s2 ⟨y,H2,I2,r2,q2⟩=>kws_nil ?_)
  obtain ⟨ad,d,ns,rfl,rfl,hq,q⟩:=q2
  cases ru
  obtain ⟨t,rfl⟩:=r2
  exact zBy hc I2 hq q
theorem zFJ (hc:X.calm=true) (hg:Gl X "max") (hm:X.mg "max" = none) (ha:PEd X G a f) (hb:PEd X G c g) (hs:starEach [a] X.env=(false,eval a X.env)::starEach [] X.env:=by rfl):
  PEd X G (.Call (.Name "max" p) [a] [⟨some "default", c,kp⟩] pos) (eOp (fun x y=>vG [x,y]) f g):=PE.wk (zFC hc hg hm ha hb hs) (op2 ⟨fun a b c z=>(by
  replace z:vG [a,b]=_:=z
  unfold vG at z
  split at z
  ·split at z<;>cases z
  ·cases z),fun Hi H x y a b d Q s r1 r2 z q=>by
  replace z:vG [a,b]=_:=z
  unfold vG at z
  split at z
  ·rename_i ds d' he
   cases he
   obtain ⟨ad,xs,rfl,h1,h2⟩:=r1.lstI
   split at z
   ·rename_i m ns hns
    cases z
    have e:=fA h2 hns
    subst e
    exact ⟨ad,_,_,rfl,r2.intI,bD s h1,q _ Hi H (Ext.refl s) (.int _)⟩
   ·rename_i hns
    cases z
    have e:=fA h2 hns
    subst e
    exact ⟨ad,_,[],rfl,r2.intI,bD s h1,q _ Hi H (Ext.refl s) (.int _)⟩
   ·cases z
  ·cases z⟩)
end
end L3
namespace L3
open PySem PySem.Spec PyProof.Rows L2
unseal PEd PEf PTd PWd PAd PSd bZ POd PGd cX PId PSx dS PTs PCd PCf
section
variable {X:Cx} {G:Gx} {e:Expr} {pos:Pos} {f:Ev}
end
end L3
namespace L2
open PySem PySem.Spec PyProof.Rows
section
variable {κ:Type} [DecidableEq κ]
end
abbrev KT (H:Hp):List (List Key×V)->List (List Key×Addr×Value)->Prop:=Paired fun p q=>p.1=q.1/\H q.2.1=some (.tup (p.1.map kV))/\bU p.2 q.2.2
section
variable {P:Program} {w:World} {H:Hp} {h:Heap} {a:Addr}
end
section
variable {X:Cx} {pins:List (Addr×Obj)} {σ:St} {H:Hp} {s:Shared} {a:Addr} {y v:V} {u r:Value} {o:Option V} {A:Around} {E:Value->Shared->Prop}
end
section
variable {X:Cx} {pins:List (Addr×Obj)} {σ:St} {H:Hp} {s:Shared} {a:Addr} {kvs:List (Key×V)} {k:Key} {u:Value} {A:Around} {E:Value->Shared->Prop}
end
section
variable {X:Cx} {o i e value:Expr} {pos pos' tpos:Pos} {td ty tv:TE}
end
section
variable {X:Cx} {pos:Pos}
end
end L2
namespace L3
open PySem PySem.Spec PyProof.Rows L2
unseal PEd PEf PTd PWd PAd PSd bZ POd PGd cX PId PSx dS PTs PCd PCf
section
variable {X:Cx} {G:Gx} {a b c e:Expr} {pos p2 p:Pos} {f g h:Ev} {fs:Fv} {x:Str}
theorem Rel.setS {K:PySem.W.Frag} {mg:Str->Option Value} {B Bi Hi H:Hp} {σ:St} {ρ:Rho} {i:Nat} {v:V} {s:Sl} (R:Rel K mg B Bi Hi H σ ρ) (h:tT K mg B Hi H (some (some v)) s) (hs:∀ ds,s≠.own ds):
  Rel K mg B Bi Hi H (σ.set i (some v)) (ρ.set i s) where
 len:=by rw [List.length_set,List.length_set];exact R.len
 ext:=R.ext
 slot:=fun j t q=>by
  by_cases e:i=j
  ·subst e
   by_cases hl:i < ρ.length
   ·rw [List.getElem?_set_self hl] at q;cases q
    rw [List.getElem?_set_self (by rw [R.len];exact hl)];exact h
   ·rw [List.getElem?_eq_none (by rw [List.length_set];omega)] at q;cases q
  ·rw [List.getElem?_set_ne e] at q ⊢
   exact R.slot j t q
 dist:=fun j k a ds es q1 q2 q3 q4=>by
  have h1:∀ {j:Nat} {ds:List D},(ρ.set i s)[j]?=some (.own ds)->i≠j:=fun {j ds} q e=>by
   subst e
   by_cases hl:i < ρ.length
   ·rw [List.getElem?_set_self hl] at q;exact hs ds (Option.some.inj q)
   ·rw [List.getElem?_eq_none (by rw [List.length_set];omega)] at q;cases q
  have n1:=h1 q1
  have n2:=h1 q2
  rw [List.getElem?_set_ne n1] at q1 q3
  rw [List.getElem?_set_ne n2] at q2 q4
  exact R.dist j k a ds es q1 q2 q3 q4
end
end L3
namespace L3
open PySem PySem.Spec PyProof.Rows L2
def itN (k:Bool):String:=if k then "list_iterator" else "tuple_iterator"
def rJ (k:Bool) (h:Heap) (it l:Addr) (i:Nat):Prop:=if k then h.IsListIter it l i else h.IsTupleIter it l i
def kT (k:Bool) (h:Heap) (l:Addr) (xs:Array Value):Prop:=if k then h.IsList l xs else h.IsTuple l xs
theorem rJ.get {k:Bool} {h:Heap} {it l:Addr} {i:Nat} (x:rJ k h it l i):∃ o,h.get? it=some o/\o.cls=.type (itN k)/\o.data=.fields #[.ref l,.int i 0]:=by
 cases k<;>(obtain ⟨o,a,b,c⟩:=x;exact ⟨o,a,b,c⟩)
theorem rJ.mk {k:Bool} {h:Heap} {it l:Addr} {i:Nat} {o:Obj} (a:h.get? it=some o) (b:o.cls=.type (itN k)) (c:o.data=.fields #[.ref l,.int i 0]):rJ k h it l i:=by
 cases k<;>exact ⟨o,a,b,c⟩
theorem rJ.go {k:Bool} {h h':Heap} {it l:Addr} {i:Nat} (x:rJ k h it l i) (g:∀ o,h.get? it=some o->h'.get? it=some o):rJ k h' it l i:=by
 obtain ⟨o,a,b,c⟩:=x.get
 exact .mk (g o a) b c
theorem kT.go {k:Bool} {h h':Heap} {l:Addr} {xs:Array Value} (x:kT k h l xs) (g:∀ o,h.get? l=some o->h'.get? l=some o):kT k h' l xs:=by
 cases k<;>(obtain ⟨o,a,b⟩:=x;exact ⟨o,g o a,b⟩)
section
variable {prog:Program} {w:World} {A:Around} {E:Value->Shared->Prop} {s:Shared}
theorem qM {k:Bool} {l:Addr} {xs:Array Value} {Q:Value->Shared->Prop} (hl:kT k s.heap l xs) (hQ:Q (.ref s.heap.objs.size) { s with heap:=s.heap.push { cls:=.type (itN k),data:=.fields #[.ref l,.int 0 0] } }):
  wpAny (model prog w) A (pyIter (.ref l)) Q E s:=by
 cases k
 ·exact wpAny_pyIter_tuple hl hQ
 ·exact wpAny_pyIter_list hl hQ
theorem nxT {it t:Addr} {i:Nat} {items:Array Value} {Q:Value->Shared->Prop} (hh:A.handled=none∨(items[i]?).isSome=true) (x:s.heap.IsTupleIter it t i) (y:s.heap.IsTuple t items)
  (go:∀ v,items[i]?=some v->∀ h2,h2.IsTupleIter it t (i+1)->Heap.SameBut it s.heap h2->Q v { s with heap:=h2 })
  (stop:items[i]?=none->∀ h2 e,Heap.ExtBut it s.heap h2->(∃ ob,h2.get? e=some ob/\ob.cls=.type "StopIteration")->E (.ref e) { s with heap:=h2 }):wpAny (model prog w) A (Builtin.SmallTypes.nextOf (.ref it)) Q E s:=by
 obtain ⟨oi,ei,ci,di⟩:=id x
 obtain ⟨ot,et,_,nt,dt⟩:=y
 have nn:¬ ((Value.ref t==Value.none)=true):=Bool.false_ne_true
 unfold Builtin.SmallTypes.nextOf
 refine wpAny_bind (wpAny_callSpecial?_slot (name:=Str.ofString "__next__") x.typeIs F.slot_tuple_iterator_next (wpAny_call_entry F.slot_tuple_iterator_next x.typeIs F.entry_tuple_iterator_next (show wpAny _ _ (field _ 0 >>= _) _ _ s from wpAny_bind (wpAny_field ei di (x:=.ref t) rfl ?_)) (F.args_tuple_iterator_next_1 _)))
 show wpAny _ _ (ite ((Value.ref t==Value.none)=true) _ _) _ _ s
 rw [if_neg nn]
 refine show wpAny _ _ (field _ 1 >>= _) _ _ s from wpAny_bind (wpAny_field ei di (x:=.int i 0) rfl (show wpAny _ _ (seqItems? _ >>= _) _ _ s from wpAny_bind (wpAny_seqItems et dt ?_)))
 have fr:∀ g:Array Value->Array Value,Heap.get? (s.heap.update it (Obj.mapFields g)) it=some (Obj.mapFields g oi):=fun g=>Heap.get?_update_self _ ei (Obj.isFreed_of_fields (Obj.data_mapFields di g))
 cases q:items[i]? with
 | some v=>
  simp only [Int.toNat_natCast,q]
  refine wpAny_bind (wpAny_setField ei di (by simp) (wpAny_pure ⟨v,rfl,wpAny_pure (go v q _ ⟨_,fr _,(Obj.cls_mapFields ..).trans ci,?_⟩ (Heap.SameBut.update ..))⟩))
  rw [Obj.data_mapFields di]
  simp [rawInt]
 | none=>
  have hh:A.handled=none:=hh.elim id fun z=>by rw [q] at z;cases z
  simp only [Int.toNat_natCast,q]
  refine wpAny_bind (wpAny_rule (wpAny_bind (wpAny_setField ei di (by simp) (show wpAny _ _ (newExc _ [] >>= _) _ _ _ from wpAny_bind ?_))))
  simp only [newExc,newTuple]
  refine wpAny_bind (wpAny_newObj_type (wpAny_bind (m:=firstArgMember _ _) (wpAny_of_eq (a:=Value.none) (by first | rfl | (simp only [firstArgMember];rfl)) (wpAny_newObj_type ?_ (by size_fits)))) (by size_fits))
  simp only [raiseNew]
  refine wpAny_bind (wpAny_handled ?_)
  rw [show A.in1.handled=none from hh]
  exact wpAny_bind (wpAny_pure (wpAny_throw (stop q _ _ (((Heap.SameBut.update ..).extBut.push _).push _) ⟨_,Heap.get?_push_size _ rfl,rfl⟩)))
theorem uW {k:Bool} {it t:Addr} {i:Nat} {items:Array Value} {x:Value} {Q:Value->Shared->Prop} (hit:rJ k s.heap it t i) (ht:kT k s.heap t items) (hx:items[i]?=some x)
  (hQ:∀ h',rJ k h' it t (i+1)->Heap.SameBut it s.heap h'->Q x { s with heap:=h' }):wpAny (model prog w) A (Builtin.SmallTypes.nextOf (.ref it)) Q E s:=by
 cases k
 ·exact nxT (.inr (by rw [hx];rfl)) hit ht (fun v q h2 g1 g2=>by rw [hx] at q;cases q;exact hQ h2 g1 g2) fun q=>by rw [hx] at q;cases q
 ·exact wpAny_nextOf_list_item hit ht hx hQ
theorem wE {k:Bool} {it t:Addr} {i:Nat} {items:Array Value} {Q:Value->Shared->Prop} (hh:A.handled=none) (hit:rJ k s.heap it t i) (ht:kT k s.heap t items) (hx:items[i]?=none)
  (hE:∀ h' e,Heap.ExtBut it s.heap h'->(∃ o,h'.get? e=some o/\o.cls=.type "StopIteration")->E (.ref e) { s with heap:=h' }):wpAny (model prog w) A (Builtin.SmallTypes.nextOf (.ref it)) Q E s:=by
 cases k
 ·exact nxT (.inl hh) hit ht (fun v q=>by rw [hx] at q;cases q) fun _=>hE
 ·exact wpAny_nextOf_list_end hh hit ht hx hE
theorem zGJ {k:Bool} (hh:A.handled=none) (it l:Addr) (hne:l≠it) (items:Array Value):Draws prog w A it [it,l] items.size (fun i v=>items[i]?=some v) (fun i h=>rJ k h it l i/\kT k h l items) where
 live:=fun _ _ st=>let ⟨o,ho,_⟩:=st.1.get;⟨o,ho⟩
 frame:=fun _ _ _ st hk=>⟨st.1.go fun o e=>hk it (by simp) o e,st.2.go fun o e=>hk l (by simp) o e⟩
 item:=fun i s Q E hi st hQ=>by
  refine uW st.1 st.2 (x:=items[i]) (by simp [hi]) fun h' hit' hs'=>?_
  exact hQ _ h' s.toks (by simp [hi]) ⟨hit',st.2.go fun o e=>hs'.extBut _ o hne e⟩ hs'
 done:=fun s Q E st hE=>wE hh st.1 st.2 (by simp) hE
def oQ (f0:Value) (k1 k2:Bool) (l1 l2 n:Addr) (j1 j2:Nat) (h:Heap):Prop:=
 IsZip h (n+4) (n+2) (n+3) f0/\IsPair h (n+2) (.ref n) (.ref (n+1))/\(∃ a b,IsPair h (n+3) a b)/\rJ k1 h n l1 j1/\rJ k2 h (n+1) l2 j2
def iH (n:Addr) (h h2:Heap):Prop:=∀ c o,c≠n+4->c≠n+3->c≠n->c≠n+1->h.get? c=some o->h2.get? c=some o
theorem iH.then {n:Addr} {h h1 h2:Heap} (a:iH n h h1) (b:iH n h1 h2):iH n h h2:=fun c o c1 c2 c3 c4 e=>b c o c1 c2 c3 c4 (a c o c1 c2 c3 c4 e)
theorem iH.eb {n a:Addr} {h h2:Heap} (k:Heap.ExtBut a h h2) (m:a=n+4∨a=n+3∨a=n∨a=n+1):iH n h h2:=fun c o c1 c2 c3 c4 e=>k c o (fun z=>by subst z;rcases m with m | m | m | m<;>contradiction) e
theorem iH.sq {k:Bool} {n l:Addr} {h h2:Heap} {xs:Array Value} (a:iH n h h2) (hl:l < n) (x:kT k h l xs):kT k h2 l xs:=
 x.go fun o e=>a l o (Nat.ne_of_lt (Nat.lt_add_right 4 hl)) (Nat.ne_of_lt (Nat.lt_add_right 3 hl)) (Nat.ne_of_lt hl) (Nat.ne_of_lt (Nat.lt_succ_of_lt hl)) e
theorem zCZ (n:Addr):n+3≠n+4/\n+2≠n+4/\n≠n+4/\n+1≠n+4/\n+2≠n+3/\n≠n+3/\n+1≠n+3/\n+2≠n/\n+1≠n/\n+2≠n+1:=by
 refine ⟨?_,?_,?_,?_,?_,?_,?_,?_,?_,?_⟩<;>(intro z;have z':(_:Nat)=_:=z;omega)
theorem oQ.fld {f0:Value} {k1 k2:Bool} {l1 l2 n:Addr} {j1 j2:Nat} {h h2:Heap} (g:oQ f0 k1 k2 l1 l2 n j1 j2 h) {f1:Value} (z:IsZip h2 (n+4) (n+2) (n+3) f1) (s:Heap.ExtBut (n+4) h h2):oQ f1 k1 k2 l1 l2 n j1 j2 h2:=by
 obtain ⟨_,g2,⟨a,b,g3⟩,g4,g5⟩:=g
 obtain ⟨e1,e2,e3,e4,_⟩:=zCZ n
 exact ⟨z,s _ _ e2 g2,⟨a,b,s _ _ e1 g3⟩,g4.go fun o e=>s _ o e3 e,g5.go fun o e=>s _ o e4 e⟩
theorem oQ.it1 {f0:Value} {k1 k2:Bool} {l1 l2 n:Addr} {j1 j2 m:Nat} {h h2:Heap} (g:oQ f0 k1 k2 l1 l2 n j1 j2 h) (z:rJ k1 h2 n l1 m) (s:Heap.ExtBut n h h2):oQ f0 k1 k2 l1 l2 n m j2 h2:=by
 obtain ⟨g1,g2,⟨a,b,g3⟩,_,g5⟩:=g
 obtain ⟨e1,e2,e3,e4,e5,e6,e7,e8,e9,_⟩:=zCZ n
 exact ⟨s _ _ e3.symm g1,s _ _ e8 g2,⟨a,b,s _ _ e6.symm g3⟩,z,g5.go fun o e=>s _ o e9 e⟩
theorem oQ.it2 {f0:Value} {k1 k2:Bool} {l1 l2 n:Addr} {j1 j2 m:Nat} {h h2:Heap} (g:oQ f0 k1 k2 l1 l2 n j1 j2 h) (z:rJ k2 h2 (n+1) l2 m) (s:Heap.ExtBut (n+1) h h2):oQ f0 k1 k2 l1 l2 n j1 m h2:=by
 obtain ⟨g1,g2,⟨a,b,g3⟩,g4,_⟩:=g
 obtain ⟨e1,e2,e3,e4,e5,e6,e7,e8,e9,e10⟩:=zCZ n
 exact ⟨s _ _ e4.symm g1,s _ _ e10 g2,⟨a,b,s _ _ e7.symm g3⟩,g4.go fun o e=>s _ o e9.symm e,z⟩
theorem oQ.out {f0 a b:Value} {k1 k2:Bool} {l1 l2 n:Addr} {j1 j2:Nat} {h h2:Heap} (g:oQ f0 k1 k2 l1 l2 n j1 j2 h) (z:IsPair h2 (n+3) a b) (s:Heap.ExtBut (n+3) h h2):oQ f0 k1 k2 l1 l2 n j1 j2 h2:=by
 obtain ⟨g1,g2,_,g4,g5⟩:=g
 obtain ⟨e1,e2,e3,e4,e5,e6,e7,_⟩:=zCZ n
 exact ⟨s _ _ e1.symm g1,s _ _ e5 g2,⟨a,b,z⟩,g4.go fun o e=>s _ o e6 e,g5.go fun o e=>s _ o e7 e⟩
theorem zKa {k1 k2:Bool} {n l1 l2:Addr} {j:Nat} {xs ys:Array Value} {Q:PySem.Fin->Shared->Prop} (hh:A.handled=none) (b1:l1 < n) (b2:l2 < n) (g:oQ .none k1 k2 l1 l2 n j j s.heap) (d1:kT k1 s.heap l1 xs) (d2:kT k2 s.heap l2 ys)
  (go:∀ x y,xs[j]?=some x->ys[j]?=some y->∀ h2,oQ (rawInt s.heap.objs.size) k1 k2 l1 l2 n (j+1) (j+1) h2->IsPair h2 s.heap.objs.size x y->iH n s.heap h2->Q (.done (.ret (.ref s.heap.objs.size))) { s with heap:=h2 })
  (stop:xs[j]?=none∨ys[j]?=none->∀ h2 e,iH n s.heap h2->(∃ o,h2.get? e=some o/\o.cls=.type "StopIteration")->E (.ref e) { s with heap:=h2 }):
  wpAny (model prog w) A (Builtin.«zip.__next__» ⟨[.ref (n+4)],[]⟩) Q E s:=by
 have stopZ:∀ {h1:Heap} {e:Addr} {v:Value} {k:Nat} {R:Unit->Shared->Prop},(xs[j]?=none∨ys[j]?=none)->iH n s.heap h1->IsZip h1 (n+4) (n+2) (n+3) .ellipsis->(∃ o,h1.get? e=some o/\o.cls=.type "StopIteration")->k < 5->
   (∀ h3,iH n s.heap h3->(∃ o,h3.get? e=some o/\o.cls=.type "StopIteration")->R () { s with heap:=h3 })->wpAny (model prog w) A (setField (.ref (n+4)) k v) R E { s with heap:=h1 }:=by
  intro h1 e v k R q kz z he hk fin
  obtain ⟨oe,e1,e2⟩:=he
  have nz:e≠n+4:=fun y=>by subst y;rw [z] at e1;cases e1;simp at e2
  exact wpAny_setField_rec z (by simpa using hk) fun h3 _ s3=>fin h3 (kz.then (.eb s3.extBut (.inl rfl))) ⟨oe,s3.extBut _ _ nz e1,e2⟩
 obtain ⟨z0,t0,⟨a,b,p0⟩,_⟩:=id g
 refine show wpAny _ _ (field _ 2 >>= _) _ _ s from wpAny_bind (wpAny_field z0 rfl (x:=.bool false) rfl (show wpAny _ _ (field _ 3 >>= _) _ _ s from wpAny_bind (wpAny_field z0 rfl (x:=.ref (n+2)) rfl (wpAny_bind (wpAny_seqItems t0 rfl (wpAny_bind ?_))))))
 unfold Builtin.SmallTypes.ownedTupleIsFree
 refine wpAny_bind (wpAny_field z0 rfl (x:=.none) rfl (wpAny_pure ?_))
 simp only [if_true]
 refine wpAny_bind (wpAny_rule (wpAny_bind (wpAny_field z0 rfl (x:=.ref (n+3)) rfl (wpAny_bind (wpAny_setField_rec z0 (by simp) fun h1 z1 s1=>wpAny_bind ?_)))))
 have g1:oQ .ellipsis k1 k2 l1 l2 n j j h1:=g.fld z1 s1.extBut
 have k1':iH n s.heap h1:=.eb s1.extBut (.inl rfl)
 simp only [List.zipIdx_cons,List.zipIdx_nil,List.forIn_cons,List.forIn_nil]
 refine wpAny_bind (wpAny_bind (wpAny_onRaise (show wpAny _ _ (Builtin.SmallTypes.nextOf _ >>= _) _ _ _ from wpAny_bind ?_)))
 cases q1:xs[j]? with
 | none=>
  refine wE (s:={ s with heap:=h1 }) hh g1.2.2.2.1 (k1'.sq b1 d1) q1 fun h2 e x2 he=>stopZ (.inl q1) (k1'.then (.eb x2 (.inr (.inr (.inl rfl))))) (x2 _ _ (zCZ n).2.2.1.symm g1.1) he (by decide) fun h3=>stop (.inl q1) h3 e
 | some x=>
  refine uW (s:={ s with heap:=h1 }) g1.2.2.2.1 (k1'.sq b1 d1) q1 fun h2 i2 s2=>wpAny_pure ?_
  have g2:=g1.it1 i2 s2.extBut
  have k2':=k1'.then (.eb s2.extBut (.inr (.inr (.inl rfl))))
  have p2:IsPair h2 (n+3) a b:=s2.extBut _ _ (zCZ n).2.2.2.2.2.1.symm (s1.extBut _ _ (zCZ n).1 p0)
  refine wpAny_bind (wpAny_seqItems (s:={ s with heap:=h2 }) p2 rfl (wpAny_bind (wpAny_updateSeq_pair p2 fun h3 p3 s3=>wpAny_bind (wpAny_letGo (wpAny_pure ?_)))))
  have g3:=g2.out p3 s3.extBut
  have k3':=k2'.then (.eb s3.extBut (.inr (.inl rfl)))
  refine wpAny_bind (wpAny_bind (wpAny_onRaise (show wpAny _ _ (Builtin.SmallTypes.nextOf _ >>= _) _ _ _ from wpAny_bind ?_)))
  cases q2:ys[j]? with
  | none=>
   refine wE (s:={ s with heap:=h3 }) hh g3.2.2.2.2 (k3'.sq b2 d2) q2 fun h4 e x4 he=>stopZ (.inr q2) (k3'.then (.eb x4 (.inr (.inr (.inr rfl))))) (x4 _ _ (zCZ n).2.2.2.1.symm g3.1) he (by decide) fun h5=>stop (.inr q2) h5 e
  | some y=>
   refine uW (s:={ s with heap:=h3 }) g3.2.2.2.2 (k3'.sq b2 d2) q2 fun h4 i4 s4=>wpAny_pure ?_
   have g4:=g3.it2 i4 s4.extBut
   have p4:IsPair h4 (n+3) x b:=s4.extBut _ _ (zCZ n).2.2.2.2.2.2.1.symm p3
   refine wpAny_bind (wpAny_seqItems (s:={ s with heap:=h4 }) p4 rfl (wpAny_bind (wpAny_updateSeq_pair p4 fun h5 p5 s5=>wpAny_bind (wpAny_letGo (wpAny_pure (wpAny_pure ?_))))))
   have p5:IsPair h5 (n+3) x y:=p5
   have g5:=g4.out p5 s5.extBut
   have k5':=(k3'.then (.eb s4.extBut (.inr (.inr (.inr rfl))))).then (.eb s5.extBut (.inr (.inl rfl)))
   have sz:h5.objs.size=s.heap.objs.size:=s5.1.trans (s4.1.trans (s3.1.trans (s2.1.trans s1.1)))
   refine wpAny_bind (wpAny_seqItems (s:={ s with heap:=h5 }) p5 rfl (wpAny_bind (wpAny_newTuple (show wpAny _ _ (Builtin.SmallTypes.ownedTupleHandOut _ (.ref h5.objs.size) >>= _) _ _ _ from wpAny_bind ?_))))
   unfold Builtin.SmallTypes.ownedTupleHandOut
   refine wpAny_bind (wpAny_setField_rec (Heap.get?_push_of_some _ g5.1) (by simp) fun h7 z7 s7=>wpAny_setField_rec z7 (by simp) fun h8 z8 s8=>wpAny_pure ?_)
   have nz:h5.objs.size≠n+4:=Nat.ne_of_gt (Heap.lt_size g5.1)
   have x8:Heap.ExtBut (n+4) h5 h8:=fun c o c1 e=>s8.extBut _ _ c1 (s7.extBut _ _ c1 (Heap.get?_push_of_some _ e))
   have g8:oQ (rawInt h5.objs.size) k1 k2 l1 l2 n (j+1) (j+1) h8:=g5.fld z8 x8
   have t8:IsPair h8 h5.objs.size x y:=s8.extBut _ _ nz (s7.extBut _ _ nz (Heap.get?_push_size _ rfl))
   rw [sz] at g8 t8
   show Q (.done (.ret (.ref h5.objs.size))) _
   rw [sz]
   exact go x y q1 q2 h8 g8 t8 (k5'.then (.eb x8 (.inl rfl)))
theorem zJy {k1 k2:Bool} {n l1 l2:Addr} {j:Nat} {xs ys:Array Value} {Q:Option Value->Shared->Prop} (hh:A.handled=none) (b1:l1 < n) (b2:l2 < n) (g:oQ .none k1 k2 l1 l2 n j j s.heap) (d1:kT k1 s.heap l1 xs) (d2:kT k2 s.heap l2 ys)
  (go:∀ x y,xs[j]?=some x->ys[j]?=some y->∀ h2,oQ (rawInt s.heap.objs.size) k1 k2 l1 l2 n (j+1) (j+1) h2->IsPair h2 s.heap.objs.size x y->iH n s.heap h2->Q (some (.ref s.heap.objs.size)) { s with heap:=h2 })
  (stop:xs[j]?=none∨ys[j]?=none->∀ h2,iH n s.heap h2->Q none { s with heap:=h2 }):wpAny (model prog w) A (pyNext (.ref (n+4))) Q E s:=by
 have ty:s.TypeIs (.ref (n+4)) "zip" := ⟨_,g.1,rfl⟩
 unfold pyNext
 refine wpAny_bind (wpAny_attempt (wpAny_callSpecial?_slot (name:=Str.ofString "__next__") ty F.slot_zip_next (wpAny_call_entry F.slot_zip_next ty F.entry_zip_next
  (zKa hh b1 b2 g d1 d2 (fun x y q1 q2 h2 a1 a2 a3=>⟨_,rfl,wpAny_pure (go x y q1 q2 h2 a1 a2 a3)⟩) fun q h2 e k he=>?_) (F.args_zip_next_1 _))))
 obtain ⟨o,eo,co⟩:=he
 exact wpAny_bind (wpAny_isInstance (T := "StopIteration") (b:=true) ⟨o,eo,co⟩ isSubtype_stop (wpAny_pure (stop q h2 k)))
end
abbrev zO (k:Bool) (l:Addr):Obj:={ cls:=.type (itN k),data:=.fields #[.ref l,.int 0 0] }
abbrev zH2 (k1 k2:Bool) (h:Heap) (l1 l2:Addr):Heap:=(h.push (zO k1 l1)).push (zO k2 l2)
abbrev zH3 (k1 k2:Bool) (h:Heap) (l1 l2:Addr):Heap:=(zH2 k1 k2 h l1 l2).push { cls:=.type "tuple", data:=.seq #[.ref h.objs.size,.ref (h.push (zO k1 l1)).objs.size] }
abbrev zH4 (k1 k2:Bool) (h:Heap) (l1 l2:Addr):Heap:=(zH3 k1 k2 h l1 l2).push { cls:=.type "tuple", data:=.seq #[.none,.none] }
abbrev zH5 (k1 k2:Bool) (h:Heap) (l1 l2:Addr):Heap:=(zH4 k1 k2 h l1 l2).push { cls:=.type "zip", data:=.fields #[.none,.bool false,.bool false,.ref (zH2 k1 k2 h l1 l2).objs.size,.ref (zH3 k1 k2 h l1 l2).objs.size] }
theorem zCd (k1 k2:Bool) (l1 l2:Addr) (xs ys:Array Value):Meets (Builtin.«zip.__new__» ⟨[.type "zip", .ref l1,.ref l2],[]⟩) (fun _ R s=>kT k1 s.heap l1 xs/\kT k2 s.heap l2 ys/\
  R (.ok (.ret (.ref (zH4 k1 k2 s.heap l1 l2).objs.size))) { s with heap:=zH5 k1 k2 s.heap l1 l2 }):=
 .of_wp fun prog w A R s h=>by
  obtain ⟨hp,g,d,tk,os⟩:=s
  obtain ⟨hl1,hl2,h⟩:=h
  have hsub:=sub_zip
  have d1:kT k1 (Shared.heap ⟨hp,g,d,tk,os⟩) l1 xs:=hl1
  have d2:kT k2 (Shared.heap ⟨hp.push { cls:=.type (itN k1),data:=.fields #[.ref l1,.int 0 0] },g,d,tk,os⟩) l2 ys:=hl2.go fun o e=>Heap.get?_push_of_some _ e
  wp_walk using qM d1,qM d2
  exact ⟨_,rfl,h⟩
section
variable {prog:Program} {w:World} {A:Around} {E:Value->Shared->Prop} {s:Shared}
theorem zCR {k1 k2:Bool} {l1 l2:Addr} {xs ys:Array Value} {Q:Value->Shared->Prop} (d1:kT k1 s.heap l1 xs) (d2:kT k2 s.heap l2 ys)
  (h:∀ h2,oQ .none k1 k2 l1 l2 s.heap.objs.size 0 0 h2->(∀ c o,s.heap.get? c=some o->h2.get? c=some o)->Q (.ref (s.heap.objs.size+4)) { s with heap:=h2 }):wpAny (model prog w) A (call (.type "zip") [.ref l1,.ref l2]) Q E s:=by
 refine callType_new F.called_zip (by decide) (F.typeCall_zip_2 _ _) (F.newCall_zip_2 _ _) (fun obj=>F.args_object_init_3 obj _ _) F.entry_zip_new (zCd k1 k2 l1 l2 xs ys) ⟨d1,d2,?_⟩
 have up:∀ {h:Heap} {a:Addr} {o ob:Obj},h.get? a=some o->(h.push ob).get? a=some o:=fun e=>Heap.get?_push_of_some _ e
 have m1:(s.heap.push (zO k1 l1)).objs.size=s.heap.objs.size+1:=Heap.size_push ..
 have m2:(zH2 k1 k2 s.heap l1 l2).objs.size=s.heap.objs.size+2:=(Heap.size_push ..).trans (congrArg (·+1) m1)
 have m3:(zH3 k1 k2 s.heap l1 l2).objs.size=s.heap.objs.size+3:=(Heap.size_push ..).trans (congrArg (·+1) m2)
 have m4:(zH4 k1 k2 s.heap l1 l2).objs.size=s.heap.objs.size+4:=(Heap.size_push ..).trans (congrArg (·+1) m3)
 have r0:(zH5 k1 k2 s.heap l1 l2).get? s.heap.objs.size=some (zO k1 l1):=up (up (up (up (Heap.get?_push_size _ rfl))))
 have r1:(zH5 k1 k2 s.heap l1 l2).get? (s.heap.push (zO k1 l1)).objs.size=some (zO k2 l2):=up (up (up (Heap.get?_push_size _ rfl)))
 have r2:(zH5 k1 k2 s.heap l1 l2).get? (zH2 k1 k2 s.heap l1 l2).objs.size=some _:=up (up (Heap.get?_push_size _ rfl))
 have r3:(zH5 k1 k2 s.heap l1 l2).get? (zH3 k1 k2 s.heap l1 l2).objs.size=some _:=up (Heap.get?_push_size _ rfl)
 have r4:(zH5 k1 k2 s.heap l1 l2).get? (zH4 k1 k2 s.heap l1 l2).objs.size=some _:=Heap.get?_push_size _ rfl
 rw [m1] at r1
 rw [m1,m2] at r2
 rw [m3] at r3
 rw [m2,m3,m4] at r4
 show _/\_
 rw [m4]
 exact ⟨⟨_,r4,rfl⟩,h _ ⟨r4,r2,⟨_,_,r3⟩,.mk r0 rfl rfl,.mk r1 rfl rfl⟩ fun c o x=>up (up (up (up (up x))))⟩
end
end L3
namespace L3
open PySem PySem.Spec PyProof.Rows L2
section
variable {X:Cx} {pins:List (Addr×Obj)} {σ:St} {H:Hp} {s:Shared} {h':Heap} {fp:List Addr}
theorem zBG {t':Nat} {p:Addr} {xs:List V} {us:List Value} (I:Inv X pins σ H s) (hf:∀ b∈fp,kP X pins H b) (k:∀ b o,b∉fp->s.heap.get? b=some o->h'.get? b=some o)
  (hp:s.heap.objs.size<=p) (ht:IsTup h' p us.toArray) (hv:cG xs us) (hz:xs.length<=sizeLine):Inv X pins σ (upd H p (.tup xs)) { s with heap:=h',toks:=t' }:=by
 have hn:H p=none:=I.hok.fresh hp
 have nf:∀ b u,H b=some u->b∉fp:=fun b u e z=>by rw [(hf b z).1] at e;cases e
 have np:∀ b u,H b=some u->upd H p (.tup xs) b=some u:=fun b u e=>by rw [aJ (aM e hn)];exact e
 refine I.step (g':=s.gens) (d':=s.drawn) (ch:=fp) (fun b hb=>⟨(hf b hb).2.2.2.1,(hf b hb).2.1,(hf b hb).2.2.2.2.1,(hf b hb).2.2.2.2.2⟩) (fun b o _ _ hc e _=>k b o hc e) (fun b o _ _ hc e _=>⟨o.slots,k b o hc e⟩) (fun b o _ e n=>?_)
  (fun b o hc e=>⟨o,k b o hc e⟩) (fun b xs e=>np _ _ e) (fun b o u e=>np _ _ e) (fun b ps e=>⟨#[],by rw [np _ _ e];simp⟩) (fun m hm=>?_) (fun b u e=>?_) I.bare
 ·rw [aJ (Nat.ne_of_lt (Nat.lt_of_lt_of_le (Heap.lt_size e) hp))];exact n
 ·obtain ⟨o,es,ep,ho,r⟩:=hm
  exact ⟨o,es,ep,k _ o (fun z=>(hf _ z).2.1 rfl) ho,r⟩
 ·by_cases hb:b=p
  ·subst hb
   rw [aI] at e;cases e
   exact ⟨hz,us,hv,ht⟩
  ·rw [aJ hb] at e
   refine (I.hok b u e).stay (fun c v hc q=>k c v ?_ q) (fun _ q=>np _ _ q) fun _ _ q=>np _ _ q
   rcases hc with z | z
   ·rw [z];exact nf b u e
   ·exact nf c _ z
theorem zY {t':Nat} (I:Inv X pins σ H s) (hf:∀ b∈fp,kP X pins H b) (k:∀ b o,b∉fp->s.heap.get? b=some o->h'.get? b=some o):Inv X pins σ H { s with heap:=h',toks:=t' }:=by
 have nf:∀ b u,H b=some u->b∉fp:=fun b u e z=>by rw [(hf b z).1] at e;cases e
 refine I.step (g':=s.gens) (d':=s.drawn) (ch:=fp) (fun b hb=>⟨(hf b hb).2.2.2.1,(hf b hb).2.1,(hf b hb).2.2.2.2.1,(hf b hb).2.2.2.2.2⟩) (fun b o _ _ hc e _=>k b o hc e) (fun b o _ _ hc e _=>⟨o.slots,k b o hc e⟩) (fun b o _ e n=>n)
  (fun b o hc e=>⟨o,k b o hc e⟩) (fun b xs e=>e) (fun b o u e=>e) (fun b ps e=>⟨#[],by rw [e];simp⟩) (fun m hm=>?_) (fun b u e=>?_) I.bare
 ·obtain ⟨o,es,ep,ho,r⟩:=hm
  exact ⟨o,es,ep,k _ o (fun z=>(hf _ z).2.1 rfl) ho,r⟩
 ·refine (I.hok b u e).stay (fun c v hc q=>k c v ?_ q) (fun _ q=>q) fun _ _ q=>q
  rcases hc with z | z
  ·rw [z];exact nf b u e
  ·exact nf c _ z
end
def SqK (k:Bool) (K:PySem.W.Frag) (H:Hp) (a:Addr) (xs:List V):Prop:=if k then SqL K H a xs else SqT K H a xs
theorem iR {k:Bool} {K:PySem.W.Frag} {H H':Hp} (e:Same H H') {a:Addr} {xs:List V} (h:SqK k K H a xs):SqK k K H' a xs:=by
 cases k
 ·exact aZ e h
 ·exact bD e h
section
variable {X:Cx} {pins:List (Addr×Obj)} {σ:St} {H:Hp} {s:Shared} {k:Bool} {a:Addr} {xs ys:List V}
theorem sqI (I:Inv X pins σ H s) (h:SqK k X.K H a xs):∃ its:List Value,cG xs its/\kT k s.heap a its.toArray/\xs.length<=sizeLine:=by
 cases k
 ·obtain ⟨its,rv,p,hz⟩:=I.tuple h
  exact ⟨its,rv,p,hz⟩
 ·obtain ⟨its,rv,p,hz⟩:=I.list h
  exact ⟨its,rv,p.isList,hz⟩
theorem uY (I:Inv X pins σ H s) (h:SqK k X.K H a xs) (h':SqK k X.K H a ys):xs=ys:=by
 cases k
 ·exact I.tuple_inj h h'
 ·exact I.list_inj h h'
theorem kT.lt {h:Heap} {l:Addr} {xs:Array Value} (x:kT k h l xs):l < h.objs.size:=by
 cases k<;>(obtain ⟨o,e,_⟩:=x;exact Heap.lt_size e)
end
def Itz (K:PySem.W.Frag) (k1 k2:Bool) (a1 a2:Addr):It:=
  ⟨fun i H=>∃ xs ys x y,SqK k1 K H a1 xs/\SqK k2 K H a2 ys/\xs[i]?=some x/\ys[i]?=some y,
   fun i H v H'=>∃ p x y,v=.ref p/\H p=none/\H'=upd H p (.tup [x,y])/\(∀ xs,SqK k1 K H a1 xs->xs[i]?=some x)/\∀ ys,SqK k2 K H a2 ys->ys[i]?=some y,
   fun i H=>∃ xs ys,SqK k1 K H a1 xs/\SqK k2 K H a2 ys/\(xs.length<=i∨ys.length<=i)⟩
def zKd (k1 k2:Bool) (a1 a2 n:Addr) (i:Nat) (h:Heap):Prop:=oQ .none k1 k2 a1 a2 n i i h
theorem iA {h:Heap} {b:Addr} {o:Obj} {d:Data} (e:h.get? b=some o) (hd:o.data=d) (nd:∀ v,d≠.cell v):∃ o,h.get? b=some o/\∀ v,o.data≠.cell v:=⟨o,e,fun v z=>nd v (hd.symm.trans z)⟩
theorem zDg {P:Program} {w:World} {K:PySem.W.Frag} {elts:List Expr} {x1:Nat} {tp:Pos} (k1 k2:Bool) (a1 a2 n:Addr) (l1:a1 < n) (l2:a2 < n):
  Turn P w K (.Tuple elts x1 tp) (Itz K k1 k2 a1 a2) [n+4,n+2,n+3,n,n+1] (n+4) (zKd k1 k2 a1 a2 n) where
 mem:=by simp
 obj:=fun i h st b hb=>by
  obtain ⟨t1,t2,⟨a,b',t3⟩,t4,t5⟩:=st
  obtain ⟨o4,e4,_,d4⟩:=t4.get
  obtain ⟨o5,e5,_,d5⟩:=t5.get
  simp only [List.mem_cons,List.not_mem_nil,or_false] at hb
  rcases hb with rfl | rfl | rfl | rfl | rfl
  ·exact iA t1 rfl fun v z=>by cases z
  ·exact iA t2 rfl fun v z=>by cases z
  ·exact iA t3 rfl fun v z=>by cases z
  ·exact iA e4 d4 fun v z=>by cases z
  ·exact iA e5 d5 fun v z=>by cases z
 keep:=fun i h h' st k=>by
  obtain ⟨t1,t2,⟨a,b',t3⟩,t4,t5⟩:=st
  exact ⟨k _ (by simp) _ t1,k _ (by simp) _ t2,⟨a,b',k _ (by simp) _ t3⟩,t4.go fun o e=>k _ (by simp) o e,t5.go fun o e=>k _ (by simp) o e⟩
 item:=by
  intro X hP hw hK hc i pins s σ H E I hf st hg
  subst hP hw hK
  obtain ⟨xs,ys,x,y,q1,q2,hx,hy⟩:=hg
  obtain ⟨us,r1,s1,z1⟩:=sqI I q1
  obtain ⟨ws,r2,s2,z2⟩:=sqI I q2
  obtain ⟨u,hu,ru⟩:=r1.get hx
  obtain ⟨v,hv,rv⟩:=r2.get hy
  have hu':us.toArray[i]?=some u:=by simpa using hu
  have hv':ws.toArray[i]?=some v:=by simpa using hv
  have st':=st
  obtain ⟨t1,t2,⟨a,b,t3⟩,t4,t5⟩:=st
  refine zJy (I.ok.hd hc) l1 l2 st' s1 s2 (fun x' y' f1 f2 h' g' p' kz=>?_) (fun q=>?_)
  rotate_left
  ·rw [hu',hv'] at q;rcases q with q | q<;>cases q
  rw [hu'] at f1;cases f1
  rw [hv'] at f2;cases f2
  refine ⟨_,rfl,wpAny_letOwnedTupleGo_zip (s:={ s with heap:=h' }) g'.1 fun h'' c1 c2=>?_⟩
  have zl:s.heap.objs.size≠n+4:=Nat.ne_of_gt (Heap.lt_size t1)
  have np:H s.heap.objs.size=none:=I.hok.fresh (Nat.le_refl _)
  have I1:Inv X pins σ (upd H s.heap.objs.size (.tup [x,y])) { s with heap:=h'',toks:=s.toks }:=zBG (us:=[u,v]) I hf (fun b o hb e=>by
    simp only [List.mem_cons,List.not_mem_nil,or_false,not_or] at hb
    exact c2.extBut b o hb.1 (kz b o hb.1 hb.2.2.1 hb.2.2.2.1 hb.2.2.2.2 e)) (Nat.le_refl _) ⟨_,c2.extBut _ _ zl p',rfl,_,rfl⟩ (.cons ru (.cons rv .nil)) (show 2<=sizeLine by decide)
  refine ⟨.ref s.heap.objs.size,_,I1,rfl,⟨_,x,y,rfl,np,rfl,fun zs hz=>by rw [uY I hz q1];exact hx,fun zs hz=>by rw [uY I hz q2];exact hy⟩,g'.fld c1 c2.extBut,fun b hb=>?_⟩
  ·obtain ⟨o,e,_⟩:∃ o,s.heap.get? b=some o/\True:=by
    obtain ⟨o4,e4,_⟩:=t4.get
    obtain ⟨o5,e5,_⟩:=t5.get
    simp only [List.mem_cons,List.not_mem_nil,or_false] at hb
    rcases hb with rfl | rfl | rfl | rfl | rfl
    ·exact ⟨_,t1,trivial⟩
    ·exact ⟨_,t2,trivial⟩
    ·exact ⟨_,t3,trivial⟩
    ·exact ⟨_,e4,trivial⟩
    ·exact ⟨_,e5,trivial⟩
   rw [aJ (Nat.ne_of_lt (Heap.lt_size e))]
   exact (hf b hb).1
 done:=by
  intro X hP hw hK hc i pins s σ H E I hf st hg
  subst hP hw hK
  obtain ⟨xs,ys,q1,q2,hl⟩:=hg
  obtain ⟨us,r1,s1,z1⟩:=sqI I q1
  obtain ⟨ws,r2,s2,z2⟩:=sqI I q2
  have st':=st
  obtain ⟨t1,t2,⟨a,b,t3⟩,t4,t5⟩:=st
  have e1:=r1.length
  have e2:=r2.length
  refine zJy (I.ok.hd hc) l1 l2 st' s1 s2 (fun x y f1 f2=>?_) fun _ h' b7=>⟨rfl,zY (t':=s.toks) I hf fun b o hb e=>?_⟩
  ·have m1:=(Array.getElem?_eq_some_iff.mp f1).1
   have m2:=(Array.getElem?_eq_some_iff.mp f2).1
   rw [List.size_toArray] at m1 m2
   omega
  ·simp only [List.mem_cons,List.not_mem_nil,or_false,not_or] at hb
   exact b7 b o hb.1 hb.2.2.1 hb.2.2.2.1 hb.2.2.2.2 e
 self:=fun _ _ _ _ _ st h=>wpAny_pyIter_zip st.1 h
abbrev eO (n:Addr):Obj:={ cls:=.type "enumerate", data:=.fields #[.none,.bool false,.ref n,rawInt 0,.none,.none] }
theorem zAC (k:Bool) (l:Addr) (xs:Array Value):Meets (Builtin.«enumerate.__new__» ⟨[.type "enumerate", .ref l],[]⟩) (fun _ R s=>kT k s.heap l xs/\
  R (.ok (.ret (.ref (s.heap.push (zO k l)).objs.size))) { s with heap:=(s.heap.push (zO k l)).push (eO s.heap.objs.size) }):=
 .of_wp fun prog w A R s h=>by
  cases s with | mk hp g d tk os=>
  have d1:kT k (Shared.heap ⟨hp,g,d,tk,os⟩) l xs:=h.1
  have fin:=h.2
  have hsub:=sub_enumerate
  obtain ⟨ob,ho⟩:∃ ob,hp.get? l=some ob:=by cases k<;>(obtain ⟨o,e,_⟩:=d1;exact ⟨o,e⟩)
  clear h
  wp_walk using AutoSeq1.wpAny_loadPart' ho
  refine wpAny_stack_any fun st=>wpAny_pure ?_
  split
  ·rename_i c _ _ _ _ _
   cases (c==Value.type "enumerate")<;>(wp_walk using AutoSeq1.wpAny_loadPart' ho,qM d1;exact ⟨_,rfl,fin⟩)
  ·wp_walk using AutoSeq1.wpAny_loadPart' ho,qM d1
   exact ⟨_,rfl,fin⟩
theorem zBR {prog:Program} {w:World} {A:Around} {E:Value->Shared->Prop} {s:Shared} {k:Bool} {l:Addr} {xs:Array Value} {Q:Value->Shared->Prop} (sq:kT k s.heap l xs)
  (h:∀ h2,IsEnum h2 (s.heap.objs.size+1) s.heap.objs.size 0 .none->rJ k h2 s.heap.objs.size l 0->(∀ c o,s.heap.get? c=some o->h2.get? c=some o)->Q (.ref (s.heap.objs.size+1)) { s with heap:=h2 }):
  wpAny (model prog w) A (call (.type "enumerate") [.ref l]) Q E s:=by
 refine callType_new F.called_enumerate (by decide) (F.typeCall_enumerate_1 _) (F.newCall_enumerate_1 _) (fun obj=>F.args_object_init_2 obj _) F.entry_enumerate_new (zAC k l xs) ⟨sq,?_⟩
 have m1:(s.heap.push (zO k l)).objs.size=s.heap.objs.size+1:=Heap.size_push ..
 have r0:((s.heap.push (zO k l)).push (eO s.heap.objs.size)).get? s.heap.objs.size=some (zO k l):=Heap.get?_push_of_some _ (Heap.get?_push_size _ rfl)
 have r1:((s.heap.push (zO k l)).push (eO s.heap.objs.size)).get? (s.heap.push (zO k l)).objs.size=some (eO s.heap.objs.size):=Heap.get?_push_size _ rfl
 show _/\_
 rw [m1] at r1 ⊢
 exact ⟨⟨_,r1,rfl⟩,h _ r1 (.mk r0 rfl rfl) fun c o x=>Heap.get?_push_of_some _ (Heap.get?_push_of_some _ x)⟩
def Ite (K:PySem.W.Frag) (k:Bool) (a:Addr):It:=
  ⟨fun i H=>∃ xs x,SqK k K H a xs/\xs[i]?=some x,
   fun i H v H'=>∃ p x,v=.ref p/\H p=none/\H'=upd H p (.tup [.int i,x])/\∀ xs,SqK k K H a xs->xs[i]?=some x,
   fun i H=>∃ xs,SqK k K H a xs/\xs.length<=i⟩
def EnS (k:Bool) (a n:Addr) (i:Nat) (h:Heap):Prop:=(∃ old,IsEnum h (n+1) n i old)/\rJ k h n a i
theorem zH {P:Program} {w:World} {K:PySem.W.Frag} {elts:List Expr} {x1:Nat} {tp:Pos} (k:Bool) (a n:Addr) (l1:a < n):
  Turn P w K (.Tuple elts x1 tp) (Ite K k a) [n+1,n] (n+1) (EnS k a n) where
 mem:=by simp
 obj:=fun i h st b hb=>by
  obtain ⟨⟨old,t1⟩,t2⟩:=st
  obtain ⟨o4,e4,_,d4⟩:=t2.get
  simp only [List.mem_cons,List.not_mem_nil,or_false] at hb
  rcases hb with rfl | rfl
  ·exact iA t1 rfl fun v z=>by cases z
  ·exact iA e4 d4 fun v z=>by cases z
 keep:=fun i h h' st k=>by
  obtain ⟨⟨old,t1⟩,t2⟩:=st
  exact ⟨⟨old,k _ (by simp) _ t1⟩,t2.go fun o e=>k _ (by simp) o e⟩
 item:=by
  intro X hP hw hK hc i pins s σ H E I hf st hg
  subst hP hw hK
  obtain ⟨xs,x,q1,hx⟩:=hg
  obtain ⟨us,r1,s1,z1⟩:=sqI I q1
  obtain ⟨u,hu,ru⟩:=r1.get hx
  obtain ⟨⟨old,t1⟩,t2⟩:=st
  have hi:i < us.toArray.size:=by simpa using (List.getElem?_eq_some_iff.mp hu).1
  have en:n+1∉[n,a]:=fun z=>by
   rcases List.mem_cons.mp z with z | z
   ·exact Nat.succ_ne_self n z
   ·exact Nat.ne_of_gt (Nat.lt_succ_of_lt l1) (List.mem_singleton.mp z)
  have D:=zGJ (prog:=X.prog) (w:=X.w) (A:=X.A.in1) (k:=k) (I.ok.hd hc) n a (Nat.ne_of_lt l1) us.toArray
  refine wpAny_pyNext_enum_itemD D t1 ⟨t2,s1⟩ hi (Nat.succ_ne_self n) en fun v h' tk b0 b1 b2 b3 _ b7=>⟨_,rfl,wpAny_letOwnedTupleGo_enum (s:={ s with heap:=h',toks:=tk+1 }) b1 fun h'' c1 c2=>?_⟩
  have hv:v=u:=by
   have:us.toArray[i]?=some u:=by simpa using hu
   rw [this] at b0;cases b0;rfl
  subst hv
  have zl:s.heap.objs.size≠n+1:=Nat.ne_of_gt (Heap.lt_size t1)
  have np:H s.heap.objs.size=none:=I.hok.fresh (Nat.le_refl _)
  have I1:Inv X pins σ (upd H s.heap.objs.size (.tup [.int i,x])) { s with heap:=h'',toks:=tk+1 }:=zBG (us:=[.int i tk,v]) I hf (fun b o hb e=>by
    simp only [List.mem_cons,List.not_mem_nil,or_false,not_or] at hb
    exact c2.extBut b o hb.1 (b7 b o hb.1 hb.2 e)) (Nat.le_refl _) ⟨_,c2.extBut _ _ zl b3,rfl,_,rfl⟩ (.cons ⟨_,rfl⟩ (.cons ru .nil)) (show 2<=sizeLine by decide)
  refine ⟨.ref s.heap.objs.size,_,I1,rfl,⟨_,x,rfl,np,rfl,fun zs hz=>by rw [uY I hz q1];exact hx⟩,⟨⟨v,by simpa using c1⟩,b2.1.go fun o e=>c2.extBut _ o (Nat.ne_of_lt (Nat.lt_succ_self n)) e⟩,fun b hb=>?_⟩
  obtain ⟨o,e,_⟩:∃ o,s.heap.get? b=some o/\True:=by
   obtain ⟨o4,e4,_⟩:=t2.get
   simp only [List.mem_cons,List.not_mem_nil,or_false] at hb
   rcases hb with rfl | rfl
   ·exact ⟨_,t1,trivial⟩
   ·exact ⟨_,e4,trivial⟩
  rw [aJ (Nat.ne_of_lt (Heap.lt_size e))]
  exact (hf b hb).1
 done:=by
  intro X hP hw hK hc i pins s σ H E I hf st hg
  subst hP hw hK
  obtain ⟨xs,q1,hl⟩:=hg
  obtain ⟨us,r1,s1,z1⟩:=sqI I q1
  obtain ⟨⟨old,t1⟩,t2⟩:=st
  have e1:=r1.length
  have hT:s.TypeIs (.ref (n+1)) "enumerate" := ⟨_,t1,rfl⟩
  unfold pyNext
  refine wpAny_bind (wpAny_attempt (wpAny_callSpecial?_slot (name:=Str.ofString "__next__") hT F.slot_enumerate_next (wpAny_call_entry F.slot_enumerate_next hT F.entry_enumerate_next ?_ (F.args_enumerate_next_1 _))))
  show wpAny _ _ (field (.ref (n+1)) 2 >>= _) _ _ _
  refine wpAny_bind (wpAny_field t1 rfl (x:=.ref n) rfl ?_)
  refine wpAny_bind (wE (I.ok.hd hc) t2 s1 (by simp;omega) fun h' x he' hx'=>?_)
  obtain ⟨o,ho,hc⟩:=hx'
  refine wpAny_bind (wpAny_isInstance (T := "StopIteration") (b:=true) ⟨o,ho,hc⟩ isSubtype_stop ?_)
  refine wpAny_pure ⟨rfl,zY (t':=s.toks) I hf fun b o hb e=>?_⟩
  simp only [List.mem_cons,List.not_mem_nil,or_false,not_or] at hb
  exact he' b o hb.2 e
 self:=fun _ _ _ _ _ st h=>wpAny_pyIter_enum st.1.choose_spec h
section
unseal PEd PEf PTd PWd PAd PSd bZ POd PGd cX PId PSx dS PTs PCd PCf
variable {X:Cx} {G:Gx} {fs:Fv} {f:Ev}
def iZp (K:PySem.W.Frag) (ta:TA):TI:=fun σ H R=>ta σ H fun vs H1=>∃ k1 k2 a1 a2 xs ys,vs=[.ref a1,.ref a2]/\SqK k1 K H1 a1 xs/\SqK k2 K H1 a2 ys/\R (Itz K k1 k2 a1 a2) H1
theorem zHu {a b:Expr} {ta:TA} {p pos:Pos} {elts:List Expr} {x1:Nat} {tp:Pos} (hg:Gl X "zip") (hm:X.mg "zip" = none) (ha:PA X [a,b] ta)
  (hs:starEach [a,b] X.env=[(false,eval a X.env),(false,eval b X.env)]:=by rfl) (hs2:starEach [b] X.env=[(false,eval b X.env)]:=by rfl):PI X (.Tuple elts x1 tp) (.Call (.Name "zip" p) [a,b] [] pos) (iZp X.K ta):=by
 intro pins s σ H R I h
 refine Call_ (iT I hg hm boot_zip (PyProof.Rows.callWith_type1 (thn (ha pos pins s σ H _ I h) fun us s1 ⟨vs,H1,I1,r1,q1⟩=>?_) (by rw [hs,hs2]) (by rw [hs2];rfl)))
 obtain ⟨k1,k2,a1,a2,xs,ys,rfl,h1,h2,q⟩:=q1
 cases r1 with
 | cons r rr=>
  cases rr with
  | cons r' rr=>
   cases rr
   cases r
   cases r'
   obtain ⟨us,rv,p1,z1⟩:=sqI I1 h1
   obtain ⟨ws,rw_,p2,z2⟩:=sqI I1 h2
   refine zCR p1 p2 fun h' b1 b6=>wpAny_pyIter_zip (s:={ s1 with heap:=h' }) b1.1 ?_
   refine ⟨s1.heap.objs.size+4,_,_,_,H1,rfl,I1.kept (t':=s1.toks) b6,zDg k1 k2 a1 a2 s1.heap.objs.size p1.lt p2.lt,b1,fun b hb=>?_,q⟩
   have hb':s1.heap.objs.size<=b:=by
    simp only [List.mem_cons,List.not_mem_nil,or_false] at hb
    rcases hb with rfl | rfl | rfl | rfl | rfl<;>omega
   exact I1.fpOk hb' (I1.hok.fresh hb')
theorem sL:∀ (xs ys:List D) (i:Nat) (d:D),(iG xs ys)[i]?=some d->∃ a b,xs[i]?=some a/\ys[i]?=some b/\d=.tup [a,b]
 | a::r,b::q,0,d,h=>by cases h;exact ⟨a,b,rfl,rfl,rfl⟩
 | a::r,b::q,i+1,d,h=>sL r q i d h
 | [],_,i,d,h=>by cases i<;>cases h
 | a::r,[],i,d,h=>by cases i<;>cases h
theorem rO:∀ (xs ys:List D),(iG xs ys).length=min xs.length ys.length
 | a::r,b::q=>by
  have:=rO r q
  simp only [iG,List.length_cons,this]
  omega
 | [],_=>by simp [iG]
 | a::r,[]=>by simp [iG]
theorem yX {K:PySem.W.Frag} {Hi:Hp} {k1 k2:Bool} {a1 a2:Addr} {xs ys:List V} {ds es:List D} (h1:SqK k1 K Hi a1 xs) (h2:IsDs K Hi xs ds) (h3:SqK k2 K Hi a2 ys) (h4:IsDs K Hi ys es):
  Gives K Hi (Itz K k1 k2 a1 a2) (iG ds es):=fun Hi1 H1 s1 s2 i=>by
 have g1:=iR (s1.trans s2) h1
 have g3:=iR (s1.trans s2) h3
 refine ⟨fun hl=>⟨xs,ys,g1,g3,?_⟩,fun d hd=>?_⟩
 ·rw [rO] at hl
  have e1:=h2.length
  have e2:=h4.length
  omega
 ·obtain ⟨a,b,ha,hb,rfl⟩:=sL ds es i d hd
  obtain ⟨v,hv,rv⟩:=h2.at ha
  obtain ⟨w,hw,rw_⟩:=h4.at hb
  refine ⟨⟨xs,ys,v,w,g1,g3,hv,hw⟩,fun x H2 y=>?_⟩
  obtain ⟨p,x',y',rfl,hp,rfl,y1,y2⟩:=y
  have e1:=y1 xs g1
  have e2:=y2 ys g3
  rw [hv] at e1;cases e1
  rw [hw] at e2;cases e2
  have hi:=s2.none hp
  have sm:=bA hi (.tup [v,w])
  exact ⟨upd Hi1 p (.tup [v,w]),Ext.new s2 hp,.tup (.inl (.inl aI)) (.cons ((rv.mono s1).mono sm) (.cons ((rw_.mono s1).mono sm) .nil))⟩
theorem zJx {K:PySem.W.Frag} {H:Hp} {v:V} {d:D} {ds:List D} (h:IsD K H v d) (e:zCc d=some ds):∃ k a xs,v=.ref a/\SqK k K H a xs/\IsDs K H xs ds:=by
 cases d with
 | lst es=>cases e;obtain ⟨a,xs,rfl,h1,h2⟩:=h.lstI;exact ⟨true,a,xs,rfl,h1,h2⟩
 | tup es=>cases e;obtain ⟨a,xs,rfl,h1,h2⟩:=h.tupI;exact ⟨false,a,xs,rfl,h1,h2⟩
 | _=>cases e
theorem zGR {a b:Expr} {p pos:Pos} {elts:List Expr} {x1:Nat} {tp:Pos} (hg:Gl X "zip") (hm:X.mg "zip" = none) (ha:PAd X G [a,b] fs)
  (hs:starEach [a,b] X.env=[(false,eval a X.env),(false,eval b X.env)]:=by rfl) (hs2:starEach [b] X.env=[(false,eval b X.env)]:=by rfl):
  PId X G (.Tuple elts x1 tp) (.Call (.Name "zip" p) [a,b] [] pos) (zHr fs):=PI.wk (zHu hg hm ha hs hs2) fun σ H Q q=>by
 obtain ⟨ρ,Hi,R,ou⟩:=q
 refine zDP R ou fun vs ds Hi1 H1 e1 R1 r1 o1=>?_
 split at o1
 ·rename_i x y
  obtain ⟨v,w,rfl,h,h'⟩:=r1.two
  split at o1
  ·rename_i ds es q1 q2
   obtain ⟨k1,a1,xs,rfl,g1,g2⟩:=zJx h q1
   obtain ⟨k2,a2,ys,rfl,g3,g4⟩:=zJx h' q2
   exact ⟨k1,k2,a1,a2,xs,ys,rfl,iR R1.s g1,iR R1.s g3,o1.here R1.s _ (yX g1 g2 g3 g4)⟩
  ·exact o1.elim
 ·exact o1.elim
def iEn (K:PySem.W.Frag) (ta:TA):TI:=fun σ H R=>ta σ H fun vs H1=>∃ k a xs,vs=[.ref a]/\SqK k K H1 a xs/\R (Ite K k a) H1
theorem zEm {a:Expr} {ta:TA} {p pos:Pos} {elts:List Expr} {x1:Nat} {tp:Pos} (hg:Gl X "enumerate") (hm:X.mg "enumerate" = none) (ha:PA X [a] ta) (hs:starEach [a] X.env=[(false,eval a X.env)]:=by rfl):
  PI X (.Tuple elts x1 tp) (.Call (.Name "enumerate" p) [a] [] pos) (iEn X.K ta):=by
 intro pins s σ H R I h
 refine Call_ (iT I hg hm boot_enumerate (PyProof.Rows.callWith_type1 (thn (ha pos pins s σ H _ I h) fun us s1 ⟨vs,H1,I1,r1,q1⟩=>?_) hs rfl))
 obtain ⟨k,t,xs,rfl,hq,q⟩:=q1
 cases r1 with
 | cons r rr=>
  cases rr
  cases r
  obtain ⟨its,rv,pt,hz⟩:=sqI I1 hq
  refine zBR pt fun h' b1 b2 b6=>wpAny_pyIter_enum (s:={ s1 with heap:=h' }) b1 ?_
  refine ⟨s1.heap.objs.size+1,_,_,_,H1,rfl,I1.kept (t':=s1.toks) b6,zH k t s1.heap.objs.size pt.lt,⟨⟨_,b1⟩,b2⟩,fun b hb=>?_,q⟩
  have hb':s1.heap.objs.size<=b:=by
   simp only [List.mem_cons,List.not_mem_nil,or_false] at hb
   rcases hb with rfl | rfl<;>omega
  exact I1.fpOk hb' (I1.hok.fresh hb')
theorem rT:∀ (xs:List D) (n i:Nat) (d:D),(gI n xs)[i]?=some d->∃ a,xs[i]?=some a/\d=.tup [.int ((n+i:Nat):Int),a]
 | a::r,n,0,d,h=>by cases h;exact ⟨a,rfl,rfl⟩
 | a::r,n,i+1,d,h=>by
  obtain ⟨b,h1,h2⟩:=rT r (n+1) i d h
  exact ⟨b,h1,by rw [h2];congr 4;omega⟩
 | [],n,i,d,h=>by cases i<;>cases h
theorem sM:∀ (xs:List D) (n:Nat),(gI n xs).length=xs.length
 | a::r,n=>by simp only [gI,List.length_cons,sM r (n+1)]
 | [],n=>rfl
theorem oI {K:PySem.W.Frag} {Hi:Hp} {k:Bool} {a:Addr} {xs:List V} {ds:List D} (h1:SqK k K Hi a xs) (h2:IsDs K Hi xs ds):Gives K Hi (Ite K k a) (gI 0 ds):=fun Hi1 H1 s1 s2 i=>by
 have g1:=iR (s1.trans s2) h1
 refine ⟨fun hl=>⟨xs,g1,?_⟩,fun d hd=>?_⟩
 ·rw [sM] at hl
  rw [h2.length];exact hl
 ·obtain ⟨a,ha,rfl⟩:=rT ds 0 i d hd
  obtain ⟨v,hv,rv⟩:=h2.at ha
  refine ⟨⟨xs,v,g1,hv⟩,fun x H2 y=>?_⟩
  obtain ⟨p,x',rfl,hp,rfl,y1⟩:=y
  have e1:=y1 xs g1
  rw [hv] at e1;cases e1
  have hi:=s2.none hp
  rw [Nat.zero_add]
  exact ⟨upd Hi1 p (.tup [.int i,v]),Ext.new s2 hp,.tup (.inl (.inl aI)) (.cons (.int _) (.cons ((rv.mono s1).mono (bA hi _)) .nil))⟩
theorem zHt {a:Expr} {p pos:Pos} {elts:List Expr} {x1:Nat} {tp:Pos} (hg:Gl X "enumerate") (hm:X.mg "enumerate" = none) (ha:PEd X G a f) (hst:starEach [a] X.env=[(false,eval a X.env)]:=by rfl):
  PId X G (.Tuple elts x1 tp) (.Call (.Name "enumerate" p) [a] [] pos) (zDd f):=PI.wk (zEm hg hm (cZ ha gB (by rw [hst];rfl)) hst) fun σ H Q q=>by
 obtain ⟨ρ,Hi,R,ou⟩:=q
 refine nJ R ou fun v d Hi1 H1 e1 R1 r1 o1=>?_
 cases d with
 | lst ds=>
  obtain ⟨a,xs,rfl,h1,h2⟩:=r1.lstI
  exact ⟨true,a,xs,rfl,bD R1.s h1,o1.here R1.s _ (oI (k:=true) h1 h2)⟩
 | tup ds=>
  obtain ⟨a,xs,rfl,h1,h2⟩:=r1.tupI
  exact ⟨false,a,xs,rfl,aZ R1.s h1,o1.here R1.s _ (oI (k:=false) h1 h2)⟩
 | _=>exact o1.elim
end
end L3
namespace L3
open PySem PySem.Spec PyProof.Rows L2
unseal PEd PEf PTd PWd PAd PSd bZ POd PGd cX PId PSx dS PTs PCd PCf
structure BlkOk2 (X:Cx) (xs:List Str) (scope:Scope):Prop where
 kind:scope.kind=.function
 cell:∀ y∈scope.names,y.2≠.cell
 loc:∀ x∈xs,scope.names.lookup x=some .local
 names:∀ y∈scope.names,y.2=.local->scope.names.lookup y.1=some .local
 fre:∀ p∈scope.names,p.2=.free->X.env.kindOf p.1=some .cell∨X.env.kindOf p.1=some .free
 oth:∀ y∈X.N,scope.names.lookup y≠some .local
def tY (X:Cx) (xs:List Str) (scope:Scope) (C:Addr) (s₂:Shared) (H₂:Hp) (fp:List Addr):Cx:=
  { prog:=X.prog,w:=X.w,K:=X.K,mg:=X.mg,base:=X.base,A:=X.A,N:=X.N++xs,s₀:=s₂,H₀:=H₂,env:=compEnvC scope (uA X.env scope.names []) C X.env,outer:=X.stack,stack:=X.stack,
    ex:=fp,fn:=fun _=>false,calm:=X.calm,pn:=X.pn,xe:=fun _ _=>False }
section
variable {X:Cx} {pins:List (Addr×Obj)} {σ:St} {H:Hp} {s₂:Shared} {xs:List Str} {scope:Scope} {fp:List Addr} {D C:Addr} {h₁:Heap}
theorem BlkOk2.cl (B:BlkOk2 X xs scope) (I:Inv X pins σ H s₂):∀ p∈scope.names,p.2=.free->∃ c,X.env.cells.lookup p.1=some c:=fun p hp e=>I.ok.has p.1 (B.fre p hp e)
theorem zGb (I:Inv X pins σ H s₂) (B:BlkOk2 X xs scope) (hfp:∀ b∈fp,kP X pins H b) (hfl:∀ b∈fp,b < s₂.heap.objs.size) (hD:s₂.heap.objs.size<=D) (hC:s₂.heap.objs.size<=C) (hDC:D≠C)
  (old:∀ b o,s₂.heap.get? b=some o->h₁.get? b=some o) {n:Nat} (hacc:h₁.get? D=some { cls:=.type "list", data:=.seq ([]:List Value).toArray n }) {m:Str->Option Value} (hns:h₁.Ns C m) (t:Nat):
  Inv (tY X xs scope C s₂ H fp) pins (σ++xs.map fun _=>none) (upd H D (.lst [])) { s₂ with heap:=h₁,toks:=t }:=by
 have sub:=nB scope.names [] (B.cl I) (fun y c e=>nomatch e)
 have old_lt:∀ {b:Addr} {o:Obj},s₂.heap.get? b=some o->b≠D/\b≠C:=fun e=>⟨Nat.ne_of_lt (Nat.lt_of_lt_of_le (Heap.lt_size e) hD),Nat.ne_of_lt (Nat.lt_of_lt_of_le (Heap.lt_size e) hC)⟩
 have free:∀ {b:Addr},b≠D->H b=none->upd H D (.lst []) b=none:=fun n e=>by rw [aJ n];exact e
 refine ⟨⟨I.ok.mod,B.kind,I.ok.glob,I.ok.blt,hC,fun y z c e1 e2=>I.ok.inj y z c (sub y c e1) (sub z c e2),fun y hy=>?_,fun y c e=>(nomatch e),I.ok.hd,I.ok.frames,.inl rfl,fun b hb=>⟨Nat.ne_of_lt (Nat.lt_of_lt_of_le (hfl b hb) hC),fun y c e=>(hfp b hb).2.2.2.2.1 y c (sub y c e)⟩,
  I.bs,Nat.le_trans I.ok.bsz I.sz,fun b o e hb=>?_,fun b hb z=>?_,I.stack,I.stkFree⟩,rfl,I.bare,Un.laid old hD (I.hok.fresh hD),⟨m,hns,fun i y v e1 e2 e3=>?_⟩,fun y c e=>?_,free (Ne.symm hDC) (I.hok.fresh hC),fun y c e=>?_,fun p hp=>?_,I.hok.laid old hD ⟨Nat.zero_le _,[],n,.nil,hacc⟩,?_⟩
 ·have:∃ k,(k=NameKind.cell∨k=NameKind.free)/\((relabel scope X.env).names).lookup y=some k:=hy.elim (fun h=>⟨_,.inl rfl,h⟩) fun h=>⟨_,.inr rfl,h⟩
  obtain ⟨k,hk,e⟩:=this
  have e':(y,NameKind.free)∈scope.names:=by
   rcases bH e with z | ⟨_,z⟩
   ·rcases hk with rfl | rfl
    ·exact absurd rfl (B.cell _ (bB z))
    ·exact bB z
   ·exact bB z
  exact nH scope.names [] y e'
 ·rcases (hfp b hb).2.2.2.1 with z | z
  ·exact I.ok.noex b o e z
  ·exact absurd (Nat.lt_of_lt_of_le (Heap.lt_size e) (Nat.le_trans I.ok.bsz z)) (Nat.lt_irrefl _)
 ·rcases List.mem_cons.mp (I.stkSub b z) with w | w
  ·exact (hfp b hb).2.1 w
  ·exact (hfp b hb).2.2.1 w
 ·
  have hi:i < σ.length:=by
   by_cases hi:i < σ.length
   ·exact hi
   ·exfalso
    rw [List.getElem?_append_right (by omega),List.getElem?_map] at e2
    cases q:xs[i - σ.length]? with
    | none=>rw [q] at e2;cases e2
    | some z=>rw [q] at e2;cases e2
  rw [List.getElem?_append_left hi] at e2
  have e1':(X.N++xs)[i]?=some y:=e1
  rw [List.getElem?_append_left (by rw [<-I.len];exact hi)] at e1'
  cases q:X.N[i]? with
  | none=>rw [q] at e1';cases e1'
  | some z=>
   rw [q] at e1'
   have hy:z=y:=Option.some.inj e1'
   have hz:z∈X.N:=List.mem_of_getElem? q
   subst hy
   have fr:(z,NameKind.free)∈scope.names:=by
    rcases e3 with h | h | h
    ·rcases bH h with h | ⟨h,_⟩
     ·exact absurd h (B.oth z hz)
     ·cases h
    ·rcases bH h with h | ⟨_,h⟩
     ·exact absurd rfl (B.cell _ (bB h))
     ·exact bB h
    ·rcases bH h with h | ⟨h,_⟩
     ·exact bB h
     ·cases h
   have kd:=B.fre _ fr rfl
   obtain ⟨m0,hn0,hl⟩:=I.loc
   obtain ⟨u,ru,lk⟩:=hl i z v q e2 (kd.elim (fun h=>.inr (.inl h)) fun h=>.inr (.inr h))
   refine ⟨u,ru,.inr ⟨?_,?_⟩⟩
   ·rcases e3 with h | h | h
    ·rcases bH h with h | ⟨h,_⟩
     ·exact absurd h (B.oth z hz)
     ·cases h
    ·exact .inl h
    ·exact .inr h
   ·rcases lk with ⟨k1,_⟩ | ⟨_,c,hc,hcell⟩
    ·rcases kd with kd | kd<;>(rw [kd] at k1;cases k1)
    ·obtain ⟨c',hc'⟩:=nH (env:=X.env) scope.names [] z fr
     have:=sub z c' hc'
     rw [hc] at this
     cases this
     obtain ⟨o,ho,hd⟩:=hcell
     exact ⟨c,hc',o,old _ _ ho,hd⟩
 ·obtain ⟨v,o,ho,hd⟩:=I.cell y c (sub y c e)
  exact ⟨v,o,old _ _ ho,hd⟩
 ·obtain ⟨v,o,ho,hd⟩:=I.cell y c (sub y c e)
  exact free (old_lt ho).1 (I.freeC y c (sub y c e))
 ·obtain ⟨e,n,ne,nf,d⟩:=I.pin p hp
  refine ⟨old _ _ e,free (old_lt e).1 n,(old_lt e).2,fun z=>?_,d⟩
  rcases List.mem_cons.mp (I.stkSub _ z) with w | w
  ·exact ne w
  ·exact nf w
 ·show (σ++xs.map fun _=>none).length=(X.N++xs).length
  rw [List.length_append,List.length_append,List.length_map,I.len]
end
theorem vE {f:Ev} {ρ:Rho} {d:D} {ds es:List D} (h:cW f ρ (d::ds)=.ok es):
  ∃ a b e es',d=.tup [a,b]/\f (ρ++[.val a,.val b])=.ok e/\cW f ρ ds=.ok es'/\es=e::es':=by
 unfold cW at h
 split at h
 ·cases ‹_=[]›
 ·rename_i a b ds' q
  cases q
  cases hf:noErr (f (ρ++[.val a,.val b])) with
  | no=>rw [hf] at h;cases h
  | err c=>rw [hf] at h;cases h
  | ok e=>
   rw [hf] at h
   cases hr:cW f ρ ds with
   | no=>simp only [Res.bind,hr] at h;cases h
   | err c=>simp only [Res.bind,hr] at h;cases h
   | ok es'=>
    simp only [Res.bind,hr] at h
    cases h
    exact ⟨a,b,e,es',rfl,pX hf,rfl,rfl⟩
 ·cases h
theorem tX {f:Ev} {ρ:Rho} {c:Str}:∀ {ds:List D},cW f ρ ds≠.err c
 | []=>fun h=>by cases h
 | d::ds=>fun h=>by
  unfold cW at h
  split at h
  ·cases ‹_=[]›
  ·rename_i a b ds' q
   cases q
   cases hf:noErr (f (ρ++[.val a,.val b])) with
   | no=>rw [hf] at h;cases h
   | err c=>cases q:f (ρ++[.val a,.val b])<;>(rw [q] at hf;cases hf)
   | ok e=>
    rw [hf] at h
    cases hr:cW f ρ ds with
    | no=>simp only [Res.bind,hr] at h;cases h
    | err c'=>exact tX hr
    | ok es'=>simp only [Res.bind,hr] at h;cases h
  ·cases h
section
variable {X:Cx} {G:Gx} {elt iter:Expr} {xa xb:Str} {pa pb tp pos:Pos} {x1:Nat} {scope:Scope} {it:Fv} {f:Ev} {k:Nat}
theorem xR (hc:X.calm=true/\TB X.K X.mg G.Bi G.B) (hr:Room k X.A) (Bk:BlkOk2 X [xa,xb] scope) (hN:(X.N++[xa,xb]).Nodup) (hi:PId X G (.Tuple [.Name xa pa,.Name xb pb] x1 tp) iter it)
  (hb:∀ (C:Addr) (s₂:Shared) (H₂:Hp) (fp:List Addr) (G':Gx),Good (tY X [xa,xb] scope C s₂ H₂ fp) G' k->PEd (tY X [xa,xb] scope C s₂ H₂ fp) G' elt f)
  (hs:∀ x,foldedSetIterable iter X.env x=pure x:=by intro _;rfl)
  {pins:List (Addr×Obj)} {s:Shared} {σ:St} {H Hi:Hp} {ρ:Rho} {use:Option (Value->Sem Unit)} {Q':Value->Shared->Prop} {Qa:Addr->Hp->Prop} {cpos:Pos} (I:Inv X pins σ H s) (R:fG X G Hi H σ ρ)
  (ou:Out G Hi H ((oK it f) ρ) fun ds Hi' H'=>∀ a,zBZ X.K H Hi' H' a ds->Qa a H') (hend:zJC X pins σ use Q' Qa):
  wpAny (model X.prog X.w) X.A (comprehension (.ListComp elt [⟨.Tuple [.Name xa pa,.Name xb pb] x1 tp,iter,[],0⟩] scope pos) scope X.env cpos (newList []) false (eval iter X.env) use) Q' X.xe s:=by
 refine wpAny_comprehension_free (use:=use) rfl hs (zDQ (Bk.cl I)) Bk.kind Bk.names ?_
 refine thn (hi pins s σ H (fun J H2=>∃ ds Hi2,Ext Hi H Hi2 H2/\Gives X.K Hi2 J ds/\Out G Hi2 H2 (if ds.length<=16777215 then cW f ρ ds else .no) fun ds Hi' H'=>∀ a,zBZ X.K H Hi' H' a ds->Qa a H') I
  ⟨ρ,Hi,R,(Out.bind ou).imp fun ds Hi2 H2 e2 o2 J gv=>⟨ds,Hi2,e2,gv,o2⟩⟩) fun v s1 h1=>thn h1 fun itv s2 h2=>?_
 obtain ⟨itA,fp,tn,J,H2,rfl,I2,T,st2,f2,ds,Hi2,e2,gv,ou2⟩:=h2
 have hlen:ds.length<=16777215:=by
  by_cases hlen:ds.length<=16777215
  ·exact hlen
  ·rw [if_neg hlen] at ou2;exact ou2.elim
 rw [if_pos hlen] at ou2
 cases hes:cW f ρ ds with
 | no=>rw [hes] at ou2;exact ou2.elim
 | err c=>exact absurd hes tX
 | ok es=>
  rw [hes] at ou2
  have R2:fG X G Hi2 H2 σ ρ:=R.grow e2
  refine wpAny_newObj_type (wpAny_newFunctionEnv Bk.cell (by intro y hy;simp at hy) (fun h₁ hns₁ hsb₁=>?_) Bk.kind)
  dsimp only at hns₁ hsb₁ ⊢
  generalize hH2:s2.heap.push { cls:=.type "list", dict:=none,data:=.seq ([]:List Value).toArray }=HP at hns₁ hsb₁ ⊢
  have hC:HP.objs.size=s2.heap.objs.size+1:=by rw [<-hH2,Heap.size_push]
  have hDC:s2.heap.objs.size≠HP.objs.size:=by rw [hC];omega
  have ltC:∀ {b:Addr} {o:Obj},s2.heap.get? b=some o->b≠HP.objs.size:=fun e=>by rw [hC];exact Nat.ne_of_lt (Nat.lt_succ_of_lt (Heap.lt_size e))
  have old:∀ b o,s2.heap.get? b=some o->h₁.get? b=some o:=fun b o e=>hsb₁.extBut b o (ltC e) (Heap.get?_push_of_some _ (hH2 ▸ Heap.get?_push_of_some _ e))
  have hacc:h₁.get? s2.heap.objs.size=some { cls:=.type "list", data:=.seq ([]:List Value).toArray 0 }:=hsb₁.extBut _ _ hDC (Heap.get?_push_of_some _ (hH2 ▸ Heap.get?_push_size _ rfl))
  have hfl:∀ b∈fp,b < s2.heap.objs.size:=fun b hb=>by obtain ⟨o,e,_⟩:=T.obj _ _ st2 b hb;exact Heap.lt_size e
  have IE:=zGb (t:=s2.toks+([]:List (Str×Value)).length) I2 Bk f2 hfl (Nat.le_refl _) (by rw [hC];omega) hDC old hacc hns₁
  have sub:=nB scope.names [] (Bk.cl I2) (fun y c e=>nomatch e)
  have H2D:H2 s2.heap.objs.size=none:=I2.hok.fresh (Nat.le_refl _)
  have HD:H s2.heap.objs.size=none:=e2.h.none H2D
  have Hi2D:Hi2 s2.heap.objs.size=none:=e2.s.none H2D
  generalize hX:tY X [xa,xb] scope HP.objs.size s2 H2 fp=Y at IE
  have GY:Good Y ⟨G.B,G.Bi,fun _ _=>False⟩ k:=by
   subst hX
   exact ⟨hc.1,hr,fun pins σ H s e s' _ h=>by obtain ⟨_,_,_,_,_,c,_,z⟩:=h;exact z.elim,PassesOwn.never,hc.2⟩
  have hel:=(hX ▸ hb HP.objs.size s2 H2 fp ⟨G.B,G.Bi,fun _ _=>False⟩ (hX.symm ▸ GY):PEd Y ⟨G.B,G.Bi,fun _ _=>False⟩ elt f)
  have stat:∀ {H':Hp},(∀ b∈fp,H' b=none)->∀ b∈fp,kP Y pins H' b:=fun hn b hb=>by
   subst hX
   refine ⟨hn b hb,?_,fun z=>?_,.inl hb,fun y c e=>(f2 b hb).2.2.2.2.1 y c (sub y c e),(f2 b hb).2.2.2.2.2⟩
   ·show b≠HP.objs.size
    rw [hC];exact Nat.ne_of_lt (Nat.lt_succ_of_lt (hfl b hb))
   ·rcases List.mem_cons.mp (I2.stkSub b z) with w | w
    ·exact (f2 b hb).2.1 w
    ·exact (f2 b hb).2.2.1 w
  have YN:Y.N.Nodup:=by subst hX;exact hN
  have Ya:Y.N[σ.length]?=some xa:=by
   subst hX
   show (X.N++[xa,xb])[σ.length]?=some xa
   rw [List.getElem?_append_right (by rw [I2.len];omega),I2.len,Nat.sub_self]
   rfl
  have Yb:Y.N[σ.length+1]?=some xb:=by
   subst hX
   show (X.N++[xa,xb])[σ.length+1]?=some xb
   rw [List.getElem?_append_right (by rw [I2.len];omega),I2.len,Nat.add_sub_cancel_left]
   rfl
  have Yla:Y.env.scope.names.lookup xa=some .local:=by subst hX;exact lookup_relabel_local (Bk.loc xa (by simp))
  have Ylb:Y.env.scope.names.lookup xb=some .local:=by subst hX;exact lookup_relabel_local (Bk.loc xb (by simp))
  have asg:PG Y (.Tuple [.Name xa pa,.Name xb pb] x1 tp) (L2.zCb Y.K 2 (L2.jA (L2.gName σ.length) (L2.jA (L2.gName (σ.length+1)) L2.zBV))):=
   zDy (by subst hX;exact hc.1) (qX (uJ YN Ya (.inl Yla) (.inr Yla)) (qX (uJ YN Yb (.inl Ylb) (.inr Ylb)) zAo))
  have Ye:Y.env=compEnvC scope (uA X.env scope.names []) HP.objs.size X.env:=by subst hX;rfl
  have Yxe:∀ e s,¬ Y.xe e s:=by subst hX;exact fun _ _ h=>h
  have tn1:tn 0 h₁:=T.keep _ _ _ st2 fun b _ o e=>old b o e
  have loop:∀ s3:Shared,s3={ s2 with heap:=h₁,toks:=s2.toks+([]:List (Str×Value)).length }->
    codeAny (model X.prog X.w) X.A (.compLoop (.ListComp elt [⟨.Tuple [.Name xa pa,.Name xb pb] x1 tp,iter,[],0⟩] scope pos) 0 (.ref itA) (.ref s2.heap.objs.size) Y.env) (compPost (model X.prog X.w) X.A X.xe use Q' (.ref s2.heap.objs.size) HP.objs.size) s3:=by
   rintro s3 rfl
   subst hX
   have fr0:∀ b∈fp,upd H2 s2.heap.objs.size (.lst []) b=none:=fun b hb=>by
    rw [aJ (Nat.ne_of_lt (hfl b hb))]
    exact (f2 b hb).1
   refine PyProof.Rows.LCp.codeAny_compLoop_pair (fun n s'=>∃ c:CW,n=ds.length - c.i/\CS (tY X [xa,xb] scope HP.objs.size s2 H2 fp) pins σ tn fp Hi2 H2 s2.heap.objs.size 2 (fun i=>cW f ρ (ds.drop i)) es c s') ?_ ds.length
    ⟨⟨0,[none,none],_,Hi2,[],[],es⟩,rfl,⟨IE,rfl,tn1,fr0,(Ext.refl e2.s).trans (Ext.newF e2.s H2D),aI,Hi2D,.nil,Nat.le_refl _,hes,rfl⟩⟩
   ·rintro n s3 ⟨⟨i,vv,H3,Hi3,ys,done,rest⟩,rfl,I3,wd3,st3,fr3,e3,hD3,hiD3,rd3,hl3,hr3,hes3⟩
    dsimp only at I3 wd3 st3 fr3 e3 hD3 hiD3 rd3 hl3 hr3 hes3 ⊢
    obtain ⟨v,v',rfl⟩:∃ v v',vv=[v,v']:=by
     match vv,wd3 with
     | [v,v'],_=>exact ⟨v,v',rfl⟩
    obtain ⟨w1,w2⟩:=gv Hi3 H3 e3.i e3.s i
    have lift:∀ {α:Type} {m:Sem α} {Q':α->Shared->Prop} {E:Value->Shared->Prop} {s':Shared},wpAny (model X.prog X.w) X.A m Q' (tY X [xa,xb] scope HP.objs.size s2 H2 fp).xe s'->wpAny (model X.prog X.w) X.A m Q' E s':=fun h=>wpAny_mono h (fun _ _ z=>z) fun e s z=>(Yxe e s z).elim
    by_cases hlt:i < ds.length
    ·obtain ⟨d,hd⟩:∃ d,ds[i]?=some d:=⟨_,List.getElem?_eq_getElem hlt⟩
     obtain ⟨go,yl⟩:=w2 d hd
     have e4:ds.drop i=d::ds.drop (i+1):=by
      rw [List.getElem?_eq_getElem hlt] at hd
      cases hd
      exact List.drop_eq_getElem_cons hlt
     rw [e4] at hr3
     refine thn (T.item (tY X [xa,xb] scope HP.objs.size s2 H2 fp) rfl rfl rfl hc.1 i pins s3 _ H3 _ I3 (stat fr3) st3 go) fun r s4 ⟨u,hru,h4⟩=>?_
     subst hru
     refine thn h4 fun _ s5 h5=>?_
     obtain ⟨xv,H5,I5,r5,y5,st5,fr5⟩:=h5
     obtain ⟨Hi5,e5,rd5⟩:=yl xv H5 y5
     have I5':=I5.pinned (stat fr5) (T.obj _ _ st5)
     obtain ⟨a,b,e,es',rfl,hf,hr4,hee⟩:=vE hr3
     obtain ⟨pa',ps,rfl,hq,hps⟩:=rd5.tupI
     obtain ⟨va,vb,rfl,ra,rb⟩:=hps.two
     refine lift (thn (asg _ s5 _ H5 _ u (fun σ' H'=>σ'=σ++[some va,some vb]/\H'=H5) I5' r5 ⟨pa',_,rfl,aZ (e3.trans e5).s hq,rfl,va,_,rfl,vb,_,rfl,rfl,?_,rfl⟩) fun _ s6 h6=>?_)
     ·rw [List.set_append_right _ _ (Nat.le_refl _),Nat.sub_self,List.set_append_right _ _ (Nat.le_succ _),Nat.succ_sub (Nat.le_refl _),Nat.sub_self];rfl
     obtain ⟨σ6,H6,I6,rfl,rfl⟩:=h6
     have E5:Ext Hi2 H2 Hi5 H6:=e3.trans e5
     have R5:fG (tY X [xa,xb] scope HP.objs.size s2 H2 fp) ⟨G.B,G.Bi,fun _ _=>False⟩ Hi5 H6 (σ++[some va,some vb]) (ρ++[.val a,.val b]):=by
      have:=Rel.snoc (Rel.snoc (R2.grow E5) ra) rb
      rw [List.append_assoc,List.append_assoc] at this
      exact this
     obtain ⟨hD5,hiD5⟩:=e5.out hD3 hiD3
     have rd5':=rd3.mono e5.i
     have again:∀ {H8 Hi8:Hp} {ys':List V} {done' rest':List D} {s8:Shared},Inv (tY X [xa,xb] scope HP.objs.size s2 H2 fp) (pins++mP fp s5.heap) (σ++[some va,some vb]) H8 s8->Ext Hi2 H2 Hi8 H8->H8 s2.heap.objs.size=some (.lst ys')->Hi8 s2.heap.objs.size=none->IsDs X.K Hi8 ys' done'->done'.length<=i+1->
       cW f ρ (ds.drop (i+1))=.ok rest'->es=done'++rest'->∃ m,m < ds.length - i/\∃ c:CW,m=ds.length - c.i/\CS (tY X [xa,xb] scope HP.objs.size s2 H2 fp) pins σ tn fp Hi2 H2 s2.heap.objs.size 2 (fun i=>cW f ρ (ds.drop i)) es c s8:=fun {H8 Hi8 ys' done' rest' s8} I8 E8 a1 a2 a3 a4 a5 a6=>by
      refine ⟨ds.length - (i+1),by omega,⟨i+1,[some va,some vb],H8,Hi8,ys',done',rest'⟩,rfl,⟨I8.unpinned,rfl,T.keep _ _ _ st5 fun b hb o e=>(I8.pin (b,o) (List.mem_append_right _ (List.mem_append_right _ (cM hb e)))).1,fun b hb=>?_,E8,a1,a2,a3,a4,a5,a6⟩⟩
      obtain ⟨o,e,_⟩:=T.obj _ _ st5 b hb
      exact (I8.pin (b,o) (List.mem_append_right _ (List.mem_append_right _ (cM hb e)))).2.1
     refine lift (thn (hel _ s6 _ H6 (fun w H'=>∃ Hi',Ext Hi5 H6 Hi' H'/\IsD X.K Hi' w e) I6 ⟨_,Hi5,R5,by rw [hf];exact fun Hi' H' ee w hw=>⟨Hi',ee,hw⟩⟩) fun u8 s8 h8=>?_)
     obtain ⟨w8,H8,I8,r8,Hi8,e8,rw8⟩:=h8
     obtain ⟨hD8,hiD8⟩:=e8.out hD5 hiD5
     have rdy:IsDs X.K Hi8 ys done:=rd5'.mono e8.i
     refine lift (thn (lT (X:=(tY X [xa,xb] scope HP.objs.size s2 H2 fp)) _ s8 _ H8 (.ref s2.heap.objs.size) [w8] (.ref s2.heap.objs.size) [u8] (fun _ H'=>H'=upd H8 s2.heap.objs.size (.lst (ys++[w8]))) I8 rfl (.cons r8 .nil) ⟨_,ys,w8,rfl,rfl,hD8,?_,rfl⟩) fun _ s9 h9=>?_)
     ·rw [rdy.length]
      exact Nat.lt_of_le_of_lt hl3 (Nat.lt_of_lt_of_le hlt (Nat.le_trans hlen (by decide)))
     ·obtain ⟨_,H9,I9,_,rfl⟩:=h9
      refine again I9 (Ext.rewrite (E5.trans e8) H2D hiD8 ⟨_,hD8⟩) aI hiD8 (rdy.snoc rw8) (by rw [List.length_append];exact Nat.succ_le_succ hl3) hr4 ?_
      rw [hes3,hee,List.append_assoc];rfl
    ·rw [List.drop_eq_nil_of_le (by omega),cW] at hr3
     cases hr3
     refine thn (T.done (tY X [xa,xb] scope HP.objs.size s2 H2 fp) rfl rfl rfl hc.1 i pins s3 _ H3 _ I3 (stat fr3) st3 (w1 (by omega))) fun r s4 ⟨hrn,I4⟩=>?_
     subst hrn
     obtain ⟨m4,hn4,_⟩:=I4.loc
     have fC:H3 HP.objs.size=none:=I4.free
     have nC:∀ b u,H3 b=some u->b≠HP.objs.size:=fun b u e z=>by rw [z,fC] at e;cases e
     have U4:=I4.base
     refine hend HP.objs.size s2.heap.objs.size m4 s4 H3 hn4 (fun h' hs'=>?_) (I2.fpOk (by rw [hC];omega) fC) ?_
     ·have kp:∀ b o,b≠HP.objs.size->s4.heap.get? b=some o->h'.get? b=some o:=fun b o hb e=>hs'.extBut b o hb e
      refine Inv.call' I2 (ch:=fp) I4.os ⟨fun b o e n hb hx=>kp b o (ltC e) (U4.keep b o e n hb hx),fun b o e n hb hx=>?_,U4.free,fun b o e hx=>?_,U4.tups,U4.frzs,U4.tbls⟩ (fun b u e=>?_) I4.bare (fun b hb=>⟨(f2 b hb).2.2.2.1,(f2 b hb).2.1,(f2 b hb).2.2.2.2.1,(f2 b hb).2.2.2.2.2⟩)
      ·obtain ⟨sl,q⟩:=U4.slot b o e n hb hx
       exact ⟨sl,kp b _ (ltC e) q⟩
      ·obtain ⟨o',q⟩:=U4.there b o e hx
       exact ⟨o',kp b _ (ltC e) q⟩
      ·refine (I4.hok b u e).stay (fun c v hc q=>kp c v ?_ q) (fun _ q=>q) fun _ _ q=>q
       rcases hc with z | z
       ·rw [z];exact nC b u e
       ·exact nC c _ z
     ·refine ou2 Hi3 H3 e3 _ ⟨HD,hiD3,ys,hD3,?_⟩
      rw [hes3,List.append_nil]
      exact rd3
  rw [Ye] at loop
  exact codeAny_compStart_list (loop _ rfl) (T.self _ 0 _ _ _ tn1 (loop _ rfl))
theorem zCV (hc:X.calm=true/\TB X.K X.mg G.Bi G.B) (hr:Room k X.A) (Bk:BlkOk2 X [xa,xb] scope) (hN:(X.N++[xa,xb]).Nodup) (hi:PId X G (.Tuple [.Name xa pa,.Name xb pb] x1 tp) iter it)
  (hb:∀ (C:Addr) (s₂:Shared) (H₂:Hp) (fp:List Addr) (G':Gx),Good (tY X [xa,xb] scope C s₂ H₂ fp) G' k->PEd (tY X [xa,xb] scope C s₂ H₂ fp) G' elt f)
  (hs:∀ x,foldedSetIterable iter X.env x=pure x:=by intro _;rfl):PCf X G (.ListComp elt [⟨.Tuple [.Name xa pa,.Name xb pb] x1 tp,iter,[],0⟩] scope pos) (oK it f):=by
 intro pins s σ H Q I w u Q' hend
 obtain ⟨ρ,Hi,R,ou⟩:=w
 rw [arm_evalThenUse_ListComp]
 refine wpAny_bind (xR hc hr Bk hN hi hb hs (use:=some u) (Q':=fun _ s=>wpAny (model X.prog X.w) X.A (pure ()) Q' X.xe s) (Qa:=fun a H'=>Q (.ref a) H') I R ou fun C A m s4 H3 hn hI fo q=>?_)
 refine thn (hend C m s4 (.ref A) (.ref A) H3 hn hI fo rfl q) fun _ s5 h5=>?_
 obtain ⟨m5,hn5,h5⟩:=h5
 exact ⟨m5,hn5,fun h' hs'=>wpAny_pure (h5 h' hs')⟩
def zFc (sc:Scope) (N:List Str) (xs:List Str) (scope:Scope):Bool:=
 scope.names.all (fun y=>y.2 != .cell) && xs.all (fun x=>scope.names.lookup x==some .local) && scope.names.all (fun y=>y.2 != .local || scope.names.lookup y.1==some .local)
  && scope.names.all (fun p=>p.2 != .free || (sc.names.lookup p.1==some .cell || sc.names.lookup p.1==some .free)) && N.all (fun y=>scope.names.lookup y != some .local)
theorem zFA {sc:Scope} {N xs:List Str} (hk:scope.kind=.function) (hsc:X.env.scope=sc) (hN:X.N=N) (h:zFc sc N xs scope=true):BlkOk2 X xs scope:=by
 unfold zFc at h
 simp only [Bool.and_eq_true] at h
 obtain ⟨⟨⟨⟨h1,h2⟩,h3⟩,h4⟩,h5⟩:=h
 subst hN hsc
 refine ⟨hk,fun y hy e=>?_,fun x hx=>?_,fun y hy e=>?_,fun p hp e=>?_,fun y hy e=>?_⟩
 ·have:=List.all_eq_true.mp h1 y hy
  rw [e] at this;cases this
 ·exact beq_iff_eq.mp (List.all_eq_true.mp h2 x hx)
 ·have:=List.all_eq_true.mp h3 y hy
  rw [e] at this
  simpa using this
 ·have:=List.all_eq_true.mp h4 p hp
  rw [e] at this
  have q:X.env.scope.names.lookup p.1=some .cell∨X.env.scope.names.lookup p.1=some .free:=by simpa using this
  exact q
 ·have:=List.all_eq_true.mp h5 y hy
  rw [e] at this
  cases this
theorem sJ {sc:Scope} {N:List Str} (W:Good X G k) (hnd:(N++[xa,xb]).Nodup) (hk:scope.kind=.function) (hsc:X.env.scope=sc) (hN:X.N=N) (h:zFc sc N [xa,xb] scope=true) (hi:PId X G (.Tuple [.Name xa pa,.Name xb pb] x1 tp) iter it)
  (hb:∀ (C:Addr) (s₂:Shared) (H₂:Hp) (fp:List Addr) (G':Gx),Good (tY X [xa,xb] scope C s₂ H₂ fp) G' k->PEd (tY X [xa,xb] scope C s₂ H₂ fp) G' elt f)
  (hs:∀ x,foldedSetIterable iter X.env x=pure x:=by intro _;rfl):PCf X G (.ListComp elt [⟨.Tuple [.Name xa pa,.Name xb pb] x1 tp,iter,[],0⟩] scope pos) (oK it f):=
 zCV ⟨W.calm,W.tb⟩ W.room (zFA hk hsc hN h) (hN ▸ hnd) hi hb hs
end
end L3
namespace L3
open PySem PySem.Spec PyProof.Rows L2
section
variable {prog:Program} {w:World} {A:Around} {E:Value->Shared->Prop} {s:Shared}
theorem zU {t sl:Addr} {its:Array Value} {vl vu:Value} {lo hi:Option Int} {Q:Value->Shared->Prop} (a:IsTup s.heap t its) (b:s.heap.IsSliceOf sl vl vu .none) (pl:IsPart vl lo) (pu:IsPart vu hi)
  (c:HT.sIx its.size 0 lo=0/\HT.sIx its.size its.size hi=its.size) (q:Q (.ref t) s):wpAny (model prog w) A (getItem (.ref t) (.ref sl)) Q E s:=by
 obtain ⟨os,e1,e2,_⟩:=id b
 have ty:s.TypeIs (.ref sl) "slice" := ⟨os,e1,e2⟩
 unfold getItem
 try with_reducible refine wpAny_holding ?_
 first | refine wpAny_bind (wpAny_pure ?_) | skip
 refine wpAny_bind (wpAny_sequenceKey a.typeIs (by decide) (wpAny_bind (wpAny_callSpecial?_slot (name:=Str.ofString "__getitem__") a.typeIs PyProof.Rows.slot_tuple_getitem (wpAny_call_entry PyProof.Rows.slot_tuple_getitem a.typeIs entry_tuple_getitem ?_ (args_tuple_getitem _ _)))))
 refine show wpAny _ _ (Builtin.Tuple.tupleItemsOf (.ref t) >>= _) _ _ s from wpAny_bind (tupleItemsOf_ a (wpAny_bind (wpAny_typeOf ty ?_)))
 rw [if_pos (by decide)]
 refine wpAny_bind (HT.sliceApplied_gen b pl pu ?_)
 show wpAny _ _ (if (((HT.sIx its.size 0 lo:Nat):Int)==0 && (1:Int)==1 && (HT.sIx its.size its.size hi - HT.sIx its.size 0 lo)==its.size)=true then _ else _) _ _ s
 rw [c.1,c.2,if_pos (by simp)]
 refine wpAny_bind ?_
 unfold Builtin.Tuple.tupleIsExact
 first
  | refine wpAny_bind (wpAny_typeOf a.typeIs (wpAny_pure ?_))
  | refine wpAny_bind (wpAny_load a.choose_spec.1 (wpAny_pure ?_))
 rw [if_pos (by first | decide | rfl)]
 exact wpAny_bind (wpAny_rule (wpAny_pure ⟨_,rfl,wpAny_pure q⟩))
end
section
variable {X:Cx} {G:Gx} {fs:Fv} {f:Ev}
def zKn (K:PySem.W.Frag):V->Option Int->Option Int->Hp->VK->Prop:=fun x lo hi H Q=>∃ a xs,x=.ref a/\SqT K H a xs/\(HT.sIx xs.length 0 lo=0/\HT.sIx xs.length xs.length hi=xs.length)/\Q (.ref a) H
theorem zCW:SlR X (zKn X.K):=by
 intro pins s σ H x v vl vu lo hi sl Q I rx hs pl pu h
 obtain ⟨a,xs,rfl,hx,hw,q⟩:=h
 cases rx
 obtain ⟨its,r,ht,hz⟩:=I.tuple hx
 have hlen:its.toArray.size=xs.length:=by rw [List.size_toArray];exact r.length.symm
 exact ⟨"tuple", _,PyProof.Rows.slot_tuple_getitem.lookup,ht.typeIs,zU ht hs pl pu (by rw [hlen];exact hw) ⟨.ref a,H,I,rfl,q⟩⟩
unseal PEd PEf PTd PWd PAd PSd bZ POd PGd cX PId PSx dS PTs PCd PCf
theorem sQ {e:Expr} {pos:Pos} {lo hi:Option Expr} {l h:Ov} {p2:Pos} (he:PEd X G e f) (hl:POd X G lo l) (hu:POd X G hi h):PEd X G (.Subscript e (.Slice lo hi none p2) pos) (zIs f l h):=
 PE.wk (wQ (SlR.or zAQ (SlR.or zHZ zCW)) he hl hu) fun σ H Q q=>by
 obtain ⟨ρ,Hi,R,ou⟩:=q
 refine nJ R ou fun v d Hi1 H1 e1 R1 r1 o1=>?_
 refine zIq R1 o1 fun i Hi2 H2 e2 R2 o2=>?_
 refine zIq R2 o2 fun j Hi3 H3 e3 R3 o3=>?_
 have eh:=e1.h.trans (e2.h.trans e3.h)
 have ei:=e2.i.trans e3.i
 cases d with
 | lst ds=>
  obtain ⟨a,xs,rfl,h1,h2⟩:=r1.lstI
  refine .inl ⟨a,xs,rfl,bD (ei.trans R3.s) h1,fun p hp=>?_⟩
  exact o3 _ _ (Ext.new R3.s hp) (.ref p) (.lst (SqL.of aI) (((h2.cut i j).mono ei).mono (bA (R3.s.none hp) _)))
 | tup ds=>
  obtain ⟨a,xs,rfl,h1,h2⟩:=r1.tupI
  by_cases z:HT.sIx xs.length 0 i=0/\HT.sIx xs.length xs.length j=xs.length
  ·refine .inr (.inr ⟨a,xs,rfl,aZ (ei.trans R3.s) h1,z,?_⟩)
   have hc:=h2.cut i j
   have ew:zBX xs i j=xs:=by
    unfold zBX
    rw [z.1,z.2,List.drop_zero,Nat.sub_zero,List.take_length]
   rw [ew] at hc
   exact o3.here R3.s (.ref a) (.tup (aZ ei h1) (hc.mono ei))
  ·refine .inr (.inl ⟨a,xs,rfl,aZ (ei.trans R3.s) h1,z,fun p hp=>?_⟩)
   exact o3 _ _ (Ext.new R3.s hp) (.ref p) (.tup (SqT.of aI) (((h2.cut i j).mono ei).mono (bA (R3.s.none hp) _)))
 | _=>exact o3.elim
def PJd (X:Cx) (G:Gx) (es:List Expr) (fs:Fv):Prop:=∀ (out:Str) (pins:List (Addr×Obj)) (s:Shared) (σ:St) (H Hi:Hp) (ρ:Rho) (Q:VK),out.length<=sizeLine->Inv X pins σ H s->fG X G Hi H σ ρ->
 Out G Hi H (fs ρ) (fun ds Hi' H'=>∃ x,rC out ds=some x/\Q (.str x) H')->wpAny (model X.prog X.w) X.A (joinParts out (evalEach es X.env)) (EP X pins σ Q) X.xe s
theorem zK:PJd X G [] aNil:=fun out pins s σ H Hi ρ Q ho I R ou=>by
 obtain ⟨x,e,q⟩:=ou.here R.s
 cases e
 exact joinParts_nil ⟨.str out,H,I.tok _,⟨_,rfl⟩,q⟩ ho
theorem zDa {a x:Str} {d:D} {ds:List D} (h:rC a (d::ds)=some x):∃ y,zEd d=some y/\y.length<=sizeLine/\(a++y).length<=sizeLine/\rC (a++y) ds=some x:=by
 unfold rC at h
 cases q:zEd d with
 | none=>rw [q] at h;cases h
 | some y=>
  rw [q] at h
  by_cases c:y.length<=sizeLine/\(a++y).length<=sizeLine
  ·simp only [c,and_self,if_true] at h
   exact ⟨y,rfl,c.1,c.2,h⟩
  ·simp only [c,if_false] at h
   cases h
theorem wS {r:Fv} {Hi H:Hp} {out:Str} {ρ:Rho} {Q:VK} {d:D} (ne:∀ ρ c,r ρ≠.err c) (s:Same Hi H) (o:Out G Hi H ((r ρ).bind fun ds=>.ok (d::ds)) (fun ds Hi' H'=>∃ x,rC out ds=some x/\Q (.str x) H')):
  ∃ y,zEd d=some y/\y.length<=sizeLine/\(out++y).length<=sizeLine/\Out G Hi H (r ρ) (fun ds Hi' H'=>∃ x,rC (out++y) ds=some x/\Q (.str x) H'):=by
 cases z:r ρ with
 | no=>rw [z] at o;exact o.elim
 | err c=>exact absurd z (ne ρ c)
 | ok ds=>
  rw [z] at o
  have o':∀ Hi' H',Ext Hi H Hi' H'->∃ x,rC out (d::ds)=some x/\Q (.str x) H':=o
  obtain ⟨x,e,_⟩:=o' Hi H (Ext.refl s)
  obtain ⟨y,y1,y2,y3,y4⟩:=zDa e
  refine ⟨y,y1,y2,y3,fun Hi' H' ee=>?_⟩
  obtain ⟨x',e',q'⟩:=o' Hi' H' ee
  rw [e] at e'
  cases e'
  exact ⟨x,y4,q'⟩
theorem oR {e:Expr} {es:List Expr} {pos:Pos} {r:Fv} (he:PEd X G e f) (hr:PJd X G es r) (ne:∀ ρ c,r ρ≠.err c) (hs:evalEach (.FormattedValue e (-1) none pos::es) X.env=eval (.FormattedValue e (-1) none pos) X.env::evalEach es X.env:=by rfl):
  PJd X G (.FormattedValue e (-1) none pos::es) (aD f r):=fun out pins s σ H Hi ρ Q ho I R ou=>by
 rw [hs]
 refine joinParts_cons (FormattedValue_plain (thn (he pins s σ H (fun v H1=>∃ d Hi1 y,fG X G Hi1 H1 σ ρ/\IsD X.K Hi1 v d/\zEd d=some y/\y.length<=sizeLine/\(out++y).length<=sizeLine/\Out G Hi1 H1 (r ρ) (fun ds Hi' H'=>∃ x,rC (out++y) ds=some x/\Q (.str x) H')) I
  (nJ R ou fun v d Hi1 H1 e1 R1 r1 o1=>?_)) fun u s1 ⟨v,H1,I1,rv,d,Hi1,y,R1,r1,y1,y2,y3,o1⟩=>?_))
 ·obtain ⟨y,y1,y2,y3,y4⟩:=wS ne R1.s o1
  exact ⟨d,Hi1,y,R1,r1,y1,y2,y3,y4⟩
 ·cases d with
  | str z=>
   cases y1
   cases r1.strI
   obtain ⟨t,rfl⟩:=rv
   exact formatField_str (fun t' tk=>⟨y3,hr (out++y) pins { s1 with toks:=tk } σ H1 Hi1 ρ Q y3 (I1.tok tk) R1 o1⟩) y2
  | int i=>
   unfold zEd at y1
   by_cases hd:i.natAbs.log2 < 1920
   ·simp only [hd,if_true] at y1
    cases y1
    cases r1.intI
    obtain ⟨t,rfl⟩:=rv
    exact formatField_int_small hd ⟨y3,hr (out++toString i) pins { s1 with toks:=s1.toks+1+1 } σ H1 Hi1 ρ Q y3 (I1.tok _) R1 o1⟩
   ·simp only [hd,if_false] at y1
    cases y1
  | _=>cases y1
theorem wR {z:Str} {k:Nat} {es:List Expr} {pos:Pos} {r:Fv} (hr:PJd X G es r) (ne:∀ ρ c,r ρ≠.err c) (hs:evalEach (.Constant (.str z) k pos::es) X.env=eval (.Constant (.str z) k pos) X.env::evalEach es X.env:=by rfl):
  PJd X G (.Constant (.str z) k pos::es) (aD (eC (.str z)) r):=fun out pins s σ H Hi ρ Q ho I R ou=>by
 rw [hs]
 obtain ⟨y,y1,y2,y3,o1⟩:=wS ne R.s (show Out G Hi H ((r ρ).bind fun ds=>.ok (.str z::ds)) _ from ou)
 cases y1
 exact joinParts_cons (Calls.Constant_str ⟨y3,hr (out++z) pins _ σ H Hi ρ Q y3 (I.tok _) R o1⟩)
theorem zZ {v1 v2:Expr} {rest:List Expr} {pos:Pos} (h:PJd X G (v1::v2::rest) fs) (hs:evalEach (v1::v2::rest) X.env=eval v1 X.env::eval v2 X.env::evalEach rest X.env:=by rfl):PEd X G (.JoinedStr (v1::v2::rest) pos) (zFN fs):=by
 intro pins s σ H Q I q
 obtain ⟨ρ,Hi,R,ou⟩:=q
 refine JoinedStr_many ?_
 rw [<-hs]
 refine h Str.empty pins s σ H Hi ρ Q (by decide) I R ((Out.bind ou).imp fun ds Hi' H' e o=>?_)
 unfold zGF at o
 cases z:rC Str.empty ds with
 | none=>rw [z] at o;exact o.elim
 | some x=>rw [z] at o;exact ⟨x,rfl,o.here e.s _ (.str x)⟩
theorem gX:∀ (ρ:Rho) (c:Str),aNil ρ≠.err c:=fun ρ c z=>by cases z
theorem oH {i:Nat} {r:Fv} (h:∀ ρ c,r ρ≠.err c):∀ (ρ:Rho) (c:Str),aD (aG i) r ρ≠.err c:=fun ρ c z=>by
 have z':(aG i ρ).bind (fun d=>(r ρ).bind fun ds=>.ok (d::ds))=.err c:=z
 cases q:aG i ρ with
 | no=>rw [q] at z';cases z'
 | err c'=>
  unfold aG at q
  split at q<;>cases q
 | ok d=>
  rw [q] at z'
  cases q2:r ρ with
  | no=>simp only [Res.bind,q2] at z';cases z'
  | err c'=>exact h ρ c' q2
  | ok ds=>simp only [Res.bind,q2] at z';cases z'
theorem oY {d:D} {r:Fv} (h:∀ ρ c,r ρ≠.err c):∀ (ρ:Rho) (c:Str),aD (eC d) r ρ≠.err c:=fun ρ c z=>by
 cases q2:r ρ with
 | no=>simp only [aD,eC,Res.bind,q2] at z;cases z
 | err c'=>exact h ρ c' q2
 | ok ds=>simp only [aD,eC,Res.bind,q2] at z;cases z
def zJo (K:PySem.W.Frag):V->List V->Hp->VK->Prop:=fun x vs H Q=>∃ sep a l,x=.str sep/\vs=[.ref a]/\SqL K H a (l.map V.str)/\l.foldl (fun n z=>n+z.length+sep.length) 0<=sizeLine/\Q (.str (Builtin.Str.glued sep l)) H
theorem zDn (sep:Str):∀ l:List Str,(Builtin.Str.glued sep l).length<=l.foldl (fun n z=>n+z.length+sep.length) 0:=by
 have len:∀ (a b:Str),(⟨a.cps++b.cps⟩:Str).length=a.length+b.length:=fun a b=>Array.size_append ..
 have go:∀ (l:List Str) (a:Array Nat) (n:Nat),a.size+sep.length<=n->(l.foldl (fun acc p=>acc++sep.cps++p.cps) a).size+sep.length<=l.foldl (fun n z=>n+z.length+sep.length) n:=by
  intro l
  induction l with
  | nil=>intro a n h;exact h
  | cons z l ih=>
   intro a n h
   refine ih _ _ ?_
   rw [Array.size_append,Array.size_append]
   show a.size+sep.length+z.length+sep.length<=n+z.length+sep.length
   omega
 intro l
 cases l with
 | nil=>exact Nat.zero_le _
 | cons z l=>
  have:=go l z.cps (0+z.length+sep.length) (by show z.length+_<=_;omega)
  show (l.foldl (fun acc p=>acc++sep.cps++p.cps) z.cps).size<=_
  exact Nat.le_trans (Nat.le_add_right ..) this
theorem zBz:∀ {l:List Str} {its:List Value},cG (l.map V.str) its->∃ ps:List (Str×Tok),strValues ps=its/\ps.map (·.1)=l
 | [],_,h=>by cases h;exact ⟨[],rfl,rfl⟩
 | x::l,_,h=>by
  rw [List.map_cons] at h
  cases h with
  | cons r t=>
   obtain ⟨u,rfl⟩:=r
   obtain ⟨ps,e1,e2⟩:=zBz t
   exact ⟨(x,u)::ps,by rw [<-e1];rfl,by rw [List.map_cons,e2]⟩
theorem sF {K:PySem.W.Frag} {H:Hp}:∀ {xs:List V} {ds:List D} {l:List Str},IsDs K H xs ds->kW ds=some l->xs=l.map V.str
 | _,[],_,h,e=>by cases h;cases e;rfl
 | _,.str x::r,l,h,e=>by
  cases h with
  | cons h t=>
   cases q:kW r with
   | none=>simp only [kW,q] at e;cases e
   | some m=>
    simp only [kW,q] at e
    cases e
    rw [h.strI,sF t q]
    rfl
 | _,.int _::r,_,_,e=>by cases e
 | _,.bl _::r,_,_,e=>by cases e
 | _,.non::r,_,_,e=>by cases e
 | _,.tup _::r,_,_,e=>by cases e
 | _,.lst _::r,_,_,e=>by cases e
theorem zEY:MtR X "str.join" (zJo X.K):=by
 intro pins s σ H x vs v us Q I rx rv h
 obtain ⟨sep,a,l,rfl,rfl,hq,hz,q⟩:=h
 obtain ⟨t,rfl⟩:=rx
 obtain ⟨u,rfl,ru⟩:=rv.one
 cases ru
 obtain ⟨its,r,pl,_⟩:=I.list hq
 obtain ⟨ps,e1,e2⟩:=zBz r
 obtain ⟨o,n,eo,co,_,dat⟩:=id pl
 have hlen:=zDn sep l
 have tl:Builtin.Str.tooLong ((ps.map (·.1)).toArray.foldl (·+·.length+sep.length) 0)=false:=by
  rw [e2]
  unfold Builtin.Str.tooLong
  refine decide_eq_false ?_
  have:l.toArray.foldl (fun (n:Nat) (z:Str)=>n+z.length+sep.length) 0=l.foldl (fun n z=>n+z.length+sep.length) 0:=by simp
  rw [this];omega
 have g:PySem.Gives (joinTail sep (strValues ps)) (match ps with | [p]=>Made.val (.str p.1 p.2) | _=>Made.str (Builtin.Str.glued sep (ps.map fun p:Str×Tok=>p.1))):=by
  match ps,tl with
  | [],h=>exact gives_joinTail sep [] h
  | [p],h=>exact gives_joinTail sep [p] h
  | p::p'::r,h=>exact gives_joinTail sep (p::p'::r) h
 have md:∀ ps:List (Str×Tok),(∀ tk t',(EP X pins σ Q) (.str (Builtin.Str.glued sep (ps.map fun p:Str×Tok=>p.1)) t') { s with toks:=tk })->(Builtin.Str.glued sep (ps.map fun p:Str×Tok=>p.1)).length<=sizeLine->
   (match ps with | [p]=>Made.val (.str p.1 p.2) | _=>Made.str (Builtin.Str.glued sep (ps.map fun p:Str×Tok=>p.1))).post (EP X pins σ Q) s:=by
  intro ps h1 h2
  match ps with
  | []=>exact ⟨h2,h1 _ _⟩
  | [p]=>exact h1 s.toks p.2
  | p::p'::r=>exact ⟨h2,h1 _ _⟩
 have mj:Meets (Builtin.«str.join» ⟨[.str sep t,.ref a],[]⟩) (fun _ R s'=>s'=s/\(match ps with | [p]=>Made.val (.str p.1 p.2) | _=>Made.str (Builtin.Str.glued sep (ps.map fun p:Str×Tok=>p.1))).post (fun v s'=>R (.ok (.ret v)) s') s'):=fun prog w A R s' h=>by
  obtain ⟨rfl,h⟩:=h
  rw [join_tree_other]
  refine wpAny_bind (wpAny_typeOf pl.isList.typeIs ?_)
  rw [if_pos (by decide)]
  refine wpAny_bind (wpAny_seqItems eo dat ?_)
  show wpAny _ _ (joinTail sep its.toArray.toList) _ _ _
  rw [show its.toArray.toList=its from rfl,<-e1]
  exact g prog w A R s' h
 refine call_meets F.slot_str_join (typeIs_str _ _ _) F.entry_str_join (F.args_str_join_2 _ _) mj ⟨rfl,md ps (fun tk t'=>⟨.str _,H,I.tok tk,⟨_,rfl⟩,?_⟩) ?_⟩
 ·rw [e2];exact q
 ·rw [e2];omega
theorem zEv {sep:Str} {k:Nat} {e:Expr} {p1 p2 p3:Pos} (he:PEd X G e f)
  (hbase:attributeBase (.Constant (.str sep) k p1) "join" X.env (eval (.Constant (.str sep) k p1) X.env)=eval (.Constant (.str sep) k p1) X.env:=by rfl)
  (hfew:((backTo p3 (starEach [e] X.env)).all (fun x=>!x.1) && (backToKw p3 (keywordEach [] X.env)).all (fun x=>x.1.isSome)
   && decide ([e].length+([]:List Keyword).length+(if ([]:List Keyword).isEmpty then 0 else 1) < 30))=true:=by rfl)
  (hline:(p2.endLine==p3.line)=true:=by rfl) (hs:starEach [e] X.env=(false,eval e X.env)::starEach [] X.env:=by rfl):
  PEd X G (.Call (.Attribute (.Constant (.str sep) k p1) "join" p2) [e] [] p3) (zDX sep f):=
 PE.wk (zFL F.plainAttrs_str F.slot_str_join F.type_str_join zEY bP (cZ he gB hs) hbase hfew hline hs rfl) fun σ H Q q=>by
  obtain ⟨ρ,Hi,R,ou⟩:=q
  refine ⟨rfl,nJ R ou fun v d Hi1 H1 e1 R1 r1 o1=>?_⟩
  cases d with
  | lst ds=>
   obtain ⟨a,xs,rfl,h1,h2⟩:=r1.lstI
   have o2:Out G Hi1 H1 (sP sep (.lst ds)) _:=o1
   cases z:kW ds with
   | none=>rw [show sP sep (.lst ds)=.no by show (match kW ds with | some l=>_ | none=>Res.no)=_;rw [z]] at o2;exact o2.elim
   | some l=>
    rw [show sP sep (.lst ds)=if l.foldl (fun n x=>n+x.length+sep.length) 0<=sizeLine then .ok (.str (Builtin.Str.glued sep l)) else .no by show (match kW ds with | some l=>_ | none=>Res.no)=_;rw [z]] at o2
    by_cases hz:l.foldl (fun n x=>n+x.length+sep.length) 0<=sizeLine
    ·rw [if_pos hz] at o2
     have ex:=sF h2 z
     subst ex
     exact ⟨sep,a,l,rfl,rfl,bD R1.s h1,hz,o2.here R1.s _ (.str _)⟩
    ·rw [if_neg hz] at o2
     exact o2.elim
  | _=>exact o1.elim
end
end L3
namespace L3
open PySem PySem.Spec PyProof.Rows L2
unseal PEd PEf PTd PWd PAd PSd bZ POd PGd cX PId PSx dS PTs PCd PCf
section
variable {X:Cx} {G:Gx} {f:Ev} {pos:Pos}
section
variable {o:Expr} {k:Nat} {b:Bool} {p1 p2 p3:Pos}
end
section
variable {i fo:Nat} {x y:Str} {ea eb ec ct o0 o1:Expr} {body rest:List Stmt} {a b:Fv} {cmp:Tv} {sr:Sv} {p1 p2 p3 p4 p5 p6 p7 p8 p9 p10 p11 p12 p13 p14 p15 p16:Pos} {k5 k0 k1:Nat}
end
section
variable {i j1 j2 j3:Nat} {x:Str} {tg ec c1 c2 c3 esl ev o:Expr} {b2 b3:List Stmt} {t1 t2 t3:Tv} {sl:Fv} {g:Ev} {p1 p2 p3 p4 p5 p6 p7 p8 p9:Pos}
end
end
end L3
namespace L3
open PySem PySem.Spec PyProof.Rows L2
def Iv (xs:Array Keyed) (i:Nat):Int:=match xs[i]? with
 | some p=>numOf p.2
 | none=>0
theorem zAF {xs ys:Array Keyed} {i j:Nat} (h:xs[i]?=ys[j]?):Iv xs i=Iv ys j:=by unfold Iv;rw [h]
theorem zHY {xs:Array Keyed} {a d:Nat} (ha:a < xs.size) (hd:d<=a) (k:Nat):Iv (bubble xs a d) k=if k=a - d then Iv xs a else if a - d < k/\k<=a then Iv xs (k - 1) else Iv xs k:=by
 have e:=getElem?_bubble ha d hd k
 by_cases c1:k=a - d
 ·rw [if_pos c1] at e ⊢;exact zAF e
 ·rw [if_neg c1] at e ⊢
  by_cases c2:a - d < k/\k<=a
  ·rw [if_pos c2] at e ⊢;exact zAF e
  ·rw [if_neg c2] at e ⊢;exact zAF e
theorem lK {xs:Array Keyed} {a b:Nat} (hb:b<=xs.size) (k:Nat):Iv (mirror xs a b ((b - a) / 2)) k=if a<=k/\k < b then Iv xs (a+b - 1 - k) else Iv xs k:=by
 have e:=getElem?_mirror_all (i:=a) hb k
 by_cases c:a<=k/\k < b
 ·rw [if_pos c] at e ⊢;exact zAF e
 ·rw [if_neg c] at e ⊢;exact zAF e
structure Up (N:Nat) (xs:Array Keyed) (m:Nat):Prop where
 so:∀ i j,i < j->j < m->K xs i < K xs j∨K xs i=K xs j/\Iv xs i < Iv xs j
 lo:∀ i,i < m->Iv xs i < m
 hi:∀ i,m<=i->i < N->Iv xs i=i
theorem Up.le {N m:Nat} {xs:Array Keyed} (u:Up N xs m) {i j:Nat} (h:i<=j) (hj:j < m):K xs i<=K xs j:=by
 by_cases c:i=j
 ·subst c;exact Int.le_refl _
 ·rcases u.so i j (by omega) hj with z | z
  ·exact Int.le_of_lt z
  ·exact Int.le_of_eq z.1
theorem Up.on {N m n:Nat} {xs:Array Keyed} (u:Up N xs m) (hn:n<=N) (hm:m<=n) (s:SortedTo xs n):Up N xs n where
 so i j l hj:=by
  by_cases c:j < m
  ·exact u.so i j l c
  ·have e:=u.hi j (by omega) (by omega)
   have z:=s i j (by omega) hj
   have t:Iv xs i < Iv xs j:=by
    by_cases c2:i < m
    ·have:=u.lo i c2;omega
    ·have:=u.hi i (by omega) (by omega);omega
   rcases Int.lt_or_eq_of_le z with z | z
   ·exact .inl z
   ·exact .inr ⟨z,t⟩
 lo i hi:=by
  by_cases c:i < m
  ·have:=u.lo i c;omega
  ·have:=u.hi i (by omega) (by omega);omega
 hi i h1 h2:=u.hi i (by omega) h2
structure Dw (N:Nat) (xs:Array Keyed) (b:Nat):Prop where
 so:∀ i j,i < j->j < b->K xs j < K xs i∨K xs j=K xs i/\Iv xs j < Iv xs i
 lo:∀ i,i < b->Iv xs i < b
 hi:∀ i,b<=i->i < N->Iv xs i=i
structure Dq (N:Nat) (xs:Array Keyed) (b x:Nat):Prop extends Dw N xs b where
 bx:b < x
 eq:∀ i,b<=i->i < x->K xs i=K xs (x - 1)
 gt:∀ i,i < b->K xs (x - 1) < K xs i
theorem Dq.turn {N:Nat} {xs ys:Array Keyed} {b x:Nat} (d:Dq N xs b x) (hx:x<=N) (hk:∀ i,K ys i=K xs i) (hv:∀ i,Iv ys i=if b<=i/\i < x then Iv xs (b+x - 1 - i) else Iv xs i):Dw N ys x where
 so i j l hj:=by
  rw [hk,hk,hv,hv]
  by_cases c:j < b
  ·rw [if_neg (by omega),if_neg (by omega)];exact d.so i j l c
  ·rw [d.eq j (by omega) hj,if_pos (by omega),d.hi _ (by omega) (by omega)]
   by_cases c2:i < b
   ·exact .inl (d.gt i c2)
   ·rw [d.eq i (by omega) (by omega),if_pos (by omega),d.hi _ (by omega) (by omega)]
    exact .inr ⟨rfl,by omega⟩
 lo i hi:=by
  rw [hv]
  split
  ·rw [d.hi _ (by omega) (by omega)];omega
  ·have:=d.lo i (by omega);have:=d.bx;omega
 hi i h1 h2:=by rw [hv,if_neg (by omega)];exact d.hi i (by have:=d.bx;omega) h2
theorem Dw.next {N:Nat} {xs:Array Keyed} {x:Nat} (d:Dw N xs x) (hx:x < N) (h1:0 < x) (h:∀ i,i < x->K xs x < K xs i):Dq N xs x (x+1) where
 toDw:=d
 bx:=by omega
 eq i a b:=by rw [show i=x+1 - 1 by omega]
 gt i hi:=by rw [show x+1 - 1=x by omega];exact h i hi
section
variable {prog:Program} {w:World} {A:Around} {E:Value->Shared->Prop} {s:Shared} {a₀:Array Keyed}
theorem zBS {st:SortSt} {n r:Nat} {Q:Option Nat->SortSt->Prop} (ik:IntKeys a₀) (hr:r<=a₀.size) (h1:1<=n) (hn:n<=r) (sb:SBase a₀ st) (d:Dw a₀.size (arrOf st) n)
  (h:∀ m st',SBase a₀ st'->1<=m->m<=r->Up a₀.size (arrOf st') m->Q (some m) st'):wpS (model prog w) A E s (tail3 n r) Q st:=by
 unfold tail3
 have sz:n<=(arrOf st).size:=by rw [sb.size];omega
 refine wpS_bind (wpS_reverse ?_)
 have sb2:SBase a₀ (setArr st (mirror (arrOf st) 0 n ((n - 0) / 2))):=sb.setArr (mirror_perm ..)
 have up:Up a₀.size (mirror (arrOf st) 0 n ((n - 0) / 2)) n:=by
  refine ⟨fun i j l hj=>?_,fun i hi=>?_,fun i p q=>?_⟩
  ·rw [K_mirror sz,K_mirror sz,lK sz,lK sz,if_pos (by omega),if_pos (by omega),if_pos (by omega),if_pos (by omega)]
   exact d.so _ _ (by omega) (by omega)
  ·rw [lK sz,if_pos (by omega)];exact d.lo _ (by omega)
  ·rw [lK sz,if_neg (by omega)];exact d.hi i p q
 exact wpS_bind (wpS_ascLoop ik hr h1 hn sb2 (fun i j l hj=>up.le l hj) fun m m1 m2 sm _=>wpS_pure (h m _ sb2 (by omega) m2 (up.on (by omega) m1 sm)))
theorem zFm {st:SortSt} {b n r:Nat} {Q:DescSt->SortSt->Prop} (ik:IntKeys a₀) (hr:r<=a₀.size) (hn:n<=r) (hb:b+1=n) (sb:SBase a₀ st) (d:Dq a₀.size (arrOf st) b n)
  (h:∀ m q st',SBase a₀ st'->m<=r->q < m->Dq a₀.size (arrOf st') (m - (q+1)) m->Q (none,m,q) st'):wpS (model prog w) A E s (descLoop n r) Q st:=by
 unfold descLoop
 refine wpS_forRange (I:=fun x c st'=>∃ q,c=(none,x,q)/\SBase a₀ st'/\q < x/\Dq a₀.size (arrOf st') (x - (q+1)) x) ?step ?fin ⟨0,rfl,sb,by omega,by rw [show n - (0+1)=b by omega];exact d⟩
 case fin=>
  rintro c st' ⟨q,rfl,sb',hq,d'⟩
  rw [show max n r=r by omega] at hq d' ⊢
  exact h r q st' sb' (Nat.le_refl _) hq d'
 case step=>
  rintro x c st' nx xr ⟨q,rfl,sb',hq,d'⟩
  dsimp only
  have sz:x<=(arrOf st').size:=by rw [sb'.size];omega
  refine wpS_bind (wpS_ltK sb' ik (show x < _ by omega) (show x - 1 < _ by omega) ?_)
  by_cases c1:K (arrOf st') x < K (arrOf st') (x - 1)
  ·have all:∀ i,i < x->K (arrOf st') x < K (arrOf st') i:=fun i hi=>by
    by_cases c2:i < x - (q+1)
    ·exact Int.lt_trans c1 (d'.gt i c2)
    ·rw [d'.eq i (by omega) hi];exact c1
   rw [decide_eq_true c1]
   dsimp only
   rw [if_pos rfl]
   by_cases c3:q > 0
   ·rw [if_pos c3]
    have kk:=K_mirror_equal (i:=x - (q+1)) sz (fun k p1 p2=>d'.eq k p1 p2)
    refine wpS_bind (wpS_reverse (wpS_pure ⟨0,rfl,sb'.setArr (mirror_perm ..),by omega,?_⟩))
    have dw:Dw a₀.size (mirror (arrOf st') (x - (q+1)) x ((x - (x - (q+1))) / 2)) x:=d'.turn (by omega) kk (lK sz)
    exact dw.next (by omega) (by omega) fun i hi=>by rw [kk,kk];exact all i hi
   ·rw [if_neg c3]
    have q0:q=0:=by omega
    subst q0
    have dw:Dw a₀.size (arrOf st') x:=d'.turn (by omega) (fun _=>rfl) fun i=>by
     split
     ·rw [show x - (0+1)+x - 1 - i=i by omega]
     ·rfl
    exact wpS_pure ⟨0,rfl,sb',by omega,dw.next (by omega) (by omega) all⟩
  ·rw [decide_eq_false c1]
   dsimp only
   rw [if_neg (by decide)]
   refine wpS_bind (wpS_ltK sb' ik (show x - 1 < _ by omega) (show x < _ by omega) ?_)
   by_cases c4:K (arrOf st') (x - 1) < K (arrOf st') x
   ·rw [decide_eq_true c4]
    dsimp only
    rw [if_pos rfl]
    exact wpS_pure (h x q st' sb' (by omega) hq d')
   ·rw [decide_eq_false c4]
    dsimp only
    rw [if_neg (by decide)]
    have ee:K (arrOf st') x=K (arrOf st') (x - 1):=by omega
    refine wpS_pure ⟨q+1,rfl,sb',by omega,?_⟩
    rw [show x+1 - (q+1+1)=x - (q+1) by omega]
    refine ⟨d'.toDw,by omega,fun i p1 p2=>?_,fun i p1=>?_⟩
    ·rw [show x+1 - 1=x by omega]
     by_cases c5:i=x
     ·rw [c5]
     ·rw [ee];exact d'.eq i p1 (by omega)
    ·rw [show x+1 - 1=x by omega,ee];exact d'.gt i p1
theorem zQ {st:SortSt} {n r:Nat} {Q:Option Nat->SortSt->Prop} (ik:IntKeys a₀) (hr:r<=a₀.size) (hn:n+1<=r) (sb:SBase a₀ st) (d:Dq a₀.size (arrOf st) n (n+1))
  (h:∀ m st',SBase a₀ st'->1<=m->m<=r->Up a₀.size (arrOf st') m->Q (some m) st'):wpS (model prog w) A E s (descPart n r) Q st:=by
 unfold descPart
 refine wpS_bind (wpS_lift (wpAny_rule ⟨rfl,?_⟩))
 refine wpS_bind (zFm ik hr hn rfl sb d fun m q st' sb' mr hq d'=>?_)
 dsimp only
 have sz:m<=(arrOf st').size:=by rw [sb'.size];omega
 by_cases c:q > 0
 ·rw [if_pos c]
  exact wpS_bind (wpS_reverse (zBS ik hr (by omega) mr (sb'.setArr (mirror_perm ..)) (d'.turn (by omega) (K_mirror_equal sz fun k p1 p2=>d'.eq k p1 p2) (lK sz)) h))
 ·rw [if_neg c]
  have q0:q=0:=by omega
  subst q0
  refine zBS ik hr (by omega) mr sb' (d'.turn (by omega) (fun _=>rfl) fun i=>?_) h
  split
  ·rw [show m - (0+1)+m - 1 - i=i by omega]
  ·rfl
theorem zGa {st:SortSt} {r:Nat} {Q:Option Nat->SortSt->Prop} (ik:IntKeys a₀) (hr:r<=a₀.size) (h1:1<=r) (sb:SBase a₀ st) (h0:∀ i,i < a₀.size->Iv (arrOf st) i=i)
  (h:∀ m st',SBase a₀ st'->1<=m->m<=r->Up a₀.size (arrOf st') m->Q (some m) st'):wpS (model prog w) A E s (countRun' 0 r) Q st:=by
 have u1:Up a₀.size (arrOf st) 1:=⟨fun i j l hj=>by omega,fun i hi=>by have:=h0 i (by omega);omega,fun i _ z=>h0 i z⟩
 rw [countRun0_eq]
 refine wpS_bind (wpS_ascLoop ik hr (Nat.le_refl 1) h1 sb (fun i j l hj=>u1.le l hj) fun n n1 n2 sn no=>?_)
 have un:=u1.on (show n<=_ by omega) n1 sn
 dsimp only
 by_cases c:n=r
 ·rw [if_pos (by simpa using c)]
  exact wpS_pure (h n st sb n1 n2 un)
 ·rw [if_neg (by simpa using c)]
  have fl:K (arrOf st) n < K (arrOf st) (n - 1):=no.resolve_left c
  by_cases c2:n > 1
  ·rw [if_pos c2]
   refine wpS_bind (wpS_ltK sb ik (show 0 < _ by omega) (show n - 1 < _ by omega) ?_)
   by_cases c3:K (arrOf st) 0 < K (arrOf st) (n - 1)
   ·rw [decide_eq_true c3]
    dsimp only
    rw [if_pos rfl]
    exact wpS_pure (h n st sb n1 n2 un)
   ·rw [decide_eq_false c3]
    dsimp only
    rw [if_neg (by decide)]
    have sz:n<=(arrOf st).size:=by rw [sb.size];omega
    have al:∀ k,0<=k->k < n->K (arrOf st) k=K (arrOf st) (n - 1):=fun k _ hk=>by
     have p1:=sn 0 k (by omega) hk
     have p2:=sn k (n - 1) (by omega) (by omega)
     omega
    have kk:=K_mirror_equal (i:=0) sz al
    have dq:Dq a₀.size (arrOf st) 0 n:=⟨⟨fun i j l hj=>by omega,fun i hi=>by omega,fun i _ z=>h0 i z⟩,by omega,fun i p1 p2=>al i p1 p2,fun i hi=>by omega⟩
    have dw:Dw a₀.size (mirror (arrOf st) 0 n ((n - 0) / 2)) n:=dq.turn (by omega) kk (lK sz)
    refine wpS_bind (wpS_reverse (zQ ik hr (by omega) (sb.setArr (mirror_perm ..)) (dw.next (by omega) (by omega) fun i hi=>?_) h))
    rw [kk,kk,al i (by omega) hi];exact fl
  ·rw [if_neg c2]
   have n0:n=1:=by omega
   subst n0
   have dw:Dw a₀.size (arrOf st) 1:=⟨fun i j l hj=>by omega,fun i hi=>by have:=h0 i (by omega);omega,fun i _ z=>h0 i z⟩
   refine zQ ik hr (by omega) sb (dw.next (by omega) (by omega) fun i hi=>?_) h
   rw [show i=1 - 1 by omega];exact fl
theorem zHV {st:SortSt} {n m:Nat} {Q:Bool->SortSt->Prop} (ik:IntKeys a₀) (hn:n<=a₀.size) (h1:1<=m) (hm:m<=n) (sb:SBase a₀ st) (u:Up a₀.size (arrOf st) m)
  (h:∀ st',SBase a₀ st'->Up a₀.size (arrOf st') n->Q true st'):wpS (model prog w) A E s (binarySort' 0 n m) Q st:=by
 rw [binarySort'_eq]
 simp only [Nat.zero_add]
 refine wpS_bind (wpS_mono (wpS_forRange (I:=fun k c st'=>c=(none,())/\SBase a₀ st'/\Up a₀.size (arrOf st') (min k n)) (Q:=fun c st'=>c=(none,())/\SBase a₀ st'/\Up a₀.size (arrOf st') n) ?step ?fin ⟨rfl,sb,by rw [show min (max m 1) n=m by omega];exact u⟩) ?post)
 case post=>
  rintro c st' ⟨rfl,sb',u'⟩
  exact wpS_pure (h st' sb' u')
 case fin=>
  rintro c st' ⟨hc,sb',u'⟩
  rw [show min (max (max m 1) n) n=n by omega] at u'
  exact ⟨hc,sb',u'⟩
 case step=>
  rintro k c st' mk kn ⟨rfl,sb',u'⟩
  rw [show min k n=k by omega] at u'
  have ka:k < a₀.size:=by omega
  refine wpS_bind (wpS_mono (wpS_forRange
   (I:=fun x c st2=>st2=st'/\∃ l r,c=(none,l,r)/\l<=r/\r<=k/\r - l<=k - x/\(∀ i,i < l->K (arrOf st') i<=K (arrOf st') k)/\∀ i,r<=i->i < k->K (arrOf st') k < K (arrOf st') i)
   (Q:=fun c st2=>st2=st'/\∃ l r,c=(none,l,r)/\l<=k/\(∀ i,i < l->K (arrOf st') i<=K (arrOf st') k)/\∀ i,l<=i->i < k->K (arrOf st') k < K (arrOf st') i) ?js ?jf ?ji) ?jp)
  case ji=>exact ⟨rfl,0,k,rfl,by omega,by omega,by omega,fun i z=>by omega,fun i y z=>by omega⟩
  case jf=>
   rintro c st2 ⟨rfl,l,r,rfl,lr,rk,lx,f1,f2⟩
   have:l=r:=by omega
   subst this
   exact ⟨rfl,l,l,rfl,rk,f1,f2⟩
  case js=>
   rintro x c st2 _ xk ⟨rfl,l,r,rfl,lr,rk,lx,f1,f2⟩
   dsimp only
   by_cases c1:l ≥ r
   ·rw [if_pos c1]
    have:l=r:=by omega
    subst this
    exact wpS_pure ⟨rfl,l,l,rfl,rk,f1,f2⟩
   ·rw [if_neg c1]
    refine wpS_bind (wpS_ltK sb' ik ka (show (l+r) / 2 < _ by omega) ?_)
    by_cases c2:K (arrOf st2) k < K (arrOf st2) ((l+r) / 2)
    ·rw [decide_eq_true c2]
     dsimp only
     rw [if_pos rfl]
     exact wpS_pure ⟨rfl,l,(l+r) / 2,rfl,by omega,by omega,by omega,f1,fun i y z=>Int.lt_of_lt_of_le c2 (u'.le y z)⟩
    ·rw [decide_eq_false c2]
     dsimp only
     rw [if_neg (by decide)]
     exact wpS_pure ⟨rfl,(l+r) / 2+1,r,rfl,by omega,by omega,by omega,fun i y=>Int.le_trans (u'.le (show i<=(l+r) / 2 by omega) (by omega)) (Int.not_lt.mp c2),f2⟩
  case jp=>
   rintro c st2 ⟨rfl,l,r,rfl,lk,f1,f2⟩
   show wpS _ _ _ _ (do moveDown' k l;pure (ForInStep.yield (none,()))) _ _
   rw [moveDown'_eq]
   refine wpS_bind (wpS_modify (wpS_pure ⟨rfl,sb'.setArr (bubble_perm ..),?_⟩))
   rw [show min (k+1) n=k+1 by omega]
   have sz:k < (arrOf st2).size:=by rw [sb'.size];exact ka
   have ik2:=u'.hi k (Nat.le_refl _) ka
   show Up a₀.size (bubble (arrOf st2) k (k - l)) (k+1)
   have kb:=fun i=>K_bubble sz (show k - l<=k by omega) i
   have vb:=fun i=>zHY sz (show k - l<=k by omega) i
   rw [show k - (k - l)=l by omega] at kb vb
   refine ⟨fun i j ij jk=>?_,fun i z=>?_,fun i y z=>?_⟩
   ·rw [kb,kb,vb,vb]
    by_cases e1:i=l
    ·rw [if_pos e1,if_neg (show j≠l by omega),if_pos (show l < j/\j<=k by omega),if_pos e1]
     exact .inl (f2 _ (by omega) (by omega))
    ·by_cases e2:j=l
     ·rw [if_neg e1,if_neg (show ¬ (l < i/\i<=k) by omega),if_pos e2,if_neg e1,if_neg (show ¬ (l < i/\i<=k) by omega),if_pos e2]
      have t:=u'.lo i (by omega)
      rcases Int.lt_or_eq_of_le (f1 i (by omega)) with z | z
      ·exact .inl z
      ·exact .inr ⟨z,by omega⟩
     ·rw [if_neg e1,if_neg e2,if_neg e1,if_neg e2]
      by_cases g1:l < i/\i<=k
      ·rw [if_pos g1,if_pos g1,if_pos (show l < j/\j<=k by omega),if_pos (show l < j/\j<=k by omega)]
       exact u'.so _ _ (by omega) (by omega)
      ·rw [if_neg g1,if_neg g1]
       by_cases g2:l < j/\j<=k
       ·rw [if_pos g2,if_pos g2];exact u'.so _ _ (by omega) (by omega)
       ·rw [if_neg g2,if_neg g2];exact u'.so _ _ ij (by omega)
   ·rw [vb]
    split
    ·omega
    ·split
     ·have:=u'.lo (i - 1) (by omega);omega
     ·have:=u'.lo i (by omega);omega
   ·rw [vb,if_neg (by omega),if_neg (by omega)];exact u'.hi i (by omega) z
theorem zFj {st:SortSt} {Q:Unit->SortSt->Prop} (ik:IntKeys a₀) (sb:SBase a₀ st) (h2:2<=a₀.size) (h64:a₀.size < 64) (h0:∀ i,i < a₀.size->Iv (arrOf st) i=i)
  (h:∀ st',(arrOf st').Perm a₀->failedOf st'=none->Up a₀.size (arrOf st') a₀.size->Q () st'):wpS (model prog w) A E s sortRuns' Q st:=by
 rw [sortRuns'_eq]
 refine wpS_bind (wpS_get ?_)
 dsimp only
 have mr:minRun' a₀.size a₀.size 0=a₀.size:=by
  obtain ⟨f,hf⟩:∃ f,a₀.size=f+1:=⟨a₀.size - 1,by omega⟩
  have z:minRun' (f+1) a₀.size 0=a₀.size:=by rw [minRun'_succ,if_pos h64,Nat.add_zero]
  rw [<-hf] at z;exact z
 have fin:∀ st':SortSt,SBase a₀ st'->Up a₀.size (arrOf st') a₀.size->(fun st=>(arrOf st).Perm a₀/\failedOf st=none/\pendingOf st=#[(0,a₀.size,0)]/\Up a₀.size (arrOf st) a₀.size) (setPending st' ((pendingOf st').push (0,a₀.size,0))):=fun st' b u=>
  ⟨b.perm,b.failed,by show (pendingOf st').push _=_;rw [b.pend];rfl,u⟩
 simp only [sb.size,mr]
 refine wpS_bind (wpS_mono (wpS_forRange
  (I:=fun x c st'=>(x=0/\c=(none,0)/\st'=st)∨(1<=x/\c=(none,a₀.size)/\(arrOf st').Perm a₀/\failedOf st'=none/\pendingOf st'=#[(0,a₀.size,0)]/\Up a₀.size (arrOf st') a₀.size))
  (Q:=fun c st'=>c=(none,a₀.size)/\(arrOf st').Perm a₀/\failedOf st'=none/\pendingOf st'=#[(0,a₀.size,0)]/\Up a₀.size (arrOf st') a₀.size) ?step ?fin (.inl ⟨rfl,rfl,rfl⟩)) ?post)
 case fin=>
  rintro c st' (⟨z,_,_⟩ | ⟨_,r⟩)
  ·omega
  ·exact r
 case step=>
  rintro x c st' _ hx (⟨rfl,rfl,rfl⟩ | ⟨_,rfl,r⟩)
  ·dsimp only
   rw [if_neg (by omega)]
   simp only [Nat.sub_zero,Nat.min_self,Nat.zero_add]
   refine wpS_bind (zGa ik (Nat.le_refl _) (by omega) sb h0 fun m st2 sb2 m1 m2 u2=>?_)
   dsimp only
   by_cases c:m < a₀.size
   ·rw [if_pos c]
    refine wpS_bind (wpS_lift (wpAny_rule ⟨rfl,?_⟩))
    refine wpS_bind (zHV ik (Nat.le_refl _) m1 m2 sb2 u2 fun st3 sb3 u3=>?_)
    rw [Bool.not_true,if_neg Bool.false_ne_true]
    refine wpS_bind (wpS_get ?_)
    rw [show (pendingOf st3).back?=none by rw [sb3.pend];rfl]
    dsimp only
    exact wpS_bind (wpS_modify (wpS_pure (.inr ⟨by omega,rfl,fin st3 sb3 u3⟩)))
   ·rw [if_neg c]
    have mm:m=a₀.size:=by omega
    subst mm
    refine wpS_bind (wpS_get ?_)
    rw [show (pendingOf st2).back?=none by rw [sb2.pend];rfl]
    dsimp only
    exact wpS_bind (wpS_modify (wpS_pure (.inr ⟨by omega,rfl,fin st2 sb2 u2⟩)))
  ·dsimp only
   rw [if_pos (Nat.le_refl _)]
   exact wpS_pure ⟨rfl,r⟩
 case post=>
  rintro c st' ⟨rfl,p1,p2,p3,p4⟩
  dsimp only
  refine wpS_bind (wpS_mono (wpS_forRange (I:=fun _ c st2=>st2=st'/\c=(none,())) (Q:=fun c st2=>st2=st'/\c=(none,())) ?_ (fun _ _ z=>z) ⟨rfl,rfl⟩) ?_)
  ·rintro x c st2 _ _ ⟨rfl,rfl⟩
   refine wpS_bind (wpS_get ?_)
   rw [if_pos (by rw [p3];exact Nat.le_refl 1)]
   exact wpS_pure ⟨rfl,rfl⟩
  ·rintro c st2 ⟨rfl,rfl⟩
   exact wpS_pure (h _ p1 p2 p4)
end
end L3
namespace L3
open PySem PySem.Spec PyProof.Rows L2
unseal PEd PEf PTd PWd PAd PSd bZ POd PGd cX PId PSx dS PTs PCd PCf
section
variable {prog:Program} {w:World} {A:Around} {E:Value->Shared->Prop} {s:Shared}
theorem pH {r:Addr} {a b c:Int} {t u v:Tok} {n:Nat} {R:List Value->Shared->Prop} (hh:A.handled=none) (hr:IsRange s.heap r a b c t u v) (hsmall:Builtin.Range.small a b c=true) (hn:Builtin.Range.rangeSize a b c=n) (hlen:n<=2^24)
  (h:∀ h' tk acc,(∀ b o,s.heap.get? b=some o->h'.get? b=some o)->s.heap.objs.size<=h'.objs.size->ItemsOf (fun i v=>∃ t,v=.int (a+i * c) t) acc n->R acc.toList { s with heap:=h',toks:=tk }):
  wpAny (model prog w) A (collect (.ref r)) R E s:=by
 unfold collect
 refine wpAny_bind (wpAny_runValue (codeAny_builtin entry_proto_collect' ?_))
 rw [Around.under_plainId PySem.F.plain_proto_collect _]
 show wpAny _ A.in1 (newList [] >>= fun l=>again (.builtin "list.__iadd__" ⟨[l,.ref r],[]⟩)) _ _ s
 refine wpAny_bind (wpAny_newObj_type ?_)
 refine wpAny_pure ⟨plainId_quiet PySem.F.plain_list_iadd _,codeAny_builtin entry_list_iadd' ?_⟩
 rw [Around.under_plainId PySem.F.plain_list_iadd _]
 have hS₁:(s.heap.push { cls:=.type "list", data:=.seq ([]:List Value).toArray }).get? s.heap.objs.size=some { cls:=.type "list", data:=.seq #[] }:=Heap.get?_push_size _ rfl
 show wpAny _ A.in1 (Builtin.List.listExtendWith (.ref s.heap.objs.size) (.ref r) (.ref s.heap.objs.size)) _ _ _
 have key:=wpAny_extend_range (prog:=prog) (w:=w) (A:=A) (s:={ s with heap:=s.heap.push { cls:=.type "list", data:=.seq ([]:List Value).toArray } })
  (R:=fun (q:Result) (s':Shared)=>∃ (h':Heap) (tk:Nat) (acc':Array Value) (c':Nat),q=.ok (.ret (.ref s.heap.objs.size))/\s'={ s with heap:=h',toks:=tk }/\
   (∀ b o,s.heap.get? b=some o->h'.get? b=some o)/\h'.get? s.heap.objs.size=some { cls:=.type "list", dict:=none,data:=.seq acc' c',slots:=#[] }/\ItemsOf (fun i v=>∃ t,v=.int (a+i * c) t) acc' n)
  hh (Heap.get?_push_of_some _ hr) hsmall hn hlen s.heap.objs.size (.ref s.heap.objs.size) 0 hS₁
  (fun h' tk acc' c' hk hS' hacc=>⟨h',tk,acc',c',rfl,rfl,fun b o e=>hk b o (Nat.ne_of_lt (Heap.lt_size e)) (Heap.get?_push_of_some _ e),hS',hacc⟩)
 refine wpAny_mono key (fun fin s' x=>?_) fun e s' x=>?_
 ·cases fin with
  | done f=>
   obtain ⟨h',tk,acc',c',e,rfl,hk,hS',hacc⟩:=x
   cases e
   show wpAny _ A (load s.heap.objs.size >>= _) _ _ _
   refine wpAny_bind (wpAny_load hS' ?_)
   exact wpAny_pure (h h' tk acc' hk (Nat.le_of_lt (Heap.lt_size hS')) hacc)
  | again c₁=>
   refine ⟨x.1,codeAny_mono x.2 fun q s₂ y=>?_⟩
   obtain ⟨h',tk,acc',c',rfl,rfl,hk,hS',hacc⟩:=y
   show wpAny _ A (load s.heap.objs.size >>= _) _ _ _
   refine wpAny_bind (wpAny_load hS' ?_)
   exact wpAny_pure (h h' tk acc' hk (Nat.le_of_lt (Heap.lt_size hS')) hacc)
 ·obtain ⟨_,_,_,_,e',_⟩:=x
  cases e'
end
section
variable {X:Cx} {pins:List (Addr×Obj)} {σ:St} {H:Hp} {s:Shared} {A:Around} {E:Value->Shared->Prop} {a kS:Addr} {vs:List Value} {kz:List Int} {keys:Array Value} {e e1:Nat} {P:PySem.Fin->Shared->Prop}
theorem jI {h':Heap} {tk:Nat} (f:kP X pins H a) (I:Inv X pins σ H s) (sb:Heap.SameBut a s.heap h'):Inv X pins σ H { s with heap:=h',toks:=tk }:=by
 obtain ⟨f0,f1,f2,f3,f4,f5⟩:=f
 exact I.turned (fun b o hb e=>(sb.2 b hb).trans e) f0 f1 f3 f4 f5
def KsS (kz:List Int) (vs out:List Value):Prop:=∃ ps:List (Int×Value),ps.Perm (kz.zip vs)/\out=ps.map Prod.snd/\ps.Pairwise fun p q=>p.1 < q.1∨p.1=q.1/\numOf p.2 < numOf q.2
theorem zEI {xs:Array Keyed} {n:Nat} (hk:IntsAre keys.toList kz) (hp:xs.Perm (keys.zip vs.toArray)) (up:Up n xs xs.size):KsS kz vs (xs.map (·.2)).toList:=by
 have hl:xs.toList.Perm (keys.toList.zip vs):=by
  have z:=Array.perm_iff_toList_perm.mp hp
  rwa [Array.toList_zip,List.toList_toArray] at z
 refine ⟨xs.toList.map fun p=>(numOf p.1,p.2),?_,?_,?_⟩
 ·have z:=hl.map (fun p=>(numOf p.1,p.2))
  rw [<-hk.nums,List.zip_map_left]
  exact z
 ·rw [Array.toList_map,List.map_map];rfl
 ·rw [List.pairwise_map,List.pairwise_iff_getElem]
  intro i j hi hj hij
  rw [Array.length_toList] at hi hj
  have z:=up.so i j hij hj
  rw [K_eq hi,K_eq hj] at z
  have iv:∀ k (h:k < xs.size),Iv xs k=numOf xs[k].2:=fun k h=>by unfold Iv;rw [getElem?_pos xs k h]
  rw [iv i hi,iv j hj] at z
  exact z
theorem zDR (hsz:keys.size=vs.length) (hv:∀ (j:Nat) (v:Value),vs[j]?=some v->∃ t,v=.int j t) (i:Nat) (hi:i < (keys.zip vs.toArray).size):Iv (keys.zip vs.toArray) i=i:=by
 have h2:i < vs.length:=by rw [Array.size_zip,hsz,List.size_toArray,Nat.min_self] at hi;exact hi
 obtain ⟨t,ht⟩:=hv i _ (List.getElem?_eq_getElem h2)
 unfold Iv
 rw [getElem?_pos _ i hi]
 show numOf ((keys.zip vs.toArray)[i]).2=_
 rw [Array.getElem_zip]
 show numOf (vs.toArray[i])=_
 rw [List.getElem_toArray,ht]
 rfl
theorem zBm {st:SortSt} (I:Inv X pins σ H s) (fa:kP X pins H a) (fk:kP X pins H kS) (hka:kS≠a) (nk:s.heap.get? kS=some (seqObj "list" keys e)) (na:s.heap.get? a=some (seqObj "list" #[] e1))
  (hk:IntsAre keys.toList kz) (hlen:kz.length=vs.length) (h64:vs.length < 64) (hp:(arrOf st).Perm (keys.zip vs.toArray)) {n:Nat} (hs:Up n (arrOf st) (arrOf st).size) (hfl:failedOf st=none)
  (h:∀ s' out c,Inv X pins σ H s'->s'.heap.get? a=some (seqObj "list" out c)->KsS kz vs out.toList->P (.done (.ret .none)) s'):
  wpAny (model X.prog X.w) A (ksk_tail a false e1 (.ref kS) st) P E s:=by
 have hsz:keys.size=vs.length:=by
  have h1:=hk.length
  rw [Array.length_toList] at h1
  omega
 have hsz2:(arrOf st).size=vs.length:=by rw [hp.size_eq,Array.size_zip,hsz,List.size_toArray,Nat.min_self]
 have hout:((arrOf st).map (·.2)).size=vs.length:=by rw [Array.size_map];exact hsz2
 have s1:=Heap.SameBut.update s.heap kS (Obj.mapSeq fun _=>(#[]:Array Value))
 have na1:(s.heap.update kS (Obj.mapSeq fun _=>(#[]:Array Value))).get? a=some (seqObj "list" #[] e1):=(s1.2 a hka.symm).trans na
 have s2:=Heap.SameBut.update (s.heap.update kS (Obj.mapSeq fun _=>(#[]:Array Value))) a (Obj.mapSeq fun _=>(arrOf st).map (·.2))
 obtain ⟨c2,hc2⟩:∃ c2,((s.heap.update kS (Obj.mapSeq fun _=>(#[]:Array Value))).update a (Obj.mapSeq fun _=>(arrOf st).map (·.2))).get? a=some (seqObj "list" ((arrOf st).map (·.2)) c2):=
  ⟨_,get?_update_seq na1 fun _=>(arrOf st).map (·.2)⟩
 unfold ksk_tail
 try dsimp only
 refine wpAny_bind (listUpdate_at nk rfl ?_ (by rw [hsz,sizeLine_eq];omega) (Nat.zero_le _))
 refine wpAny_bind (wpAny_letGo ?_)
 refine wpAny_bind (seqEpoch_at na1 rfl ?_)
 refine wpAny_bind (listUpdate_at na1 rfl ?_ (Nat.zero_le _) (by simp only [Bool.false_eq_true,if_false];exact Nat.le_trans (Nat.le_of_eq hout) (by rw [sizeLine_eq];omega)))
 rw [hfl]
 simp only [bne_self_eq_false,Bool.false_eq_true,if_false]
 have I1:Inv X pins σ H { s with heap:=s.heap.update kS (Obj.mapSeq fun _=>(#[]:Array Value)) }:=jI fk (tk:=s.toks) I s1
 have I2:Inv X pins σ H { s with heap:=(s.heap.update kS (Obj.mapSeq fun _=>(#[]:Array Value))).update a (Obj.mapSeq fun _=>(arrOf st).map (·.2)) }:=(by have z:=jI (tk:=s.toks) fa I1 s2;exact z)
 exact wpAny_pure (h _ _ c2 I2 hc2 (zEI hk hp hs))
theorem zGq (I:Inv X pins σ H s) (fa:kP X pins H a) (fk:kP X pins H kS) (hka:kS≠a) (nk:s.heap.get? kS=some (seqObj "list" keys e)) (na:s.heap.get? a=some (seqObj "list" #[] e1))
  (hk:IntsAre keys.toList kz) (hlen:kz.length=vs.length) (h64:vs.length < 64)
  (hv:∀ (j:Nat) (v:Value),vs[j]?=some v->∃ t,v=.int j t)
  (h:∀ s' out c,Inv X pins σ H s'->s'.heap.get? a=some (seqObj "list" out c)->KsS kz vs out.toList->P (.done (.ret .none)) s'):
  wpAny (model X.prog X.w) A (ksk_end a false vs.toArray e1 (.ref kS) keys) P E s:=by
 have hsz:keys.size=vs.length:=by
  have h1:=hk.length
  rw [Array.length_toList] at h1
  omega
 have hzs:(keys.zip vs.toArray).size=vs.length:=by rw [Array.size_zip,hsz,List.size_toArray,Nat.min_self]
 unfold ksk_end
 try dsimp only
 simp only [Bool.false_eq_true,if_false]
 by_cases h2:vs.toArray.size < 2
 ·rw [if_pos h2,if_pos h2]
  refine wpAny_bind (wpAny_pure ?_)
  rw [StateT.run_pure]
  refine wpAny_bind (wpAny_pure ?_)
  try dsimp only
  rw [List.size_toArray] at h2
  refine zBm (st:=SortSt.mk' general' (keys.zip vs.toArray) #[] 7 none) (n:=0) I fa fk hka nk na hk hlen h64 (Array.Perm.refl _) ⟨fun i j l hj=>?_,fun i hi=>?_,fun i _ z=>by omega⟩ rfl h
  ·have hj2:j < (keys.zip vs.toArray).size:=hj
   rw [hzs] at hj2
   omega
  ·have z:=zDR hsz hv i hi
   show Iv (keys.zip vs.toArray) i < _
   rw [z]
   exact_mod_cast hi
 ·rw [if_neg h2,if_neg h2]
  rw [List.size_toArray] at h2
  rw [ksk_kind hk (by rw [hsz];omega)]
  refine wpAny_bind (wpAny_pure ?_)
  refine wpAny_bind (wpAny_mono (zFj (a₀:=keys.zip vs.toArray) (st:=SortSt.mk' oneType' (keys.zip vs.toArray) #[] 7 none)
   (Q:=fun _ st'=>(arrOf st').Perm (keys.zip vs.toArray)/\failedOf st'=none/\Up (keys.zip vs.toArray).size (arrOf st') (keys.zip vs.toArray).size)
   (ksk_intKeys hk) ⟨Array.Perm.refl _,rfl,rfl,rfl⟩ (by rw [hzs];omega) (by rw [hzs];exact h64) (zDR hsz hv) fun st' a1 a2 a3=>⟨a1,a2,a3⟩) ?_ fun _ _ e=>e)
  rintro ⟨⟨⟩,st'⟩ s' ⟨rfl,hp,hf,hs⟩
  try dsimp only
  exact zBm (n:=(keys.zip vs.toArray).size) I fa fk hka nk na hk hlen h64 hp (by rw [hp.size_eq];exact hs) hf h
theorem zEh {f:Value} {e0:Nat} (I:Inv X pins σ H s) (fa:kP X pins H a) (fk:kP X pins H kS) (hka:kS≠a) (nk:s.heap.get? kS=some (seqObj "list" #[] e0)) (na:s.heap.get? a=some (seqObj "list" #[] e1))
  (hlen:kz.length=vs.length) (h64:vs.length < 64)
  (hv:∀ (j:Nat) (v:Value),vs[j]?=some v->∃ t,v=.int j t)
  (turn:∀ (i:Nat) (v:Value) (k:Int),vs[i]?=some v->kz[i]?=some k->∀ (s':Shared) (pl:List (Addr×Obj)),Inv X (pins++pl) σ H s'->
   wpAny (model X.prog X.w) A (call f [v]) (fun u s''=>(∃ t,u=.int k t)/\Inv X (pins++pl) σ H s'') (fun _ _=>False) s')
  (h:∀ s' out c,Inv X pins σ H s'->s'.heap.get? a=some (seqObj "list" out c)->KsS kz vs out.toList->P (.done (.ret .none)) s'):
  wpAny (model X.prog X.w) A (ksk_rest a f false vs.toArray e1 (.ref kS)) P E s:=by
 unfold ksk_rest
 refine wpAny_bind (wpAny_rule ?_)
 first
  | rw [List.forIn_toArray]
  | (rw [<-Array.forIn_toList];simp only [List.toList_toArray])
  | rw [<-Array.forIn_toList]
 refine wpAny_bind (ksk_fold (fun i s'=>∃ kA e,Inv X pins σ H s'/\s'.heap.get? kS=some (seqObj "list" kA e)/\s'.heap.get? a=some (seqObj "list" #[] e1)/\IntsAre kA.toList (kz.take i)) vs 0 s
  ⟨#[],e0,I,nk,na,by simpa using IntsAre.nil⟩ ?step ?done)
 case step=>
  rintro j x s' hx ⟨kA,e,I',nk',na',hk⟩
  simp only [Nat.zero_add] at hk ⊢
  have hj:j < vs.length:=(List.getElem?_eq_some_iff.mp hx).1
  obtain ⟨k,hkj⟩:∃ k,kz[j]?=some k:=⟨_,List.getElem?_eq_getElem (by omega)⟩
  have hz:kA.size<=vs.length:=by
   have h1:=hk.length
   rw [Array.length_toList,List.length_take] at h1
   omega
  have pin:∀ b∈[kS,a],∃ o,s'.heap.get? b=some o/\∀ v,o.data≠.cell v:=fun b hb=>by
   rcases List.mem_cons.mp hb with rfl | hb
   ·exact ⟨_,nk',fun v z=>by have z':Data.seq _ _=Data.cell v:=z;cases z'⟩
   ·rw [List.mem_singleton.mp hb];exact ⟨_,na',fun v z=>by have z':Data.seq _ _=Data.cell v:=z;cases z'⟩
  have Ip:Inv X (pins++mP [kS,a] s'.heap) σ H s':=I'.pinned (fun b hb=>by
   rcases List.mem_cons.mp hb with rfl | hb
   ·exact fk
   ·rw [List.mem_singleton.mp hb];exact fa) pin
  refine wpAny_bind (wpAny_attempt (wpAny_mono (turn j x k hx hkj s' _ Ip) (fun v s'' he=>?_) fun _ _ hF=>hF.elim))
  obtain ⟨⟨t2,rfl⟩,I2p⟩:=he
  try dsimp only
  have nk2:s''.heap.get? kS=some (seqObj "list" kA e):=(I2p.pin _ (List.mem_append_right _ (List.mem_append_right _ (cM (b:=kS) (by simp) nk')))).1
  have na2:s''.heap.get? a=some (seqObj "list" #[] e1):=(I2p.pin _ (List.mem_append_right _ (List.mem_append_right _ (cM (b:=a) (by simp) na')))).1
  have I2:Inv X pins σ H s'':=I2p.unpinned
  have s1:=Heap.SameBut.update s''.heap kS (Obj.mapSeq (·.push (.int k t2)))
  obtain ⟨c2,hc2⟩:∃ c2,(s''.heap.update kS (Obj.mapSeq (·.push (.int k t2)))).get? kS=some (seqObj "list" (kA.push (.int k t2)) c2):=⟨_,get?_update_seq nk2 (·.push (.int k t2))⟩
  have ek:kz.take (j+1)=kz.take j++[k]:=by rw [List.take_add_one,hkj];simp
  have ea:(kA.push (Value.int k t2)).toList=kA.toList++[Value.int k t2]:=by simp
  refine wpAny_bind (listUpdate_at nk2 rfl ?_ (by rw [sizeLine_eq];omega) (Nat.le_trans (Nat.le_of_eq (Array.size_push ..)) (by rw [sizeLine_eq];omega)))
  exact wpAny_pure ⟨rfl,kA.push (.int k t2),c2,jI fk (tk:=s''.toks) I2 s1,hc2,(s1.2 a hka.symm).trans na2,by rw [ea,ek];exact ksk_snoc hk⟩
 case done=>
  rintro s' ⟨kA,e,I',nk',na',hk⟩
  have hk':IntsAre kA.toList kz:=by
   have e3:kz.take (0+vs.length)=kz:=List.take_of_length_le (by omega)
   rw [e3] at hk
   exact hk
  try dsimp only
  refine wpAny_bind (listItems_at nk' rfl ?_)
  exact zGq I' fa fk hka nk' na' hk' hlen h64 hv h
def iI (v:Value):Nat:=(numOf v).toNat
theorem zEL {out:List Value} (hlen:kz.length=vs.length) (hv:∀ (j:Nat) (v:Value),vs[j]?=some v->∃ t,v=.int j t) (h:KsS kz vs out):vU kz (out.map iI)/\cG ((out.map iI).map fun i:Nat=>V.int (i:Int)) out:=by
 obtain ⟨ps,hp,ho,hs⟩:=h
 have at':∀ p,p∈kz.zip vs->∃ (j:Nat) (t:Tok),p.2=.int j t/\kz[j]?=some p.1:=fun p hm=>by
  obtain ⟨j,hj,e⟩:=List.mem_iff_getElem.mp hm
  rw [List.length_zip] at hj
  rw [List.getElem_zip] at e
  obtain ⟨t,ht⟩:=hv j (vs[j]'(by omega)) (List.getElem?_eq_getElem _)
  refine ⟨j,t,by rw [<-e];exact ht,by rw [<-e];exact List.getElem?_eq_getElem _⟩
 have n1:∀ (j:Nat) (t:Tok),iI (.int j t)=j:=fun j t=>by unfold iI;show (Int.toNat (j:Int))=j;rfl
 have hvs:vs.map iI=List.range kz.length:=by
  refine List.ext_getElem? fun j=>?_
  rw [List.getElem?_map]
  by_cases hj:j < vs.length
  ·obtain ⟨t,ht⟩:=hv j _ (List.getElem?_eq_getElem hj)
   rw [List.getElem?_eq_getElem hj,ht,List.getElem?_range (by omega)]
   show some (iI _)=_
   rw [n1]
  ·rw [List.getElem?_eq_none (by omega),List.getElem?_eq_none (by rw [List.length_range];omega)];rfl
 subst ho
 refine ⟨⟨?_,?_,?_⟩,?_⟩
 ·have h1:((ps.map Prod.snd).map iI).Perm (((kz.zip vs).map Prod.snd).map iI):=(hp.map _).map _
  rw [List.map_snd_zip (by omega),hvs] at h1
  exact h1
 ·rw [List.map_map,List.pairwise_map]
  refine List.Pairwise.imp_of_mem (fun {p q} hm hq hr=>?_) hs
  have hr':p.1<=q.1:=by rcases hr with z | z<;>omega
  obtain ⟨i,t,e1,e2⟩:=at' p (hp.mem_iff.mp hm)
  obtain ⟨j,u,e3,e4⟩:=at' q (hp.mem_iff.mp hq)
  show kz.getD (iI p.2) 0<=kz.getD (iI q.2) 0
  rw [e1,e3,n1,n1,List.getD_eq_getElem?_getD,List.getD_eq_getElem?_getD,e2,e4]
  exact hr'
 ·rw [List.map_map,List.pairwise_map]
  refine List.Pairwise.imp_of_mem (fun {p q} hm hq hr=>?_) hs
  obtain ⟨i,t,e1,e2⟩:=at' p (hp.mem_iff.mp hm)
  obtain ⟨j,u,e3,e4⟩:=at' q (hp.mem_iff.mp hq)
  show kz.getD (iI p.2) 0=kz.getD (iI q.2) 0->iI p.2 < iI q.2
  rw [e1,e3] at hr ⊢
  rw [n1,n1,List.getD_eq_getElem?_getD,List.getD_eq_getElem?_getD,e2,e4]
  intro z
  have z':p.1=q.1:=z
  rcases hr with y | y
  ·omega
  ·have:((i:Nat):Int) < (j:Nat):=y.2
   omega
 ·have go:∀ l:List Value,(∀ v∈l,∃ (j:Nat) (t:Tok),v=.int j t)->cG ((l.map iI).map fun i:Nat=>V.int (i:Int)) l:=by
   intro l
   induction l with
   | nil=>intro _;exact .nil
   | cons v r ih=>
    intro hl
    obtain ⟨j,t,rfl⟩:=hl v (.head _)
    exact .cons ⟨t,by rw [n1]⟩ (ih fun u hu=>hl u (.tail _ hu))
  refine go _ fun v hv'=>?_
  obtain ⟨p,hm,rfl⟩:=List.mem_map.mp hv'
  obtain ⟨j,t,e1,_⟩:=at' p (hp.mem_iff.mp hm)
  exact ⟨j,t,e1⟩
theorem zAx {r q:Addr} {n:Nat} {t u v:Tok} {Q:Value->Shared->Prop} (hc:X.calm=true) (I:Inv X pins σ H s) (hr:IsRange s.heap r 0 n 1 t u v) (h64:n < 64) (hkz:kz.length=n)
  (turn:∀ (j:Nat) (tk:Tok) (k:Int),kz[j]?=some k->∀ (s':Shared) (pl:List (Addr×Obj)),Inv X (pins++pl) σ H s'->
   wpAny (model X.prog X.w) X.A.in1.in1 (call (.ref q) [.int j tk]) (fun u s''=>(∃ t,u=.int k t)/\Inv X (pins++pl) σ H s'') (fun _ _=>False) s')
  (h:∀ D s' out c π,Inv X pins σ H s'->kP X pins H D->s.heap.objs.size<=D->s'.heap.get? D=some (seqObj "list" out c)->vU kz π->cG (π.map fun i:Nat=>V.int (i:Int)) out.toList->Q (.ref D) s'):
  wpAny (model X.prog X.w) X.A (call (.builtin "sorted") [.ref r] [(Str.ofString "key", .ref q)]) Q E s:=by
 refine call_function_entry_kw kind_sorted plain_sorted entry_sorted (ksk_s1 _ _) ?_
 unfold Builtin.«sorted»
 refine wpAny_bind (m:=checkCount "sorted" 1 1 _) (wpAny_pure ?_)
 refine wpAny_bind (pH (n:=n) (A:=X.A.in1) (I.ok.hd hc) hr (small_one (by omega) (by omega) (by omega) (by omega)) (by rw [rangeSize_one];split<;>omega) (by omega) fun h1 tk acc hk hsz hacc=>?_)
 have hl:acc.toList.length=n:=by rw [Array.length_toList];exact hacc.1
 refine wpAny_bind (wpAny_newList ?_ (by rw [hl,sizeLine_eq];omega))
 have I1:Inv X pins σ H { s with heap:=h1,toks:=tk }:=I.kept hk
 have fa:kP X pins H h1.objs.size:=I1.fpOk (Nat.le_refl _) (I1.hok.fresh (Nat.le_refl _))
 have I2:Inv X pins σ H { s with heap:=h1.push (seqObj "list" acc.toList.toArray 0),toks:=tk }:=I1.kept (t':=tk) fun b o e=>Heap.get?_push_of_some _ e
 have hoL:(h1.push (seqObj "list" acc.toList.toArray 0)).get? h1.objs.size=some (seqObj "list" acc.toList.toArray 0):=Heap.get?_push_size _ rfl
 show wpAny _ _ _ _ _ { s with heap:=h1.push (seqObj "list" acc.toList.toArray 0),toks:=tk }
 refine wpAny_bind (wpAny_holding (wpAny_call_entry_kw slot_list_sort ⟨_,hoL,rfl⟩ entry_list_sort ?body (ksk_l1 _ _)))
 case body=>
  show wpAny (model X.prog X.w) X.A.in1.in1 (Builtin.«list.sort» ⟨[.ref h1.objs.size],[(Str.ofString "key", .ref q)]⟩) _ _ _
  rw [ksk_t1]
  have s3:=Heap.SameBut.update (h1.push (seqObj "list" acc.toList.toArray 0)) h1.objs.size (Obj.mapSeq fun _=>(#[]:Array Value))
  obtain ⟨e1,ho1⟩:∃ e1,((h1.push (seqObj "list" acc.toList.toArray 0)).update h1.objs.size (Obj.mapSeq fun _=>(#[]:Array Value))).get? h1.objs.size=some (seqObj "list" #[] e1):=⟨_,get?_update_seq hoL fun _=>#[]⟩
  have I3:Inv X pins σ H { s with heap:=(h1.push (seqObj "list" acc.toList.toArray 0)).update h1.objs.size (Obj.mapSeq fun _=>(#[]:Array Value)),toks:=tk }:=(by have z:=jI (tk:=tk) fa I2 s3;exact z)
  generalize hg3:(h1.push (seqObj "list" acc.toList.toArray 0)).update h1.objs.size (Obj.mapSeq fun _=>(#[]:Array Value))=h3 at s3 ho1 I3
  unfold ksk_tree
  refine wpAny_bind (listItems_at hoL rfl ?_)
  refine wpAny_bind (listUpdate_at hoL rfl ?_ (by rw [List.size_toArray,sizeLine_eq];omega) (Nat.zero_le _))
  show wpAny _ _ _ _ _ { s with heap:=(h1.push (seqObj "list" acc.toList.toArray 0)).update h1.objs.size (Obj.mapSeq fun _=>(#[]:Array Value)),toks:=tk }
  rw [hg3]
  refine wpAny_bind (seqEpoch_at ho1 rfl ?_)
  refine wpAny_bind (wpAny_newTuple ?_ (by show acc.toList.toArray.toList.length<=_;rw [sizeLine_eq,List.toList_toArray];omega))
  refine wpAny_bind (wpAny_newList ?_ (Nat.zero_le _))
  refine wpAny_holding ?_
  have I4:Inv X pins σ H { s with heap:=h3.push (seqObj "tuple" acc.toList.toArray 0),toks:=tk }:=I3.kept (t':=tk) fun b o e=>Heap.get?_push_of_some _ e
  have fk:kP X pins H (h3.push (seqObj "tuple" acc.toList.toArray 0)).objs.size:=I4.fpOk (Nat.le_refl _) (I4.hok.fresh (Nat.le_refl _))
  have I5:Inv X pins σ H { s with heap:=(h3.push (seqObj "tuple" acc.toList.toArray 0)).push (seqObj "list" #[] 0),toks:=tk }:=I4.kept (t':=tk) fun b o e=>Heap.get?_push_of_some _ e
  have ho4:(h3.push (seqObj "tuple" acc.toList.toArray 0)).get? h1.objs.size=some (seqObj "list" #[] e1):=Heap.get?_push_of_some _ ho1
  have hvv:∀ (j:Nat) (v:Value),acc.toList[j]?=some v->∃ t,v=.int j t:=fun j v' hj=>by
   obtain ⟨tk',rfl⟩:=hacc.2 j v' (by rw [<-Array.getElem?_toList];exact hj)
   exact ⟨tk',by congr 1;omega⟩
  refine zEh (vs:=acc.toList) (kz:=kz) (e0:=0) I5 fa fk (Nat.ne_of_gt (Heap.lt_size ho4)) (Heap.get?_push_size _ rfl) (Heap.get?_push_of_some _ ho4) (by rw [hkz,hl]) (by rw [hl];exact h64) hvv (fun i v' k hi hk' s' pl Ip=>?_) fun s' out c I' ho' ko=>?_
  ·obtain ⟨tk',rfl⟩:=hacc.2 i v' (by rw [<-Array.getElem?_toList];exact hi)
   have e3:(0:Int)+(i:Int) * 1=(i:Int):=by omega
   rw [e3]
   exact turn i tk' k hk' s' pl Ip
  ·obtain ⟨hπ,hV⟩:=zEL (by rw [hkz,hl]) hvv ko
   exact ⟨_,rfl,wpAny_pure ⟨_,rfl,h _ s' out c _ I' fa hsz ho' hπ hV⟩⟩
end
end L3
namespace L3
open PySem PySem.Spec PyProof.Rows L2 PySem.W
unseal PEd PEf PTd PWd PAd PSd bZ POd PGd cX PId PSx dS PTs PCd PCf
def zKl:CXT:=fun _ _ _ _ _ _=>False
def cxL (P:Program) (w:World) (K:PySem.W.Frag) (mg:Str->Option Value) (base:Heap) (N:List Str) (qual:Str) (scope:Scope) (f:Addr) (cd:Value) (cl:List (Str×Addr)) (A:Around) (outer:List Env) (s:Shared) (H:Hp):Cx where
 prog:=P
 w:=w
 K:=K
 mg:=mg
 base:=base
 A:=A.deeper (envX qual scope s.heap.objs.size f cd cl)
 N:=N
 s₀:=s
 H₀:=H
 env:=envX qual scope s.heap.objs.size f cd cl
 outer:=outer
 stack:=envX qual scope s.heap.objs.size f cd cl::outer
 ex:=[]
 fn:=fun _=>false
 calm:=true
 pn:=[]
 xe:=fun _ _=>False
theorem zEb {P:Program} {w:World} {K:PySem.W.Frag} {mg:Str->Option Value} {base:Heap} {N:List Str} {qual name:Str} {scope:Scope} {f c':Addr} {cl:List (Str×Addr)} {A:Around} {outer:List Env} {s:Shared} {H:Hp} {params:Arguments} {body:Expr} {pm ctv u:Value} {p:Str} {σ:St} {Q:VK} {E:XK} {t:TE}
  (hd:A.handled=none) (hdp:A.depth < recursionLimit) (e0:Env0 P w K mg base A outer s H) (ho:s.heap.get? f=some (kla_obj name qual params body scope cl pm c' ctv)) (hcd:s.heap.CodeRec (.ref c') qual)
  (hbind:bindArgs (kla_fn name qual params body scope cl pm (.ref c') ctv) ⟨[u],[]⟩=pure [(p,u)]) (hloc:scope.names.lookup p=some .local)
  (hco:scope.isCoroutine=false) (hgen:scope.isGenerator=false) (hk:scope.kind=.function) (hcell:∀ x∈scope.names,x.2≠.cell)
  (hfree:∀ x,scope.names.lookup x=some .free->∃ c,cl.lookup x=some c) (hinj:∀ x y c,cl.lookup x=some c->cl.lookup y=some c->x=y)
  (hcl:∀ x c,cl.lookup x=some c->(∃ v,s.heap.IsCell c v)/\H c=none) (hlen:σ.length=N.length)
  (hσ:∀ (i:Nat) (x:Str) (v:V),N[i]?=some x->σ[i]?=some (some v)->(x=p/\bU v u)∨(scope.names.lookup x=some .free/\∃ c u',cl.lookup x=some c/\s.heap.IsCell c (some u')/\bU v u'))
  (hb:PE (cxL P w K mg base N qual scope f (.ref c') cl A outer s H) body t) (hq:t σ H Q):
  codeAny (model P w) A (.call (.ref f) ⟨[u],[]⟩) (CR zKl outer P w H s Q E) s:=by
 have lim:s.heap.NoLimit:=e0.mod.nolimit.keeps fun b o e=>(e0.bs b o e).1
 refine kla_callFunE hdp ho rfl hco hgen rfl hcd ?_
 rw [hbind]
 refine wpAny_pure (wpAny_newFunctionEnv hcell (fun y hy=>by rw [List.mem_singleton.mp hy];exact hloc) (fun h₁ hns hsb=>⟨lim.fresh _ hsb,?_⟩) hk)
 have hk₁:∀ b o,s.heap.get? b=some o->h₁.get? b=some o:=fun b o e=>hsb.extBut b o (Nat.ne_of_lt (Heap.lt_size e)) (Heap.get?_push_of_some _ e)
 have noA:∀ b:Addr,b∉(cxL P w K mg base N qual scope f (.ref c') cl A outer s H).ex:=fun b z=>absurd (show b∈([]:List Addr) from z) (by simp)
 have I:Inv (cxL P w K mg base N qual scope f (.ref c') cl A outer s H) [] σ H { s with heap:=h₁,toks:=s.toks+1 }:=by
  refine ⟨⟨e0.mod,hk,rfl,rfl,Nat.le_refl _,hinj,fun y hy=>?_,fun y c z _=>?_,fun _=>hd,Around.frames_deeper e0.frames,.inr ⟨rfl,rfl⟩,fun b z=>absurd z (noA b),e0.bs,e0.bsz,fun b _ _=>noA b,fun b z=>absurd z (noA b),e0.funs,e0.frf⟩,
   rfl,e0.bare,Un.kept hk₁,⟨_,hns,fun i y v h1 h2 h3=>?_⟩,fun y c h=>?_,e0.hok.fresh (Nat.le_refl _),fun y c h=>(hcl y c h).2,fun p hp=>absurd (show p∈([]:List (Addr×Obj)) from hp) (by simp),e0.hok.kept hk₁,hlen⟩
  ·have hy:scope.names.lookup y=some .cell∨scope.names.lookup y=some .free:=hy
   rcases hy with hy | hy
   ·exact absurd rfl (hcell _ (PySem.mem_of_lookup hy))
   ·exact hfree y hy
  ·cases z
  ·rcases hσ i y v h1 h2 with ⟨rfl,r⟩ | ⟨hf,c,u',h4,⟨o,h5,h6⟩,r⟩
   ·exact ⟨u,r,.inl ⟨hloc,by simp [List.lookup]⟩⟩
   ·exact ⟨u',r,.inr ⟨.inr hf,c,h4,o,hk₁ _ _ h5,h6⟩⟩
  ·obtain ⟨⟨v,o,h5,h6⟩,_⟩:=hcl y c h
   exact ⟨v,o,hk₁ _ _ h5,h6⟩
 refine kla_codeExpr (wpAny_mono (hb [] _ σ H Q I hq) (fun v s' z=>?_) fun e s' z=>False.elim z)
 obtain ⟨x,H',J,r,q⟩:=z
 exact ⟨x,H',J.os,J.bare,J.base,J.hok,r,q⟩
theorem zCz {l:List Value} {a b:Int} {c:Value} (h:TriplesOk l):TriplesOk (l++[rawInt a,rawInt b,c]):=TriplesOk_snoc a b c l h
theorem yG {pos q:Pos} {c x:Value} (l:List Value) (h:TriplesOk l) (e:codeAmong q (l++[rawInt pos.line,rawInt pos.col,c])=some x):codeAmong q l=some x∨x=c:=by
 fun_induction TriplesOk l with
 | case1=>
  simp only [List.nil_append,codeAmong,rawInt] at e
  split at e
  ·exact .inr (Option.some.inj e).symm
  ·cases e
 | case2 a t b u y rest ih=>
  simp only [List.cons_append,codeAmong] at e ⊢
  split at e
  ·rename_i hc;rw [if_pos hc];exact .inl e
  ·rename_i hc;rw [if_neg hc];exact ih h e
 | case3 l h1 h2=>exact h.elim
def BMn (base:Heap) (mg:Str->Option Value):Prop:=∃ bm ob,mg "__builtins__" = some (.ref bm)/\bm≠builtinsNs/\base.get? bm=some ob/\ob.cls=.type "module" /\ ob.dict=some builtinsNs/\ob.data=.plain
section
variable {X:Cx} {pins:List (Addr×Obj)} {σ:St} {H:Hp} {s:Shared} {P c c':Addr}
theorem zCN {ps more:Array Value} {h':Heap} {tk:Nat} {oc:Obj} (I:Inv X pins σ H s) (hP:H P=some (.tbl ps)) (hx:Heap.ExtBut P s.heap h') (hge:s.heap.objs.size<=c') (hc:h'.get? c'=some oc) (hP':h'.get? P=some { cls:=.none,data:=.fields (ps++more) }):
  Inv X pins σ (upd (upd H P (.tbl (ps++more))) c' (.frz oc (.own 0))) { s with heap:=h',toks:=tk }:=by
 have nP:∀ {b:Addr},H b=none->b≠P:=fun e z=>by rw [z,hP] at e;cases e
 have cF:H c'=none:=I.hok.fresh hge
 have nc:∀ {b:Addr} {o:Obj},s.heap.get? b=some o->b≠c':=fun e=>Nat.ne_of_lt (Nat.lt_of_lt_of_le (Heap.lt_size e) hge)
 have hPc:P≠c':=aM hP cF
 have up:∀ {b:Addr},b≠P->b≠c'->upd (upd H P (.tbl (ps++more))) c' (.frz oc (.own 0)) b=H b:=fun h1 h2=>by rw [aJ h2,aJ h1]
 have upP:upd (upd H P (.tbl (ps++more))) c' (.frz oc (.own 0)) P=some (.tbl (ps++more)):=by rw [aJ hPc,aI]
 have kd:∀ {b:Addr} {o:HO},H b=some o->(∀ qs,o≠.tbl qs)->upd (upd H P (.tbl (ps++more))) c' (.frz oc (.own 0)) b=some o:=fun {b o} e hn=>by
  rw [up (fun z=>by rw [z,hP] at e;exact hn ps (Option.some.inj e).symm) (aM e cF)];exact e
 refine I.un ⟨fun b o e n _ _=>hx b o (nP n) e,fun b o e n _ _=>⟨o.slots,hx b o (nP n) e⟩,fun b o e n _=>by rw [up (nP n) (nc e)];exact n,fun b o e _=>?_,fun b xs e=>kd e fun qs z=>(by cases z),fun b o u e=>kd e fun qs z=>(by cases z),fun b qs e=>?_⟩ fun b u e=>?_
 ·by_cases hb:b=P
  ·subst hb;exact ⟨_,hP'⟩
  ·exact ⟨o,hx b o hb e⟩
 ·by_cases hb:b=P
  ·subst hb
   rw [hP] at e;cases e
   exact ⟨more,upP⟩
  ·exact ⟨#[],by rw [up hb (aM e cF),e];simp⟩
 ·by_cases h2:b=c'
  ·subst h2
   rw [aI] at e;cases e
   exact ⟨hc,oc,hc⟩
  ·by_cases h1:b=P
   ·subst h1
    rw [upP] at e;cases e
    exact hP'
   ·rw [up h1 h2] at e
    refine (I.hok b u e).stay (fun d v hd q=>hx d v (fun z=>?_) q) (fun d q=>kd q fun qs z=>(by cases z)) fun d xs q=>kd q fun qs z=>(by cases z)
    rcases hd with rfl | hd
    ·exact h1 z
    ·rw [z,hP] at hd;cases hd
theorem zT {ps:Array Value} {oc:Obj} {pos:Pos} {vs:Array Value} {t:Tok} (hP:H P=some (.tbl ps)) (cF:H c'=none) (hd:oc.data=.fields vs) (hv:vs[1]?=some (.str kU t)):
  Keep H (upd (upd H P (.tbl (ps++#[rawInt pos.line,rawInt pos.col,.ref c']))) c' (.frz oc (.own 0))):=by
 have hPc:P≠c':=aM hP cF
 have upP:upd (upd H P (.tbl (ps++#[rawInt pos.line,rawInt pos.col,.ref c']))) c' (.frz oc (.own 0)) P=some (.tbl (ps++#[rawInt pos.line,rawInt pos.col,.ref c'])):=by rw [aJ hPc,aI]
 have kd:∀ {b:Addr} {o:HO},H b=some o->b≠P->upd (upd H P (.tbl (ps++#[rawInt pos.line,rawInt pos.col,.ref c']))) c' (.frz oc (.own 0)) b=some o:=fun {b o} e hn=>by
  rw [aJ (aM e cF),aJ hn];exact e
 refine ⟨fun b o e=>?_,fun Q T=>?_⟩
 ·by_cases hb:b=P
  ·subst hb
   rw [hP] at e;cases e
   exact .inr ⟨_,_,rfl,upP⟩
  ·exact .inl (kd e hb)
 ·obtain ⟨qs,e,ht,k⟩:=T
  have old:∀ (q:Pos) (cv:Value),codeAmong q qs.toList=some cv->∃ c oc' vs t u,cv=.ref c/\upd (upd H P (.tbl (ps++#[rawInt pos.line,rawInt pos.col,.ref c']))) c' (.frz oc (.own 0)) c=some (.frz oc' u)/\oc'.data=.fields vs/\vs[1]?=some (.str kU t):=fun q cv z=>by
   obtain ⟨c,oc',vs',t',u,r1,r2,r3⟩:=k q cv z
   exact ⟨c,oc',vs',t',u,r1,kd r2 (fun w=>by rw [w,hP] at r2;cases r2),r3⟩
  by_cases hb:Q=P
  ·subst hb
   rw [hP] at e;cases e
   have el:(ps++#[rawInt pos.line,rawInt pos.col,.ref c']).toList=ps.toList++[rawInt pos.line,rawInt pos.col,.ref c']:=by simp
   refine ⟨_,upP,by rw [el];exact zCz ht,fun q cv z=>?_⟩
   rw [el] at z
   rcases yG _ ht z with z | z
   ·exact old q cv z
   ·exact ⟨c',oc,vs,t,_,z,aI,hd,hv⟩
  ·exact ⟨qs,kd e hb,ht,old⟩
theorem zCS {params:Arguments} {body:Expr} {scope:Scope} {pos:Pos} {clos:List (Str×Addr)} {M:Model} {A:Around} {E:Value->Shared->Prop} {Q:Value->Shared->Prop} (I:Inv X pins σ H s) (tb:nY P H) (hC:∀ h,X.K.In h->CodeHd h c P) (hcode:X.env.code=.ref c) (hq:X.env.qual ++ "<lambda>" = kU) (hB:BMn X.base X.mg)
  (hcl:closureFor scope X.env=pure clos) (hdef:defaultsOf params X.env=([],[]))
  (h:∀ f c' ctv oc vs t u H' s',Inv X pins σ H' s'->Keep H H'->(∀ b o,H b=some o->b≠P->H' b=some o)->kP X pins H' f->s.heap.objs.size<=f->s'.heap.get? f=some (kla_obj "<lambda>" kU params body scope clos ((X.mg "__name__").getD .none) c' ctv)->
   H' c'=some (.frz oc u)->oc.data=.fields vs->vs[1]?=some (.str kU t)->Q (.ref f) s'):
  wpAny M A (eval (.Lambda params body scope pos) X.env) Q E s:=by
 obtain ⟨ps,hP,ht,hk⟩:=id tb
 have hPo:s.heap.get? P=some (tabObj ps):=I.hok P _ hP
 have hg:s.heap.Ns mainGlobals X.mg:=I.mod.glob.keeps I.bk
 have hgP:mainGlobals≠P:=fun z=>by
  obtain ⟨o,es,ep,e,_⟩:=I.mod.glob
  have:=(I.bs _ _ e).2
  rw [z,hP] at this;cases this
 have hb:s.heap.BuiltinsAt X.mg P:=by
  obtain ⟨bm,ob,b1,b2,b3,b4,b5,b6⟩:=hB
  refine ⟨bm,ob,b1,b2,fun z=>?_,fun z=>?_,(I.bs _ _ b3).1,b4,b5,b6⟩
  ·obtain ⟨o,es,ep,e,d,_⟩:=I.mod.glob
   rw [z,e] at b3;cases b3;rw [d] at b6;cases b6
  ·have:=(I.bs _ _ b3).2
   rw [z,hP] at this;cases this
 refine kla_eval hdef ?_
 rw [hq]
 cases hf:codeAmong pos ps.toList with
 | some cv=>
  obtain ⟨c',oc,vs,t,u,rfl,r1,r2,r3⟩:=hk pos cv hf
  refine kla_makeFunctionHit hcl I.ok.glob hg hcode (hC _ I.kIn) hPo ht hf hb fun ctv h' tk hkk hsz=>?_
  have I1:Inv X pins σ H { s with heap:=h',toks:=tk }:=I.kept hkk
  have I2:Inv X pins σ H { s with heap:=h'.push (kla_obj "<lambda>" kU params body scope clos ((X.mg "__name__").getD .none) c' ctv),toks:=tk }:=I1.kept (t':=tk) fun b o e=>Heap.get?_push_of_some _ e
  exact h _ c' ctv oc vs t u H _ I2 (Keep.refl _) (fun b o e _=>e) (I1.fpOk (Nat.le_refl _) (I1.hok.fresh (Nat.le_refl _))) hsz (Heap.get?_push_size _ rfl) r1 r2 r3
 | none=>
  refine kla_makeFunction hcl I.ok.glob hg hcode (hC _ I.kIn) hPo ht hf hgP hb fun c' ctv h' tk hx hge hlt hrec htb=>?_
  obtain ⟨c₂,oc,vs,t,e2,hoc,hd,hv⟩:=hrec
  cases e2
  have I1:=zCN (tk:=tk) I hP hx hge hoc htb
  have I2:=I1.kept (t':=tk) (h':=h'.push (kla_obj "<lambda>" kU params body scope clos ((X.mg "__name__").getD .none) c' ctv)) fun b o e=>Heap.get?_push_of_some _ e
  have cF:H c'=none:=I.hok.fresh hge
  exact h _ c' ctv oc vs t _ _ _ I2 (zT hP cF hd hv) (fun b o e hb=>by rw [aJ (aM e cF),aJ hb];exact e) (I1.fpOk (Nat.le_refl _) (I1.hok.fresh (Nat.le_refl _))) (Nat.le_of_lt (Nat.lt_of_le_of_lt hge hlt)) (Heap.get?_push_size _ rfl) aI hd hv
end
end L3
namespace L3
open PySem PySem.Spec PyProof.Rows L2 PySem.W
unseal PEd PEf PTd PWd PAd PSd bZ POd PGd cX PId PSx dS PTs PCd PCf
theorem sB {K:PySem.W.Frag} {H:Hp}:∀ π:List Nat,IsDs K H (π.map fun i:Nat=>V.int (i:Int)) (zFu π)
 | []=>.nil
 | n::ns=>.cons (.int n) (sB ns)
def uL (p:Pos):Arguments:={ posonlyargs:=[],args:=[{ arg := "spot", annotation:=none,pos:=p }],vararg:=none,kwonlyargs:=[],kw_defaults:=[],kwarg:=none,defaults:=[] }
def fO:Scope:={ kind:=.function,names:=[(PySem.Str.ofString "spot", .local),(PySem.Str.ofString "bottom", .free),(PySem.Str.ofString "some", .free)],isGenerator:=false,isCoroutine:=false,more:=[] }
section
variable {X:Cx} {p1 p2 p3 p4 p5 p6 p7 p8 p9 pa pb pc pd pe pf pg ph pi pj:Pos}
theorem zCj {b k:Int} {a:Addr} {xs:List V} {rows:List D} {d:D} {j:Nat} {Hi H:Hp} {Q:VK} {σ:St} (hN:X.N=(["spot", "some", "bottom"]:List Str)) (hsc:X.env.scope=fO) {pz:Pos}
  (hσ:σ=[some (.int j),some (.ref a),some (.int b)]) (hq:SqL X.K Hi a xs∨SqT X.K Hi a xs) (hs:IsDs X.K Hi xs rows) (sm:Same Hi H) (hd:rows[j]?=some d) (hk:zFO b d=.ok k) (q:Q (.int k) H):
  ∃ t,PE X (.BinOp (.Subscript (.Subscript (.Name "some" p1) (.Name "spot" p2) p3) (.Constant (.int 0) 0 p4) p5) .Mult
   (.BinOp (.Name "bottom" p6) .FloorDiv (.Subscript (.Subscript (.Name "some" p7) (.Name "spot" p8) p9) (.Constant (.int 1) 0 pa) pb) pc) pz) t/\t σ H Q:=by
 have v0:PE X (.Name "spot" p2) (rZ 0):=lO (by rw [hN];rfl) (by rw [hsc];exact .inl (by decide +kernel))
 have v0':PE X (.Name "spot" p8) (rZ 0):=lO (by rw [hN];rfl) (by rw [hsc];exact .inl (by decide +kernel))
 have v1:PE X (.Name "some" p1) (rZ 1):=lO (by rw [hN];rfl) (by rw [hsc];exact .inr (.inr (by decide +kernel)))
 have v1':PE X (.Name "some" p7) (rZ 1):=lO (by rw [hN];rfl) (by rw [hsc];exact .inr (.inr (by decide +kernel)))
 have v2:PE X (.Name "bottom" p6) (rZ 2):=lO (by rw [hN];rfl) (by rw [hsc];exact .inr (.inr (by decide +kernel)))
 refine ⟨_,zAs uG (zAY eY (zAY eY v1 v0 (fun _ _=>rfl)) zBM (fun _ _=>rfl)) (zAs bO v2 (zAY eY (zAY eY v1' v0' (fun _ _=>rfl)) zBM (fun _ _=>rfl))),?_⟩
 obtain ⟨t,c,rfl,h1,h2,rfl⟩:=zEO hk
 obtain ⟨v,hv,r⟩:=hs.at hd
 obtain ⟨ra,ys,rfl,h3,h4⟩:=r.tupI
 obtain ⟨u1,u2,rfl,r1,r2⟩:=h4.two
 have e1:=r1.intI
 have e2:=r2.intI
 subst e1 e2
 have S3:=aZ sm h3
 subst hσ
 have row:∀ Q':VK,Q' (.ref ra) H->(zIy X.K (.ref a) (.int j) H Q'∨zIg X.K (.ref a) (.int j) H Q'):=fun Q' q'=>by
  rcases hq with hq | hq
  ·exact .inl ⟨a,xs,j,.ref ra,rfl,rfl,bD sm hq,uT hv,q'⟩
  ·exact .inr ⟨a,xs,j,.ref ra,rfl,rfl,aZ sm hq,uT hv,q'⟩
 refine ⟨.ref a,rfl,.int j,rfl,row _ (.inr ⟨ra,_,0,.int t,rfl,rfl,S3,rfl,?_⟩)⟩
 refine ⟨.int b,rfl,.ref a,rfl,.int j,rfl,row _ (.inr ⟨ra,_,1,.int c,rfl,rfl,S3,rfl,?_⟩)⟩
 exact ⟨b,c,rfl,rfl,h1,t,b.fdiv c,rfl,rfl,h2,q⟩
theorem zGd {a:Expr} {ta:TA} {p pos:Pos} (hg:Gl X "range") (hm:X.mg "range" = none) (ha:PA X [a] ta) (hs:starEach [a] X.env=[(false,eval a X.env)]:=by rfl):
  PE X (.Call (.Name "range" p) [a] [] pos) (fun σ H Q=>ta σ H fun vs H1=>∃ n:Nat,vs=[.int n]/\∀ r,H1 r=none->Q (.ref r) (upd H1 r (.rng 0 n))):=by
 intro pins s σ H Q I h
 refine wpAny_Call_Name_kw (iT I hg hm boot_range (PyProof.Rows.callWith_type1 (thn (ha pos pins s σ H _ I h) fun us s1 ⟨vs,H1,I1,r1,q1⟩=>?_) hs rfl))
 obtain ⟨n,e,q⟩:=q1
 subst e
 obtain ⟨u,rfl,t,rfl⟩:=sN r1
 refine call_range_1 ⟨.ref s1.heap.objs.size,_,I1.laid (fun b o e=>Heap.get?_push_of_some _ e) (Nat.le_refl _) ?_,rfl,q _ I1.fresh⟩
 exact ⟨_,_,_,Heap.get?_push_size _ rfl⟩
structure RankCx (X:Cx) (P c:Addr):Prop where
 calm:X.calm=true
 dp:X.A.depth < recursionLimit
 n0:X.N[0]?=some ("some" : Str)
 n1:X.N[1]?=some ("bottom" : Str)
 k0:X.env.kindOf "some" = some .cell
 k1:X.env.kindOf "bottom" = some .cell
 code:X.env.code=.ref c
 hd:∀ h,X.K.In h->CodeHd h c P
 qual:X.env.qual ++ "<lambda>" = kU
 bm:BMn X.base X.mg
 clo:∃ cs cb,closureFor fO X.env=pure [(("some" : Str),cs),(("bottom" : Str),cb)]/\X.env.cells.lookup ("some" : Str)=some cs/\X.env.cells.lookup ("bottom" : Str)=some cb
 gS:Gl X "sorted"
 mS:X.mg "sorted" = none
 gR:Gl X "range"
 mR:X.mg "range" = none
 gL:Gl X "len"
 mL:X.mg "len" = none
def zGg (X:Cx) (P:Addr):TE:=fun σ H Q=>∃ Hi a xs rows b kz,σ[0]?=some (some (.ref a))/\σ[1]?=some (some (.int b))/\(SqL X.K Hi a xs∨SqT X.K Hi a xs)/\IsDs X.K Hi xs rows/\Same Hi H/\vD b rows=.ok kz/\kz.length < 64/\nY P H/\Hi P=none/\
 ∀ π r Hi' H',vU kz π->Ext Hi H Hi' H'->zBZ X.K H Hi' H' r (zFu π)->Q (.ref r) H'
theorem wJ {pins:List (Addr×Obj)} {σ:St} {H:Hp} {s:Shared} {i:Nat} {x:Str} {v:V} {c:Addr} (I:Inv X pins σ H s) (hi:X.N[i]?=some x) (hv:σ[i]?=some (some v)) (hk:X.env.kindOf x=some .cell) (hc:X.env.cells.lookup x=some c):∃ u,bU v u/\s.heap.IsCell c (some u):=by
 obtain ⟨m,hn,hl⟩:=I.loc
 obtain ⟨u,r,l⟩:=hl i x v hi hv (.inr (.inl hk))
 refine ⟨u,r,?_⟩
 rcases l with ⟨z,_⟩ | ⟨_,c',z,q⟩
 ·rw [hk] at z;cases z
 ·rw [hc] at z;cases z;exact q
theorem zFH {P c:Addr} (R:RankCx X P c) {pk pl pm pn:Pos} (hs1:starEach [.Name "some" p3] X.env=(false,eval (.Name "some" p3) X.env)::starEach [] X.env:=by rfl)
  (hs2:starEach [.Call (.Name "len" p2) [.Name "some" p3] [] p4] X.env=[(false,eval (.Call (.Name "len" p2) [.Name "some" p3] [] p4) X.env)]:=by rfl)
  (hs3:starEach [.Call (.Name "range" p1) [.Call (.Name "len" p2) [.Name "some" p3] [] p4] [] p5] X.env=(false,eval (.Call (.Name "range" p1) [.Call (.Name "len" p2) [.Name "some" p3] [] p4] [] p5) X.env)::starEach [] X.env:=by rfl):
  PE X (.Call (.Name "sorted" pk) [.Call (.Name "range" p1) [.Call (.Name "len" p2) [.Name "some" p3] [] p4] [] p5] [⟨some "key", .Lambda (uL p6) (.BinOp (.Subscript (.Subscript (.Name "some" p7) (.Name "spot" p8) p9) (.Constant (.int 0) 0 pa) pb) .Mult
   (.BinOp (.Name "bottom" pc) .FloorDiv (.Subscript (.Subscript (.Name "some" pd) (.Name "spot" pe) pf) (.Constant (.int 1) 0 pg) ph) pi) pj) fO pl,pm⟩] pn) (zGg X P):=by
 intro pins s σ H Q I h
 obtain ⟨Hi,a,xs,rows,b,kz,e0,e1,hq,hds,sm,hkz,h64,tb,hiP,q⟩:=h
 obtain ⟨hl1,hl2⟩:=pF hkz
 have hlen:xs.length=kz.length:=by rw [hds.length,hl1]
 refine wpAny_Call_Name_kw (iT I R.gS R.mS boot_sorted ?_ (by decide) (by decide))
 have vS:PE X (.Name "some" p3) (rZ 0):=lO R.n0 (.inr (.inl R.k0))
 have pR:=zGd (p:=p1) (pos:=p5) R.gR R.mR (cZ (lB (p:=p2) (pos:=p4) aK R.gL R.mL boot_len (cZ vS gB hs1) (by decide) (by decide) hs1) gB (by rw [hs2];rfl)) hs2
 refine callWith_kw (thn ((cZ pR gB hs3) pn pins s σ H (fun vs H1=>∃ r,vs=[.ref r]/\H r=none/\H1=upd H r (.rng 0 kz.length)) I ?reads) fun us s1 ⟨vs,H1,I1,r1,q1⟩=>?_) (by rw [hs3];rfl) (by rw [hs3];rfl)
 case reads=>
  refine ⟨.ref a,e0,a,xs,rfl,hq.imp (bD sm) (aZ sm),xs.length,rfl,fun r hr=>⟨r,rfl,hr,by rw [hlen]⟩⟩
 obtain ⟨r,rfl,hr,rfl⟩:=q1
 obtain ⟨u,rfl,ru⟩:=sN r1
 cases ru
 obtain ⟨cs,cb,hcl,hcs,hcb⟩:=R.clo
 have x1:Ext Hi H Hi (upd H r (.rng 0 kz.length)):=Ext.newF sm hr
 refine kws_cons (zCS I1 (x1.h.t P tb) R.hd R.code R.qual R.bm hcl rfl fun f c' ctv oc vs t u H3 s3 I3 hkeep hsame hf hfs hfo hc1 hc2 hc3=>kws_nil ?_)
 have x2:Ext Hi H Hi H3:=x1.trans ⟨Same.refl _,hkeep,fun b o e=>hsame b o (x1.s _ _ e) (fun z=>by rw [z,hiP] at e;cases e),fun b e z=>absurd e z⟩
 have hr3:H3 r=some (.rng 0 kz.length):=hkeep.at aI
 obtain ⟨t1,t2,t3,hrg⟩:=I3.hok r _ hr3
 have I3p:Inv X (pins++[(f,kla_obj "<lambda>" kU (uL p6) _ fO [("some", cs),("bottom", cb)] ((X.mg "__name__").getD .none) c' ctv)]) σ H3 s3:=I3.pins_of fun p hp=>by
  rcases List.mem_append.mp hp with hp | hp
  ·exact I3.pin p (List.mem_append_right _ hp)
  ·rw [List.mem_singleton.mp hp]
   exact ⟨hfo,hf.1,hf.2.1,hf.2.2.1,fun v z=>by have z':Data.func _=Data.cell v:=z;cases z'⟩
 refine zAx (kz:=kz) R.calm I3p hrg h64 rfl (fun j tk k hj s' pl Ip=>?_) fun D s' out c2 π I' fD hDs hD hπ hV=>?_
 ·obtain ⟨d,hd,hk⟩:=hl2 j k hj
  have hfo':=(Ip.pin _ (List.mem_append_right _ (List.mem_append_left _ (List.mem_append_right _ (List.mem_singleton.mpr rfl))))).1
  obtain ⟨u0,r0,ce0⟩:=wJ Ip R.n0 e0 R.k0 hcs
  obtain ⟨u1,r1,ce1⟩:=wJ Ip R.n1 e1 R.k1 hcb
  have look:∀ {x:Str} {c:Addr},List.lookup x [(("some" : Str),cs),(("bottom" : Str),cb)]=some c->(x = "some" /\ c=cs)∨(x = "bottom" /\ c=cb):=fun {x c} z=>by
   have z':=PySem.mem_of_lookup z
   rcases List.mem_cons.mp z' with z' | z'
   ·cases z';exact .inl ⟨rfl,rfl⟩
   ·cases List.mem_singleton.mp z';exact .inr ⟨rfl,rfl⟩
  have hne:cs≠cb:=fun z=>by
   have:=Ip.ok.inj _ _ _ hcs (z ▸ hcb)
   exact absurd this (by decide)
  have lam:∃ t,PE (cxL X.prog X.w X.K X.mg X.base ["spot", "some", "bottom"] kU fO f (.ref c') [("some", cs),("bottom", cb)] X.A.in1.in1 X.stack s' H3) _ t/\t [some (.int j),some (.ref a),some (.int b)] H3 (fun v H'=>v=.int k/\H'=H3):=
   zCj (p1:=p7) (p2:=p8) (p3:=p9) (p4:=pa) (p5:=pb) (p6:=pc) (p7:=pd) (p8:=pe) (p9:=pf) (pa:=pg) (pb:=ph) (pc:=pi) (pz:=pj) rfl rfl rfl hq hds x2.s hd hk ⟨rfl,rfl⟩
  obtain ⟨tt,hb,hqq⟩:=lam
  refine wpAny_call (codeAny_mono (zEb (E:=fun _ _ _=>False) (p := "spot") (Ip.ok.hd R.calm) R.dp Ip.env0.in1.in1 hfo' ⟨c',oc,vs,t,rfl,(Ip.hok c' _ hc1).1,hc2,hc3⟩ rfl (by decide +kernel) rfl rfl rfl (by decide +kernel) (fun x hx=>?_) (fun x y c z1 z2=>?_) (fun x c z=>?_) rfl (fun i x v z1 z2=>?_) hb hqq) fun res s'' hres=>?_)
  ·have hx':=PySem.mem_of_lookup hx
   rcases List.mem_cons.mp hx' with z | hx'
   ·cases z
   ·rcases List.mem_cons.mp hx' with z | hx'
    ·cases z;exact ⟨cb,rfl⟩
    ·cases List.mem_singleton.mp hx';exact ⟨cs,rfl⟩
  ·rcases look z1 with ⟨rfl,rfl⟩ | ⟨rfl,rfl⟩<;>rcases look z2 with ⟨rfl,w⟩ | ⟨rfl,w⟩
   ·rfl
   ·exact absurd w hne
   ·exact absurd w.symm hne
   ·rfl
  ·rcases look z with ⟨rfl,rfl⟩ | ⟨rfl,rfl⟩
   ·exact ⟨⟨_,ce0⟩,Ip.freeC _ _ hcs⟩
   ·exact ⟨⟨_,ce1⟩,Ip.freeC _ _ hcb⟩
  ·match i,z1,z2 with
   | 0,z1,z2=>cases z1;cases z2;exact .inl ⟨rfl,tk,rfl⟩
   | 1,z1,z2=>cases z1;cases z2;exact .inr ⟨by decide +kernel,cs,u0,rfl,ce0,r0⟩
   | 2,z1,z2=>cases z1;cases z2;exact .inr ⟨by decide +kernel,cb,u1,rfl,ce1,r1⟩
   | i+3,z1,z2=>simp at z2
  ·cases res with
   | error ev=>exact False.elim hres
   | ok fl=>
    cases fl with
    | ret u=>
     obtain ⟨v,H',J,rv,rfl,rfl⟩:=Ip.after hres
     obtain ⟨t',rfl⟩:=rv
     exact ⟨⟨t',rfl⟩,J⟩
    | next=>exact False.elim hres
    | brk=>exact False.elim hres
    | cont=>exact False.elim hres
 ·have I'':Inv X pins σ H3 s':=I'.unpinned
  obtain ⟨f0,f1,f2,f3,f4,f5⟩:=fD
  have h0:X.s₀.heap.get? D=none:=Heap.get?_none_of_le (Nat.le_trans I3.sz hDs)
  have hl:=hV.length
  have okL:fT X.prog X.w (upd H3 D (.lst (π.map fun i:Nat=>V.int (i:Int)))) s'.heap D (.lst (π.map fun i:Nat=>V.int (i:Int))):=by
   refine ⟨?_,out.toList,c2,hV,by rw [Array.toArray_toList];exact hD⟩
   rw [List.length_map,hπ.1.length_eq,List.length_range,sizeLine_eq];omega
  have I4:=I''.track f0 h0 f1 f4 (fun p hp=>f5 p (by
   rcases List.mem_append.mp hp with hp | hp
   ·exact List.mem_append_left _ hp
   ·exact List.mem_append_right _ (List.mem_append_left _ hp))) okL
  refine ⟨.ref D,_,I4,rfl,q π D Hi _ hπ (x2.trans (Ext.newF x2.s f0)) ⟨x2.h.none f0,x2.s.none f0,_,aI,sB π⟩⟩
end
end L3
namespace L3
open PySem PySem.Spec PyProof.Rows L2 PySem.W
unseal PEd PEf PTd PWd PAd PSd bZ POd PGd cX PId PSx dS PTs PCd PCf
def spR (K:PySem.W.Frag) (mg:Str->Option Value) (kf:List D->Res (List Int)):Sp:=fun vs H Q _=>vs.length=1/\∃ Bi ds,TB K mg Bi H/\Same Bi H/\IsDs K Bi vs ds/\match kf ds with
 | .ok kz=>∀ π a Hi' H',vU kz π->Ext Bi H Hi' H'->zBZ K H Hi' H' a (zFu π)->Q (.ref a) H'
 | _=>False
structure CanR (P:Program) (w:World) (K:PySem.W.Frag) (mg:Str->Option Value) (base:Heap) (k:Nat) (kf:List D->Res (List Int)):Prop where
 ex:∃ f fd,FnOk P w K mg base (CX1 P w) k f fd ["some"] (spR K mg kf)/\jS K fd ["some"] []/\PySem.W.keepIn K (.ref f)=true/\mg "ranked" = some (.ref f)
structure RankDef (st:Stmt):Prop where
 k0:(aE st).names.lookup ("some" : Str)=some .cell
 k1:(aE st).names.lookup ("bottom" : Str)=some .cell
 gS:(aE st).names.lookup ("sorted" : Str)=some .globalImplicit
 gR:(aE st).names.lookup ("range" : Str)=some .globalImplicit
 gL:(aE st).names.lookup ("len" : Str)=some .globalImplicit
 clo:∀ L f cdv,∃ cs cb,closureFor fO (envOfC "ranked" (aE st) L f cdv)=pure [(("some" : Str),cs),(("bottom" : Str),cb)]/\(envOfC "ranked" (aE st) L f cdv).cells.lookup ("some" : Str)=some cs/\(envOfC "ranked" (aE st) L f cdv).cells.lookup ("bottom" : Str)=some cb
section
variable {P:Program} {w:World} {K:PySem.W.Frag} {mg:Str->Option Value} {base:Heap} {st s1 s2:Stmt} {f:Addr} {fd:FuncData} {k:Nat} {sa sb:Sv} {p1 p2 p3 p4 p5 p6 p7 p8 p9 pa pb pc pd pe pf pg ph pi pj pk pl pm pn po:Pos}
theorem zEZ {T:Addr} (F:Fn K mg "ranked" st ["some"] f fd) (S:FnScope ["some", "bottom", "each"] ["some"] (aE st)) (D:RankDef st) (hT:iO K mg T) (hB:BMn base mg) (mS:mg "sorted" = none) (mR:mg "range" = none) (mL:mg "len" = none)
  (hbody:bL st=[s1,s2,.Return (some (.Call (.Name "sorted" pk) [.Call (.Name "range" p1) [.Call (.Name "len" p2) [.Name "some" p3] [] p4] [] p5] [⟨some "key", .Lambda (uL p6) (.BinOp (.Subscript (.Subscript (.Name "some" p7) (.Name "spot" p8) p9) (.Constant (.int 0) 0 pa) pb) .Mult
   (.BinOp (.Name "bottom" pc) .FloorDiv (.Subscript (.Subscript (.Name "some" pd) (.Name "spot" pe) pf) (.Constant (.int 1) 0 pg) ph) pi) pj) fO pl,pm⟩] pn)) po])
  (h:∀ (cdv:Value) (A:Around) (outer:List Env) (s:Shared) (H:Hp) (E:XK) (G:Gx),Good (BX P w K mg base ["some", "bottom", "each"] "ranked" st f cdv A outer s H E) G k->tJ (BX P w K mg base ["some", "bottom", "each"] "ranked" st f cdv A outer s H E) G->
   PSd (BX P w K mg base ["some", "bottom", "each"] "ranked" st f cdv A outer s H E) G s1 sa/\PSd (BX P w K mg base ["some", "bottom", "each"] "ranked" st f cdv A outer s H E) G s2 sb):
  CanR P w K mg base (k+1) (zDe sa sb):=by
 refine ⟨f,fd,?_,F.bd,F.kp,F.mg⟩
 obtain ⟨f',oc',od',fd',osl',c,t1,t2,t3,t4⟩:=id hT
 have ef:f'=f:=by have:=t1.symm.trans F.mg;exact Value.ref.inj (Option.some.inj this)
 subst ef
 obtain ⟨oc,od,kV,doc,pm',an,cdv,ct,osl,rfl,lk,hcd⟩:=F.fn.ex
 have efd:cdv=.ref c:=by
  rw [lk] at t2
  cases t2
  exact t3
 subst efd
 refine zBA lk hcd S (fun vs H Q E h=>h.1) fun A outer s H vs Q E hr hsp=>?_
 obtain ⟨hl,Bi,ds,tb,sm,hd,hq⟩:=hsp
 have hg:=lR (P:=P) (w:=w) (K:=K) (mg:=mg) (base:=base) (N:=["some", "bottom", "each"]) (outer:=outer) (H:=H) (Bi:=Bi) (E:=E) hr tb
 obtain ⟨h1,h2⟩:=h (.ref c) A outer s H E _ hg lE
 have RC:RankCx (BX P w K mg base ["some", "bottom", "each"] "ranked" st f' (.ref c) A outer s H E) T c:=
  ⟨rfl,hr.depth,rfl,rfl,D.k0,D.k1,rfl,t4,by show (("ranked" : Str) ++ ".<locals>.") ++ "<lambda>" = kU;decide +kernel,hB,D.clo _ _ _,D.gS,mS,D.gR,mR,D.gL,mL⟩
 have body:∀ G,PSs (BX P w K mg base ["some", "bottom", "each"] "ranked" st f' (.ref c) A outer s H E) [s1] (tS (BX P w K mg base ["some", "bottom", "each"] "ranked" st f' (.ref c) A outer s H E) G sa)->PS (BX P w K mg base ["some", "bottom", "each"] "ranked" st f' (.ref c) A outer s H E) s1 (tS (BX P w K mg base ["some", "bottom", "each"] "ranked" st f' (.ref c) A outer s H E) G sa)->PS (BX P w K mg base ["some", "bottom", "each"] "ranked" st f' (.ref c) A outer s H E) s2 (tS (BX P w K mg base ["some", "bottom", "each"] "ranked" st f' (.ref c) A outer s H E) G sb)->
   PSs (BX P w K mg base ["some", "bottom", "each"] "ranked" st f' (.ref c) A outer s H E) (bL st) (zIz (tS (BX P w K mg base ["some", "bottom", "each"] "ranked" st f' (.ref c) A outer s H E) G sa) (zIz (tS (BX P w K mg base ["some", "bottom", "each"] "ranked" st f' (.ref c) A outer s H E) G sb) (zIT (zGg (BX P w K mg base ["some", "bottom", "each"] "ranked" st f' (.ref c) A outer s H E) T)))):=fun G _ h1 h2=>by
  rw [hbody]
  exact gT h1 (gT h2 (qY (sW (zFH RC))))
 refine ⟨_,body _ (qY h1) h1 h2,?_⟩
 cases ek:zDe sa sb ds with
 | no=>rw [ek] at hq;exact hq.elim
 | err c=>rw [ek] at hq;exact hq.elim
 | ok kz=>
  rw [ek] at hq
  unfold zDe at ek
  split at ek
  case isFalse=>cases ek
  split at ek
  case h_2=>cases ek
  rename_i ρ1 e1
  split at ek
  case h_2=>cases ek
  rename_i ρ2 e2
  refine ⟨L3.start 3 ds,Bi,mG (N:=["some", "bottom", "each"]) sm hd,?_⟩
  rw [e1]
  intro σ1 Hi1 H1 sm1 R1
  refine ⟨ρ1,Hi1,R1,?_⟩
  rw [e2]
  intro σ2 Hi2 H2 sm2 R2
  unfold zDt at ek
  split at ek
  case h_2=>cases ek
  rename_i rows b z0 z1
  split at ek
  case isFalse=>cases ek
  rename_i h64
  obtain ⟨v,q0,r0⟩:=R2.slot 0 _ z0
  obtain ⟨v1,q1,r1⟩:=R2.slot 1 _ z1
  obtain ⟨a,xs,rfl,g1,g2⟩:=r0.lstI
  have r1':=r1.intI
  subst r1'
  obtain ⟨tb2,n2⟩:=hg.tb.ext R2.ext T hT
  exact ⟨Hi2,a,xs,rows,b,kz,q0,q1,.inl g1,g2,R2.s,ek,by rw [(pF ek).1];exact h64,tb2,n2,fun π r Hi' H' hπ x nl=>hq π r Hi' H' hπ (R2.ext.trans x) ⟨R2.ext.h.none nl.1,nl.2⟩⟩
end
section
variable {X:Cx} {G:Gx} {e:Expr} {es:List Expr} {pos p:Pos} {fs:Fv} {k:Nat} {kf:List D->Res (List Int)} {tg:Expr} {body rest:List Stmt} {g:Gv} {sa sb:Sv}
end
end L3
namespace L3
open PySem PySem.Spec PyProof.Rows L2 PySem.W
unseal PEd PEf PTd PWd PAd PSd bZ POd PGd cX PId PSx dS PTs PCd PCf
def zHD (K:PySem.W.Frag) (mg:Str->Option Value):Sp:=fun vs H Q _=>∃ (a:Addr) (ns:List Int) (Bi:Hp),vs=[.ref a]/\TB K mg Bi H/\Same Bi H/\SqL K Bi a (ns.map V.int)/\ns.length<=63/\(∃ m,m<=1048576/\∀ n∈ns,n.natAbs < 2^m)/\∀ H',Q (.bl true) H'
theorem zDZ {P:Program} {w:World} {K:PySem.W.Frag} {mg:Str->Option Value} {base:Heap} {k:Nat} {m:Mir} {f:Addr} {fd:FuncData} (F:FnOk P w K mg base (CX1 P w) k f fd ["script"] (spM K mg 1 m))
  (h:∀ ns:List Int,ns.length<=63->(∃ m,m<=1048576/\∀ n∈ns,n.natAbs < 2^m)->m [.lst (ns.map D.int)]=.ok (.v (.bl true))):FnOk P w K mg base (CX1 P w) k f fd ["script"] (zHD K mg):=by
 refine F.imp fun vs H Q E q=>?_
 obtain ⟨a,ns,Bi,rfl,tb,sm,hS,hl,hbg,q⟩:=q
 refine ⟨rfl,Bi,[.lst (ns.map D.int)],tb,sm,.cons (.lst hS (sZ ns)) .nil,?_⟩
 rw [h ns hl hbg]
 intro v Hi' H' e r
 rw [r.blI]
 exact q H'
theorem zFE {P:Program} {w:World} {K:PySem.W.Frag} {mg:Str->Option Value} {base:Heap} {k:Nat} {m:Mir} {f:Addr} {fd:FuncData} (F:FnOk P w K mg base (CX1 P w) k f fd ["script"] (spM K mg 1 m))
  (h:∀ ns:List Int,ns.length<=63->m [.lst (ns.map D.int)]=.ok (.v (.bl true))):FnOk P w K mg base (CX1 P w) k f fd ["script"] (zHD K mg):=zDZ F fun ns hl _=>h ns hl
theorem zDk {K:PySem.W.Frag} {mg:Str->Option Value} {h:Heap} {T T':Addr} (X:K.In h) (a:iO K mg T) (b:iO K mg T'):T'=T:=by
 obtain ⟨f,oc,od,fd,osl,c,a1,a2,a3,a4⟩:=a
 obtain ⟨f',oc',od',fd',osl',c',b1,b2,b3,b4⟩:=b
 rw [a1] at b1;cases b1
 rw [a2] at b2;cases b2
 rw [a3] at b3;cases b3
 obtain ⟨o,vs,_,_,_,_,_,_,_,e1,_,e3,e4,_⟩:=a4 h X
 obtain ⟨o',vs',_,_,_,_,_,_,_,f1,_,f3,f4,_⟩:=b4 h X
 rw [e1] at f1;cases f1
 rw [e3] at f3;cases f3
 rw [e4] at f4;cases f4
 rfl
theorem zAu {P:Program} {w:World} {K:PySem.W.Frag} {mg mb:Str->Option Value} {CX:CXT} {k:Nat} {fa a T:Addr} {fd:FuncData} {x:Str} {s₁:Shared} {vs:List Value} {ns:List Int}
  (KX:K.In s₁.heap) (hns:s₁.heap.Ns mainGlobals mg) (hb:s₁.heap.Ns builtinsNs mb) (hbb:∀ x:Str,x ≠ "__name__" -> mb x=bootBuiltins x) (hlim:s₁.heap.NoLimit) (hg:s₁.gens=#[]) (hbm:BMn s₁.heap mg) (hT:s₁.heap.get? T=some (tabObj #[])) (hKT:K.lookup T=none) (hP:iO K mg T)
  (ha:s₁.heap.get? a=some { cls:=.type "list", data:=.seq vs.toArray }) (hi:IntsAre vs ns) (hl:ns.length<=63) (hbg:∃ m,m<=1048576/\∀ n∈ns,n.natAbs < 2^m) (hr:Room k callerA)
  (F:∀ base:Heap,K.In base->base.Ns mainGlobals mg->BMn base mg->FnOk P w K mg base CX k fa fd [x] (zHD K mg)) (hbind:∀ (s:Shared) (u:Value),BindsTo s fd ⟨[u],[]⟩ [(x,u)])
  (hCX:∀ H e s',CX [] H s₁ (fun _ _ _=>False) e s'->False):
  codeAny (model P w) callerA (.call (.ref fa) ⟨[.ref a],[]⟩) (fun r s'=>r=.ok (.ret (.bool true))/\OldK s₁.heap s'.heap/\s'.os=s₁.os/\AllBare s'.gens) s₁:=by
 have rv:=sK hi
 have lenV:=hi.length
 have haT:a≠T:=fun z=>by rw [z,hT] at ha;cases ha
 have core:∀ Bi:Hp,zKm Bi->SqL K Bi a (ns.map V.int)->HOk P w Bi s₁.heap->(∀ b,Bi b≠none->b=a)->(Bi a≠none->K.lookup a=none)->
   codeAny (model P w) callerA (.call (.ref fa) ⟨[.ref a],[]⟩) (fun r s'=>r=.ok (.ret (.bool true))/\OldK s₁.heap s'.heap/\s'.os=s₁.os/\AllBare s'.gens) s₁:=by
  intro Bi hO hS hokB hA hK
  have hBT:Bi T=none:=by
   cases q:Bi T with
   | none=>rfl
   | some u=>exact absurd (hA T (by rw [q];simp)).symm haT
  generalize hHdef:upd Bi T (.tbl #[])=H
  have HT:H T=some (.tbl #[]):=by rw [<-hHdef,aI]
  have Hne:∀ {b},b≠T->H b=Bi b:=fun z=>by rw [<-hHdef,aJ z]
  have sm:Same Bi H:=fun b o e=>by rw [Hne (aM e hBT)];exact e
  have hok:HOk P w H s₁.heap:=fun b u e=>by
   by_cases hb:b=T
   ·subst hb;rw [HT] at e;cases e;exact hT
   ·rw [Hne hb] at e
    exact (hokB b u e).stay (fun c v _ q=>q) (fun c q=>sm _ _ q) fun c xs q=>sm _ _ q
  have only:∀ {b:Addr} {o:Obj},s₁.heap.get? b=some o->(∀ xs n,o.data≠.seq xs n)->(∀ vs,o.data≠.fields vs)->H b=none:=fun {b o} e d1 d2=>by
   by_cases hb:b=T
   ·subst hb;rw [hT] at e;cases e;exact absurd rfl (d2 #[])
   ·rw [Hne hb]
    cases q:Bi b with
    | none=>rfl
    | some u=>
     have e':b=a:=hA b (by rw [q];simp)
     subst e'
     rw [ha] at e;cases e
     exact absurd rfl (d1 _ _)
  have base_of:∀ {b:Addr} {o:Obj},s₁.heap.get? b=some o->H b=none->(zCa s₁.heap H).get? b=some o:=fun e n=>zCF e n
  have nsK:∀ {b:Addr} {m:Str->Option Value},s₁.heap.Ns b m->(zCa s₁.heap H).Ns b m:=fun {b m} ⟨o,es,ep,e,d,r⟩=>⟨o,es,ep,base_of e (only e (fun xs n z=>by rw [d] at z;cases z) (fun vs z=>by rw [d] at z;cases z)),d,r⟩
  have hKb:K.In (zCa s₁.heap H):=fun b o e=>base_of (KX b o e) (by
   by_cases hb:b=T
   ·subst hb;rw [hKT] at e;cases e
   ·rw [Hne hb]
    cases q:Bi b with
    | none=>rfl
    | some u=>
     have e':b=a:=hA b (by rw [q];simp)
     subst e'
     rw [hK (by rw [q];simp)] at e;cases e)
  have hBb:BMn (zCa s₁.heap H) mg:=by
   obtain ⟨bm,ob,b1,b2,b3,b4,b5,b6⟩:=hbm
   exact ⟨bm,ob,b1,b2,base_of b3 (only b3 (fun xs n z=>by rw [b6] at z;cases z) (fun vs z=>by rw [b6] at z;cases z)),b4,b5,b6⟩
  have hM:Mod K mg (zCa s₁.heap H):=⟨hKb,nsK hns,⟨mb,nsK hb,hbb⟩,let ⟨mc,h1,h2⟩:=hlim;⟨mc,nsK h1,h2⟩⟩
  have e0:Env0 P w K mg (zCa s₁.heap H) callerA [] s₁ H:=⟨rfl,hM,fun b o e=>zFr e,Nat.le_of_eq (zBj _ _),trivial,fun b hb=>absurd (show b∈([]:List Addr) from hb) (by simp),hok,.of_eq hg⟩
  have htb:TB K mg Bi H:=fun T' h'=>by
   have e':=zDk KX hP h'
   subst e'
   exact ⟨⟨#[],HT,trivial,fun pos cv z=>by cases z⟩,hBT⟩
  refine codeAny_mono ((F _ hKb (nsK hns) hBb).run callerA [] s₁ H ⟨[.ref a],[]⟩ [.ref a] [.ref a] (fun v _=>v=.bl true) (fun _ _ _=>False) hr e0 (hbind s₁ (.ref a)) (.cons rfl .nil) ⟨a,ns,Bi,rfl,htb,sm,hS,hl,hbg,fun _=>rfl⟩) fun r s' h=>?_
  cases r with
  | error e=>exact (hCX H e s' h).elim
  | ok fl=>
   cases fl with
   | next=>exact False.elim h
   | brk=>exact False.elim h
   | cont=>exact False.elim h
   | ret u=>
    obtain ⟨v,H',os,bare,un,hok',r',q⟩:=h
    have q':v=.bl true:=q
    subst q'
    obtain rfl:u=Value.bool true:=r'
    refine ⟨rfl,⟨fun b o e=>?_,fun b o e=>un.there b o e (by simp)⟩,os,bare⟩
    by_cases hbT:b=T
    ·subst hbT
     obtain ⟨more,z⟩:=un.tbls b _ HT
     have z2:s'.heap.get? b=some { cls:=.none,data:=.fields (#[]++more) }:=hok' b _ z
     rw [hT] at e;cases e
     obtain ⟨f,oc,od,fd',osl,c,a1,a2,a3,a4⟩:=hP
     obtain ⟨o,vs,_,_,_,_,_,_,_,e1,e2,e3,e4,_⟩:=a4 _ KX
     exact .inr (.inl ⟨⟨c,o,vs,e1,e2,e3,e4⟩,rfl,#[],more,rfl,z2⟩)
    ·refine .inl ?_
     cases q:H b with
     | none=>exact un.keep b o e q (by intro z;exact absurd (show b∈([]:List Addr) from z) (by simp)) (by simp)
     | some u=>
      rw [Hne hbT] at q
      rcases hO b with z | ⟨ob,xs,z⟩
      ·rw [q] at z;cases z
      ·have z2:=un.frzs b ob _ (by rw [Hne hbT];exact z)
       obtain ⟨e1,_⟩:=hokB b _ z
       obtain ⟨e2,_⟩:=hok' b _ z2
       rw [e] at e1;cases e1
       exact e2
 cases hk:K.lookup a with
 | some o=>
  have e:=KX a o hk
  rw [ha] at e
  cases e
  refine core (fun _=>none) (fun _=>.inl rfl) (.inr ⟨_,vs.toArray,_,hk,rfl,rfl,rfl,by rw [List.size_toArray,lenV,sizeLine_eq];omega,by simpa using rv⟩) (fun b u z=>by have z':(none:Option HO)=some u:=z;cases z') (fun b z=>absurd rfl z) fun z=>absurd rfl z
 | none=>
  refine core (fun b=>if b=a then some (.frz { cls:=.type "list", data:=.seq vs.toArray } (.lst (ns.map V.int))) else none) (fun b=>?_) (.inl (.inr ⟨{ cls:=.type "list", data:=.seq vs.toArray },if_pos rfl⟩)) (fun b u z=>?_) (fun b z=>?_) fun _=>hk
  ·by_cases hb:b=a
   ·exact .inr ⟨_,_,if_pos hb⟩
   ·exact .inl (if_neg hb)
  ·by_cases hb:b=a
   ·have z':=(if_pos hb).symm.trans z
    cases z'
    subst hb
    exact ⟨ha,by rw [List.length_map,sizeLine_eq];omega,vs,_,rv,ha⟩
   ·have z':=(if_neg hb).symm.trans z
    cases z'
  ·by_cases hb:b=a
   ·exact hb
   ·exact absurd (if_neg hb) z
theorem zDE:∀ {ns:List Int} {n:Int},n∈ns->(WData.int n).weight<=WData.weightAll (ns.map WData.int)
 | a::r,n,h=>by
  rw [List.map_cons,WData.weightAll]
  rcases List.mem_cons.mp h with rfl | h
  ·omega
  ·have:=zDE h
   omega
theorem zFd {ns:List Int} (h:WData.layableAll [WData.list (ns.map WData.int)]=true):(∃ m,m<=1048576/\∀ n∈ns,n.natAbs < 2^m):=by
 refine ⟨1048576,Nat.le_refl _,fun n hn=>?_⟩
 have w:WData.weightAll (ns.map WData.int)<=2^20:=by
  unfold WData.layableAll WData.layable at h
  simp only [List.all_cons,List.all_nil,Bool.and_true,Bool.and_eq_true,decide_eq_true_eq] at h
  have:=h.2
  rw [WData.weight] at this
  exact this
 have a:=zDE hn
 rw [WData.weight] at a
 by_cases z:n=0
 ·subst z
  exact Nat.two_pow_pos _
 ·rw [if_neg (by simpa using z)] at a
  exact Nat.lt_of_lt_of_le Nat.lt_log2_self (Nat.pow_le_pow_right (by decide) (by omega))
open PySem.Calls in
theorem tG {l:OpenLaw} {n:Nat} {q:Program} {loose:List Str} {XP:(Str->Option Value)->Heap->Prop} {YP:World->Heap->Prop} {d:DefRec}
  (hn:l.most=some n) (hdf:d.params.defaults=[])
  (call:∀ (w:World) (s₀ s₁:Shared) (mg mb:Str->Option Value) (fa:Addr) (o:Obj) (pm cd doc:Value) (a:Addr) (vs:List Value) (ns:List Int),(∃ m,m<=1048576/\∀ n∈ns,n.natAbs < 2^m)->
   Ground q loose [] XP w s₀ mg mb s₁.heap->YP w s₁.heap->
   s₁.heap.get? fa=some o->o.data=.func (docDef d.name d.params d.body d.scope pm cd doc)->s₁.heap.CodeRec cd d.name->mg d.name=some (.ref fa)->
   s₁.heap.get? a=some { cls:=.type "list", data:=.seq vs.toArray }->IntsAre vs ns->ns.length<=n->s₁.gens=#[]->
   codeAny (model l.prog w) callerA (.call (.ref fa) ⟨[.ref a],[]⟩) (fun r s'=>r=.ok (.ret (.bool true))/\OldK s₁.heap s'.heap/\s'.os=s₁.os/\AllBare s'.gens) s₁):
  WalkO q loose XP YP l.row.toRowW d [] (fun f vs=>PySem.call f vs):=by
 intro w s₀ s₁ mg mb G Y fa o pm cd doc dV kV ho hd hcd hD hmg hg args vals as hpre hlay hrd hwl hlo
 obtain rfl:dV=.none:=Dflts.none hD hdf
 obtain rfl:kV=.none:=Dflts.noKw hD
 obtain ⟨a,vs,ns,rfl,rfl,hobj,hints,hlen⟩:=Att.script_of hn hpre hwl
 refine enter_call (codeAny_mono (call w s₀ s₁ mg mb fa o pm cd doc a vs ns (zFd hlay) G Y ho (fd_plain hd) hcd hmg hobj hints hlen hg) fun r s' hq=>?_)
 obtain ⟨rfl,h2,h3,h4⟩:=hq
 exact ⟨.inl ⟨.bool true,.bool true,[],rfl,fun _=>rfl,.bool true,Att.post_true l _,fun _=>⟨List.Pairwise.nil,fun _ hm=>(nomatch hm)⟩⟩,h2,h3,h4⟩
theorem zIW {l:PySem.W.OpenLaw} {k:Nat} {q:Program} {loose:List Str} {XP:(Str->Option Value)->Heap->Prop} {YP:World->Heap->Prop} {d:DefRec} {K:Params->PySem.W.Frag} {T:Addr} (hn:l.most=some 63) (hdf:d.params.defaults=[]) (hr:Room k callerA)
  (hY:∀ (w:World) (h:Heap),YP w h->(K w.params).In h) (hT:∀ (w:World) (h:Heap),YP w h->h.get? T=some (tabObj #[]))
  (F:∀ (w:World) (mg:Str->Option Value) (fa:Addr) (h:Heap),(K w.params).In h->h.Ns mainGlobals mg->mg d.name=some (.ref fa)->
   (K w.params).lookup T=none/\iO (K w.params) mg T/\∃ fd:FuncData,(∀ (s:Shared) (u:Value),BindsTo s fd ⟨[u],[]⟩ [("script", u)])/\∀ base:Heap,(K w.params).In base->base.Ns mainGlobals mg->BMn base mg->FnOk l.prog w (K w.params) mg base (CX1 l.prog w) k fa fd ["script"] (zHD (K w.params) mg)):
  PySem.W.WalkO q loose XP YP l.row.toRowW d [] (fun f vs=>PySem.call f vs):=by
 refine tG hn hdf fun w s₀ s₁ mg mb fa o pm cd doc a vs ns hbg G Y ho hd hcd hmg hobj hints hlen hg=>?_
 have KX:=hY w _ Y
 obtain ⟨h1,h2,fd,hb,hF⟩:=F w mg fa _ KX G.T.g hmg
 exact zAu KX G.T.g G.T.b G.T.builtins G.T.nolimit hg G.T.bmain (hT w _ Y) h1 h2 hobj hints hlen hbg hr hF hb fun _ _ _ z=>by
  obtain ⟨_,_,_,_,_,z⟩:=z
  exact z
end L3
namespace L3
open PySem PySem.Spec PyProof.Rows L2 PySem.W
unseal PEd PEf PTd PWd PAd PSd bZ POd PGd cX PId PSx dS PTs PCd PCf
section
variable {X:Cx} {G:Gx} {pins:List (Addr×Obj)} {σ:St} {H Hi:Hp} {s:Shared} {ρ:Rho} {i k:Nat} {st:Stmt} {sa:Sv}
end
end L3
namespace L3
open PySem PySem.Spec PyProof.Rows L2 PySem.W
unseal PEd PEf PTd PWd PAd PSd bZ POd PGd cX PId PSx dS PTs PCd PCf
section
variable {X:Cx} {G:Gx} {e a:Expr} {f g:Ev} {pos:Pos}
end
end L3
namespace L3
open PySem PySem.Spec PyProof.Rows L2 PySem.W
unseal PEd PEf PTd PWd PAd PSd bZ POd PGd cX PId PSx dS PTs PCd PCf
section
variable {X:Cx} {G:Gx} {st:Stmt} {rest:List Stmt} {sa sb:Sv} {u:TS}
def tSU (X:Cx) (G:Gx) (sv:Sv) (u:TS):TS:=fun E σ H=>tS X G sv { E with nx:=u E } σ H
theorem zEl (h:PS X st u):PSs X [st] (tSU X G sNext u):=PSs.wk (qY h) fun E σ H q=>by
 obtain ⟨ρ,Hi,R,h⟩:=q
 exact h σ Hi H (Same.refl _) R
theorem zBg (h1:PSd X G st sa) (h2:PSs X rest (tSU X G sb u)):PSs X (st::rest) (tSU X G (bT sa sb) u):=PSs.wk (gT h1 h2) fun E σ H q=>zDU (E:={ E with nx:=u E }) q
end
section
variable {P:Program} {w:World} {K:PySem.W.Frag} {mg:Str->Option Value} {base:Heap} {N ps:List Str} {x:Str} {st:Stmt} {f:Addr} {fd:FuncData} {k i0 i1 i2:Nat} {sv:Sv}
end
section
variable {X:Cx} {G:Gx} {e:Expr} {es:List Expr} {pos p:Pos} {fs:Fv} {k j0 j1 j2:Nat} {kf:List D->Res Tri} {x:Str} {ps:List Str} {tg:Expr}
end
end L3
namespace L3
open PySem PySem.Spec PyProof.Rows L2
unseal PEd PEf PTd PWd PAd PSd bZ POd PGd cX PId PSx dS PTs PCd PCf
section
variable {X:Cx} {G:Gx} {fs:Fv} {f:Ev}
end
end L3
namespace L3
open PySem PySem.Spec PyProof.Rows L2
unseal PEd PEf PTd PWd PAd PSd bZ POd PGd cX PId PSx dS PTs PCd PCf
section
variable {prog:Program} {w:World} {A:Around} {E:Value->Shared->Prop} {s:Shared}
end
section
variable {X:Cx} {G:Gx} {f:Ev}
end
section
variable {X:Cx} {G:Gx} {it:Fv} {t:Tv}
end
end L3
namespace L3
open PySem PySem.Spec PyProof.Rows L2
unseal PEd PEf PTd PWd PAd PSd bZ POd PGd cX PId PSx dS PTs PCd PCf
section
variable {X:Cx} {G:Gx}
theorem bI {i:Int} {j pos}:PEd X G (.Constant (.int i) j pos) (eC (.int i)):=fK zBM fun _=>.int _
theorem aS (i:Nat) {x:Str} {pos:Pos} (hN:X.N[i]?=some x:=by rfl) (hv:Vis X.env.scope x:=by first | exact Or.inl rfl | exact Or.inr (Or.inl rfl) | exact Or.inr (Or.inr rfl)) (hd:(x==("__debug__" : Str))=false:=by decide)
  (hcd:(x==("__classdict__" : Str))=false:=by decide):PEd X G (.Name x pos) (aG i):=zGn i (pv i hN hv hd hcd)
theorem yU (n:Nat) {x:Str} {pos p2:Pos} {i:Int} {j p1} (hN:X.N[n]?=some x:=by rfl) (hv:Vis X.env.scope x:=by first | exact Or.inl rfl | exact Or.inr (Or.inl rfl) | exact Or.inr (Or.inr rfl)) (hd:(x==("__debug__" : Str))=false:=by decide)
  (hcd:(x==("__classdict__" : Str))=false:=by decide):PEd X G (.Subscript (.Name x pos) (.Constant (.int i) j p1) p2) (eOp oIx (aG n) (eC (.int i))):=xZ eY zFU (aS n hN hv hd hcd) bI (fun _ _=>rfl)
end
end L3
namespace L3
open PySem PySem.Spec PyProof.Rows L2
unseal PEd PEf PTd PWd PAd PSd bZ POd PGd cX PId PSx dS PTs PCd PCf
section
variable {X:Cx} {G:Gx} {it:Fv} {t:Tv}
end
end L3
namespace L3
open PySem PySem.Spec PyProof.Rows L2
unseal PEd PEf PTd PWd PAd PSd bZ POd PGd cX PId PSx dS PTs PCd PCf
section
variable {X:Cx} {G:Gx} {a:Expr} {f:Ev}
theorem zIh (h:PEd X G a f) (n:Nat) {x:Str} {pos p2:Pos} (hN:X.N[n]?=some x:=by rfl) (hv:Vis X.env.scope x:=by first | exact Or.inl rfl | exact Or.inr (Or.inl rfl) | exact Or.inr (Or.inr rfl)) (hd:(x==("__debug__" : Str))=false:=by decide)
  (hcd:(x==("__classdict__" : Str))=false:=by decide):PEd X G (.Subscript a (.Name x pos) p2) (eOp oIx f (aG n)):=xZ eY zFU h (aS n hN hv hd hcd) (fun _ _=>rfl)
theorem cO (n:Nat) {x:Str} {pos:Pos} (hN:X.N[n]?=some x:=by rfl) (hv:Vis X.env.scope x:=by first | exact Or.inl rfl | exact Or.inr (Or.inl rfl) | exact Or.inr (Or.inr rfl)) (hd:(x==("__debug__" : Str))=false:=by decide)
  (hcd:(x==("__classdict__" : Str))=false:=by decide):PAd X G [.Name x pos] (aD (aG n) aNil):=aA (aS n hN hv hd hcd) aN bC
theorem s_z (i:Nat) {x:Str} {pos pos':Pos} (hN:X.N.Nodup) (he:PEd X G a f) (hi:X.N[i]?=some x:=by rfl) (hx:Loc X.env.scope x:=by first | exact Or.inl rfl | exact Or.inr rfl) (hs:swapsWith a (some (.Name x pos')) pos.line X.env=pure false:=by rfl)
  (hf:X.fn x=true∨X.env.scope.names.lookup x=some .local:=by first | exact .inl rfl | exact .inr rfl | assumption):PSd X G (.Assign [.Name x pos'] a pos) (eJ i f):=zIP hN hi hx he hs hf
theorem g_z (i:Nat) {x:Str} {pos:Pos} (hN:X.N.Nodup) (hi:X.N[i]?=some x:=by rfl) (hx:Loc X.env.scope x:=by first | exact Or.inl rfl | exact Or.inr rfl) (hf:X.fn x=true∨X.env.scope.names.lookup x=some .local:=by first | exact .inl rfl | exact .inr rfl | assumption):PGd X G (.Name x pos) (gName i):=zHI hN hi hx hf
theorem zAi {s j p}:PAd X G [.Constant (.str s) j p] (aD (eC (.str s)) aNil):=aA (fK bP fun _=>.str _) aN aW
end
section
variable {P:Program} {w:World} {K:PySem.W.Frag} {mg:Str->Option Value} {base:Heap} {k:Nat} {x:Str} {st:Stmt} {ps N:List Str} {f:Addr} {fd:FuncData} {b:Sv}
theorem kZ (F:Fn K mg x st ps f fd) (S:FnScope N ps (aE st))
  (h:∀ {cdv:Value} {A:Around} {outer:List Env} {s:Shared} {H:Hp} {E:XK} {G:Gx},Good (BX P w K mg base N x st f cdv A outer s H E) G k->tJ (BX P w K mg base N x st f cdv A outer s H E) G->bZ (BX P w K mg base N x st f cdv A outer s H E) G (bL st) b):
  CanM P w K mg base (k+1) x ps (fn ps.length N.length b):=jN F S fun _ _ _ _ _ _ _ W R=>h W R
end
end L3
namespace L3
open PySem PySem.Spec PyProof.Rows L2
unseal PEd PEf PTd PWd PAd PSd bZ POd PGd cX PId PSx dS PTs PCd PCf
section
variable {X:Cx} {G:Gx} {e:Expr} {es:List Expr} {pos p:Pos} {fs:Fv} {k:Nat} {x:Str} {ps:List Str} {m:Mir}
end
section
variable {X:Cx} {G:Gx} {a c:Expr} {f:Ev} {pos:Pos}
end
end L3
namespace L3
open PySem PySem.Spec PyProof.Rows L2 PySem.W
unseal PEd PEf PTd PWd PAd PSd bZ POd PGd cX PId PSx dS PTs PCd PCf
section
variable {X:Cx} {G:Gx} {e:Expr} {pos p:Pos} {fs:Fv} {k:Nat} {kf:List D->Res (List Int)}
end
section
variable {X:Cx} {G:Gx} {e o k:Expr} {f fk:Ev} {pos tpos:Pos}
end
section
variable {X:Cx} {G:Gx} {e:Expr} {fs:Fv}
end
section
variable {X:Cx}
end
end L3
namespace L3
open PySem PySem.Spec PyProof.Rows L2
section
variable {prog:Program} {w:World} {A:Around} {E:Value->Shared->Prop} {s:Shared}
end
section
variable {prog:Program} {w:World} {A:Around} {E:Value->Shared->Prop} {s:Shared}
end
section
unseal PEd PEf PTd PWd PAd PSd bZ POd PGd cX PId PSx dS PTs PCd PCf
variable {X:Cx} {G:Gx} {fs:Fv} {f:Ev}
end
end L3
namespace L3
open PySem PySem.Spec PyProof.Rows L2 PySem.W
unseal PEd PEf PTd PWd PAd PSd bZ POd PGd cX PId PSx dS
section
variable {X:Cx} {G:Gx} {k:Nat} {fb fh:Sv} {body suite:List Stmt} {b₀:Stmt} {ce:Str} {np hpos pos:Pos}
end
end L3
namespace L3
open PySem PySem.Spec PyProof.Rows L2 PySem.W
unseal PEd PEf PTd PWd PAd PSd bZ POd PGd cX PId PSx dS PTs PCd PCf
section
variable {X:Cx} {G:Gx} {fa fb fm:Ev} {pos:Pos}
end
end L3
namespace L3
open PySem PySem.Spec PyProof.Rows L2
unseal PEd PEf PTd PWd PAd PSd bZ POd PGd cX PId PSx dS PTs PCd PCf
section
variable {X:Cx} {G:Gx} {a b c d:Expr} {f g h q:Ev} {pos:Pos}
end
end L3
namespace L3
open PySem PySem.Spec PyProof.Rows L2 PySem.W
unseal PEd PEf PTd PWd PAd PSd bZ POd PGd cX PId PSx dS PTs PCd PCf
open Classical in
def nX (H:Hp) (a:Addr):Hp:=fun b=>if b=a then none else H b
theorem mF {H:Hp} {a:Addr}:nX H a a=none:=if_pos rfl
theorem zBK {H:Hp} {a b:Addr} (h:b≠a):nX H a b=H b:=if_neg h
theorem lJ {H:Hp} {a b:Addr} {o:HO} (h:nX H a b=some o):b≠a/\H b=some o:=by
 by_cases e:b=a
 ·subst e;rw [mF] at h;cases h
 ·rw [zBK e] at h;exact ⟨e,h⟩
theorem zBb {P a:Addr} {H:Hp} (h:nY P (nX H a)):nY P H:=by
 obtain ⟨ps,e,t,k⟩:=h
 refine ⟨ps,(lJ e).2,t,fun pos cv q=>?_⟩
 obtain ⟨c,oc,vs,tk,u,r1,r2,r3⟩:=k pos cv q
 exact ⟨c,oc,vs,tk,u,r1,(lJ r2).2,r3⟩
theorem oZ (H:Hp) (a:Addr):Keep (nX H a) H:=⟨fun b o e=>.inl (lJ e).2,fun P h=>zBb h⟩
section
variable {X:Cx} {G:Gx} {st:Stmt} {rest:List Stmt} {sa sb:Sv} {u:TS} {k:Nat} {f:Ev}
end
section
variable {K:PySem.W.Frag} {mg:Str->Option Value} {B Bi Hi H:Hp} {σ:St} {ρ:Rho}
theorem vI (n:Nat) (ds:List D):(L3.start n ds).all zGL=true:=by
 unfold L3.start
 rw [List.all_append,Bool.and_eq_true]
 refine ⟨?_,?_⟩
 ·rw [List.all_map,List.all_eq_true];exact fun _ _=>rfl
 ·rw [List.all_eq_true];intro x hx;rw [(List.mem_replicate.mp hx).2];rfl
end
section
variable {P:Program} {w:World} {K:PySem.W.Frag} {mg:Str->Option Value} {base:Heap} {N ps:List Str} {x:Str} {st:Stmt} {f:Addr} {fd:FuncData} {k np i1 i2:Nat} {f1 f2 f3 f4:Ev} {sS:Sv}
end
section
variable {X:Cx} {G:Gx} {e1 e2 e3 e4:Expr} {pos p p2 p3:Pos} {k i j l y:Nat} {kf:List D->List D->Res (Bool×List D)} {x:Str} {ps:List Str} {body:List Stmt}
end
end L3
namespace L3
open PySem PySem.Spec PyProof.Rows L2 PySem.W
unseal PEd PEf PTd PWd PAd PSd bZ POd PGd cX PId PSx dS PTs PCd PCf
theorem Flds.look {K:PySem.W.Frag} {Hi:Hp} {f:Str} {d:D}:∀ {hs:List (Str×V)} {fs:List (Str×D)},Flds K Hi hs fs->fs.lookup f=some d->∃ v,hs.lookup f=some v/\IsD K Hi v d
 | _,_,.nil,e=>by cases e
 | _,_,.cons (f:=g) (v:=v) h r,e=>by
  rw [List.lookup_cons] at e
  by_cases z:f==g
  ·rw [z] at e
   cases e
   exact ⟨v,by rw [List.lookup_cons,z],h⟩
  ·rw [Bool.eq_false_iff.mpr z] at e
   obtain ⟨u,h1,h2⟩:=Flds.look r e
   exact ⟨u,by rw [List.lookup_cons,Bool.eq_false_iff.mpr z];exact h1,h2⟩
theorem Flds.out {K:PySem.W.Frag} {Hi:Hp} {f:Str}:∀ {hs:List (Str×V)} {fs:List (Str×D)},Flds K Hi hs fs->fs.lookup f=none->hs.lookup f=none
 | _,_,.nil,_=>rfl
 | _,_,.cons (f:=g) h r,e=>by
  rw [List.lookup_cons] at e ⊢
  by_cases z:f==g
  ·rw [z] at e;cases e
  ·rw [Bool.eq_false_iff.mpr z] at e ⊢
   exact Flds.out r e
theorem Flds.snoc {K:PySem.W.Frag} {Hi:Hp} {f:Str} {v:V} {d:D} (hd:IsD K Hi v d):∀ {hs:List (Str×V)} {fs:List (Str×D)},Flds K Hi hs fs->fs.lookup f=none->Flds K Hi (pU f v hs) (fs++[(f,d)])
 | _,_,.nil,_=>.cons hd .nil
 | _,_,.cons (f:=g) h r,e=>by
  rw [List.lookup_cons] at e
  by_cases z:f==g
  ·rw [z] at e;cases e
  ·rw [Bool.eq_false_iff.mpr z] at e
   have n:¬ g=f:=fun w=>z (by rw [w];exact beq_self_eq_true f)
   show Flds K Hi (if g=f then _ else _) _
   rw [if_neg n]
   exact .cons h (Flds.snoc hd r e)
theorem Flds.len {K:PySem.W.Frag} {Hi:Hp}:∀ {hs:List (Str×V)} {fs:List (Str×D)},Flds K Hi hs fs->hs.length=fs.length
 | _,_,.nil=>rfl
 | _,_,.cons _ r=>by rw [List.length_cons,List.length_cons,Flds.len r]
section
variable {X:Cx} {G:Gx} {e:Expr} {es:List Expr} {pos p apos:Pos} {i k:Nat} {c f m x:Str} {fs:Fv}
theorem sU (hv:PE X e (rZ i)) (cf:∀ C,X.mg c=some (.ref C)->Cls X.K C/\fW X.K C f) (hb:attributeBase e f X.env (eval e X.env)=eval e X.env:=by rfl):PEd X G (.Attribute e f pos) (zBW i c f):=PE.wk (zHJ hv hb) fun σ H Q q=>by
 obtain ⟨ρ,Hi,R,ou⟩:=q
 unfold zBW at ou
 cases z:ρ[i]? with
 | none=>rw [z] at ou;exact ou.elim
 | some s=>
  rw [z] at ou
  cases s with
  | ins c' fs=>
   have ou:Out G Hi H (if c'=c then zJg (fs.lookup f) else .no) _:=ou
   by_cases w:c'=c
   ·subst w
    rw [if_pos rfl] at ou
    obtain ⟨a,C,dx,hs,o1,h1,h2,h3⟩:=R.slot i _ z
    cases l:fs.lookup f with
    | none=>rw [l] at ou;exact ou.elim
    | some d=>
     rw [l] at ou
     obtain ⟨v,hl,hd⟩:=h3.look l
     exact ⟨.ref a,o1,a,C,dx,hs,v,rfl,R.s _ _ h1,(cf C h2).1,(cf C h2).2,hl,Out.here ou R.s _ hd⟩
   ·rw [if_neg w] at ou;exact ou.elim
  | _=>exact ou.elim
structure FnM (K:PySem.W.Frag) (x q:Str) (st:Stmt) (ps:List Str) (f:Addr) (fd:FuncData):Prop where
 fn:Fun K x q st f fd
 bd:jS K fd ps []
def spO (K:PySem.W.Frag) (mg:Str->Option Value) (c:Str) (mm:List (Str×D)->Res Rt):Sp:=fun vs H Q _=>vs.length=1/\∃ Bi a C dx hs fs,vs=[.ref a]/\TB K mg Bi H/\Same Bi H/\Bi a=some (.ins C dx hs)/\mg c=some (.ref C)/\Flds K Bi hs fs/\match mm fs with
 | .ok (.v d)=>∀ v Hi' H',Ext Bi H Hi' H'->IsD K Hi' v d->Q v H'
 | .ok (.f ds)=>∀ a Hi' H',Ext Bi H Hi' H'->zBZ K H Hi' H' a ds->Q (.ref a) H'
 | _=>False
structure CanO (P:Program) (w:World) (K:PySem.W.Frag) (mg:Str->Option Value) (base:Heap) (k:Nat) (c m:Str) (mm:List (Str×D)->Res Rt):Prop where
 ex:∃ f fd C,FnOk P w K mg base (CX1 P w) k f fd ["self"] (spO K mg c mm)/\jS K fd ["self"] []/\mg c=some (.ref C)/\Cls K C/\Meth K C m f
theorem CanO.mono {P:Program} {w:World} {K:PySem.W.Frag} {mg:Str->Option Value} {base:Heap} {j k:Nat} {c m:Str} {mm:List (Str×D)->Res Rt} (h:CanO P w K mg base j c m mm) (l:j<=k):CanO P w K mg base k c m mm:=by
 obtain ⟨f,fd,C,F,r⟩:=h.ex
 exact ⟨⟨f,fd,C,F.mono l,r⟩⟩
theorem sV {mm:List (Str×D)->Res Rt} (W:Good X G k) (h:CanO X.prog X.w X.K X.mg X.base k c m mm) (hv:PE X e (rZ i)) {pl:Sem Bool}
  (ht:eval (.Call (.Attribute e m apos) [] [] pos) X.env=(do
   let ov <-eval e X.env
   standAt apos.atName
   let (f,first) <-holding [ov] (getMethod ov m pl)
   callWith pos f first (backTo pos (starEach [] X.env)) (backToKw pos (keywordEach [] X.env))):=by rfl):
  PEd X G (.Call (.Attribute e m apos) [] [] pos) (zCk i c m mm):=by
 obtain ⟨f,fd,C,F,b,hC,cl,hm⟩:=h.ex
 refine PE.wk (zCg (pl:=pl) hv cl hm F W.room b .nil W.pass ht) fun σ H Q q=>?_
 obtain ⟨ρ,Hi,R,ou⟩:=q
 unfold zCk at ou
 cases z:ρ[i]? with
 | none=>rw [z] at ou;exact ou.elim
 | some s=>
  rw [z] at ou
  cases s with
  | ins c' fs=>
   have ou2:Out G Hi H (if c'=c/\(fs.lookup m).isNone=true then (noErr (mm fs)).bind fun r=>.ok r.d else .no) _:=ou
   by_cases w:c'=c/\(fs.lookup m).isNone=true
   ·rw [if_pos w] at ou2
    obtain ⟨w,hn⟩:=w
    subst w
    obtain ⟨a,C',dx,hs,o1,h1,h2,h3⟩:=R.slot i _ z
    have eC:C'=C:=by rw [hC] at h2;cases h2;rfl
    subst eC
    cases l:mm fs with
    | no=>rw [l] at ou2;exact ou2.elim
    | err c=>rw [l] at ou2;exact ou2.elim
    | ok r=>
     rw [l] at ou2
     refine ⟨.ref a,o1,a,dx,hs,rfl,R.s _ _ h1,h3.out (Option.isNone_iff_eq_none.mp hn),rfl,Hi,a,C',dx,hs,fs,rfl,W.tb.ext R.ext,R.s,h1,h2,h3,?_⟩
     rw [l]
     cases r with
     | v d=>exact fun v Hi' H' x r=>ou2 Hi' H' x v r
     | f ds=>
      intro a' Hi' H' x n
      obtain ⟨n1,n2,xs,n3,n4⟩:=n
      exact ou2 _ _ (x.hold n1 n3 n2) (.ref a') (.lst (SqL.of aI) (n4.mono (bA n2 _)))
   ·rw [if_neg w] at ou2;exact ou2.elim
  | _=>exact ou.elim
end
theorem yN {K:PySem.W.Frag} {mg:Str->Option Value} {Bi H:Hp} {N:List Str} {a C dx:Addr} {hs:List (Str×V)} {c:Str} {fs:List (Str×D)} (s:Same Bi H) (ha:Bi a=some (.ins C dx hs)) (hC:mg c=some (.ref C)) (h:Flds K Bi hs fs) (hN:0 < N.length):Rel K mg H Bi Bi H (L2.start N [.ref a]) (.ins c fs::List.replicate (N.length - 1) .un) where
 len:=by
  unfold L2.start
  simp only [List.length_append,List.length_map,List.length_replicate,List.length_cons,List.length_nil]
  omega
 ext:=Ext.refl s
 slot:=fun i sl e=>by
  cases i with
  | zero=>cases e;exact ⟨a,C,dx,hs,rfl,ha,hC,h⟩
  | succ i=>
   rw [List.getElem?_cons_succ,List.getElem?_replicate] at e
   split at e
   ·cases e;trivial
   ·cases e
 dist:=fun i j b fs' gs e1 e2 _ _=>by
  cases i with
  | zero=>cases e1
  | succ i=>
   rw [List.getElem?_cons_succ,List.getElem?_replicate] at e1
   split at e1<;>cases e1
section
variable {P:Program} {w:World} {K:PySem.W.Frag} {mg:Str->Option Value} {base:Heap} {N ps:List Str} {x q c:Str} {st:Stmt} {f C:Addr} {fd:FuncData} {k:Nat} {b sv:Sv}
theorem rY (F:FnM K x q st ["self"] f fd) (S:FnScope N ["self"] (aE st)) (hN:0 < N.length) (hC:mg c=some (.ref C)) (cl:Cls K C) (mt:Meth K C x f)
  (h:∀ (cdv:Value) (A:Around) (outer:List Env) (s:Shared) (H:Hp) (E:XK) (G:Gx),Good (BX P w K mg base N q st f cdv A outer s H E) G k->tJ (BX P w K mg base N q st f cdv A outer s H E) G->bZ (BX P w K mg base N q st f cdv A outer s H E) G (bL st) b):
  CanO P w K mg base (k+1) c x (fnO c N.length b):=by
 refine ⟨f,fd,C,?_,F.bd,hC,cl,mt⟩
 obtain ⟨oc,od,kV,doc,pm,an,cdv,ct,osl,rfl,lk,hcd⟩:=F.fn.ex
 refine zBA lk hcd S (fun vs H Q E h=>h.1) fun A outer s H vs Q E hr hsp=>?_
 obtain ⟨hl,Bi,a,C',dx,hs,fs,rfl,tb,sm,ha,hC',hf,hq⟩:=hsp
 have hg:=lR (P:=P) (w:=w) (K:=K) (mg:=mg) (base:=base) (N:=N) (outer:=outer) (H:=H) (Bi:=Bi) (E:=E) hr tb
 refine ⟨_,h cdv A outer s H E _ hg lE,.ins c fs::List.replicate (N.length - 1) .un,Bi,yN sm ha hC' hf hN,?_⟩
 unfold fnO at hq
 cases z:b (.ins c fs::List.replicate (N.length - 1) .un) with
 | no=>rw [z] at hq;exact hq.elim
 | err c=>rw [z] at hq;exact hq.elim
 | ok fl=>
  rw [z] at hq
  cases fl with
  | nx ρ'=>exact fun σ' Hi' H' s R=>hq .non Hi' H' R.ext .non
  | brk ρ'=>exact hq.elim
  | ctn ρ'=>exact hq.elim
  | ret r=>
   cases r with
   | v d=>exact hq
   | f es=>exact hq
def spV (K:PySem.W.Frag) (mg:Str->Option Value) (np:Nat) (kf:List D->Res Vo):Sp:=fun vs H Q _=>vs.length=np/\∃ Bi ds,TB K mg Bi H/\Same Bi H/\IsDs K Bi vs ds/\match kf ds with
 | .ok (.v d)=>∀ v Hi' H',Ext Bi H Hi' H'->IsD K Hi' v d->Q v H'
 | .ok (.o c fs)=>∀ a C dx hs Hi' H',Ext Bi H Hi' H'->Hi' a=some (.ins C dx hs)->mg c=some (.ref C)->Flds K Hi' hs fs->Q (.ref a) H'
 | _=>False
structure CanV (P:Program) (w:World) (K:PySem.W.Frag) (mg:Str->Option Value) (base:Heap) (k:Nat) (x:Str) (ps:List Str) (kf:List D->Res Vo):Prop where
 ex:∃ f fd,FnOk P w K mg base (CX1 P w) k f fd ps (spV K mg ps.length kf)/\jS K fd ps []/\PySem.W.keepIn K (.ref f)=true/\mg x=some (.ref f)
 ln:∀ ds,kf ds≠.no->ds.length=ps.length
theorem CanV.mono {j:Nat} {kf:List D->Res Vo} (h:CanV P w K mg base j x ps kf) (l:j<=k):CanV P w K mg base k x ps kf:=by
 obtain ⟨⟨f,fd,F,r⟩,ln⟩:=h
 exact ⟨⟨f,fd,F.mono l,r⟩,ln⟩
theorem zII {i:Nat} (F:Fn K mg x st ps f fd) (S:FnScope N ps (aE st))
  (h:∀ (cdv:Value) (A:Around) (outer:List Env) (s:Shared) (H:Hp) (E:XK) (G:Gx),Good (BX P w K mg base N x st f cdv A outer s H E) G k->tJ (BX P w K mg base N x st f cdv A outer s H E) G->PSs (BX P w K mg base N x st f cdv A outer s H E) (bL st) (tSU (BX P w K mg base N x st f cdv A outer s H E) G sv (zIT (rZ i)))):
  CanV P w K mg base (k+1) x ps (kVo ps.length N.length i sv):=by
 refine ⟨⟨f,fd,?_,F.bd,F.kp,F.mg⟩,fun ds hm=>?_⟩
 ·obtain ⟨oc,od,kV,doc,pm,an,cdv,ct,osl,rfl,lk,hcd⟩:=F.fn.ex
  refine zBA lk hcd S (fun vs H Q E h=>h.1) fun A outer s H vs Q E hr hsp=>?_
  obtain ⟨hl,Bi,ds,tb,sm,hd,hq⟩:=hsp
  have hg:=lR (P:=P) (w:=w) (K:=K) (mg:=mg) (base:=base) (N:=N) (outer:=outer) (H:=H) (Bi:=Bi) (E:=E) hr tb
  have hlen:ds.length=ps.length:=by rw [<-hd.length];exact hl
  refine ⟨_,h cdv A outer s H E _ hg lE,L3.start N.length ds,Bi,mG sm hd,?_⟩
  unfold kVo at hq
  rw [if_pos hlen] at hq
  cases e1:sv (L3.start N.length ds) with
  | no=>rw [e1] at hq;exact hq.elim
  | err c=>rw [e1] at hq;exact hq.elim
  | ok fl=>
   rw [e1] at hq
   cases fl with
   | brk ρ=>exact hq.elim
   | ctn ρ=>exact hq.elim
   | ret r=>exact hq.elim
   | nx ρ=>
    intro σ1 Hi1 H1 sm1 R
    have hq:match voO ρ[i]? with
     | .ok (.v d)=>∀ v Hi' H',Ext Bi H Hi' H'->IsD K Hi' v d->Q v H'
     | .ok (.o c fs)=>∀ a C dx hs Hi' H',Ext Bi H Hi' H'->Hi' a=some (.ins C dx hs)->mg c=some (.ref C)->Flds K Hi' hs fs->Q (.ref a) H'
     | _=>False:=hq
    cases e2:ρ[i]? with
    | none=>rw [e2] at hq;exact hq.elim
    | some sl=>
     rw [e2] at hq
     cases sl with
     | val d=>
      obtain ⟨v,p,r⟩:=R.slot i _ e2
      exact ⟨v,p,hq v Hi1 H1 R.ext r⟩
     | ins c fs=>
      obtain ⟨a,C,dx,hs,p,h1,h2,h3⟩:=R.slot i _ e2
      exact ⟨.ref a,p,hq a C dx hs Hi1 H1 R.ext h1 h2 h3⟩
     | _=>exact hq.elim
 ·unfold kVo at hm
  split at hm
  ·assumption
  ·exact absurd rfl hm
end
section
variable {K:PySem.W.Frag} {mg:Str->Option Value} {B Bi Hi H:Hp} {σ:St} {ρ:Rho}
theorem Rel.setI {i:Nat} {a C dx:Addr} {hs:List (Str×V)} {c:Str} {fs:List (Str×D)} (R:Rel K mg B Bi Hi H σ ρ) (h1:Hi a=some (.ins C dx hs)) (h2:mg c=some (.ref C)) (h3:Flds K Hi hs fs):Rel K mg B Bi Hi H (σ.set i (some (.ref a))) (ρ.set i (.ins c fs)):=
 R.setS ⟨a,C,dx,hs,rfl,h1,h2,h3⟩ fun ds z=>by cases z
end
section
variable {X:Cx} {G:Gx} {e:Expr} {es:List Expr} {pos p:Pos} {fs:Fv} {k j:Nat} {kf:List D->Res Vo} {x y:Str} {ps:List Str}
theorem zJA {pos' pa:Pos} (hN:X.N.Nodup) (hi:X.N[j]?=some y) (hy:Loc X.env.scope y) (W:Good X G k) (c:CanV X.prog X.w X.K X.mg X.base k x ps kf) (hg:Gl X x) (ha:PAd X G (e::es) fs)
  (hdb:(x==("__debug__" : Str))=false:=by decide) (he:starEach (e::es) X.env=(false,eval e X.env)::starEach es X.env:=by rfl) (hpl:(backTo pos (starEach es X.env)).any (·.1)=false:=by rfl)
  (hs:swapsWith (.Call (.Name x p) (e::es) [] pos) (some (.Name y pos')) pa.line X.env=pure false:=by rfl) (hf:X.fn y=true∨X.env.scope.names.lookup y=some .local:=by first | exact .inl rfl | exact .inr rfl | assumption):
  PSd X G (.Assign [.Name y pos'] (.Call (.Name x p) (e::es) [] pos) pa) (sVo j fs kf):=by
 obtain ⟨⟨f,fd,F,b,kp,hm⟩,ln⟩:=c
 refine PS.wk (zAk hN hi hy (uP F W.room hg hm kp b .nil W.pass ha hdb he hpl) hs hf) fun E σ H q=>?_
 obtain ⟨ρ,Hi,R,h⟩:=q
 unfold sVo at h
 cases ef:fs ρ with
 | no=>rw [ef] at h;exact h.elim
 | err c=>rw [ef] at h;exact h.elim
 | ok ds=>
  rw [ef] at h
  have h':Fin X G Hi E ((noErr (kf ds)).bind fun r=>.ok (.nx (ρ.set j (voS r)))):=h
  have hno:kf ds≠.no:=fun z=>by rw [z] at h';exact h'
  refine ⟨ρ,Hi,R,?_⟩
  rw [ef]
  intro Hi1 H1 x1 vs rv
  have R1:=R.grow x1
  rw [List.append_nil]
  refine ⟨by rw [rv.length];exact ln ds hno,Hi1,ds,W.tb.ext R1.ext,R1.s,rv,?_⟩
  cases ek:kf ds with
  | no=>exact absurd ek hno
  | err c=>rw [ek] at h';exact h'.elim
  | ok t=>
   rw [ek] at h'
   cases t with
   | v d=>exact fun v Hi2 H2 x2 r=>h' _ Hi2 H2 (x1.i.trans x2.i) ((R1.grow x2).set r)
   | o c fs=>exact fun a C dx hs Hi2 H2 x2 g1 g2 g3=>h' _ Hi2 H2 (x1.i.trans x2.i) ((R1.grow x2).setI g1 g2 g3)
end
theorem zCq {Hi H Hi' H':Hp} {a:Addr} {o:HO} (e:Ext Hi H Hi' H') (hn:H a=none) (h1:∀ ps,H' a≠some (.tbl ps)) (h2:∀ o u,H' a≠some (.frz o u)) (hi:Hi' a=none):Ext Hi H Hi' (upd H' a o) where
 i:=e.i
 h:=⟨fun b o q=>by
   have n:b≠a:=fun z=>by rw [z,hn] at q;cases q
   rw [aJ n]
   exact e.h.k b o q,fun P t=>(e.h.t P t).put h1 h2⟩
 s:=fun b o q=>by
  have n:b≠a:=fun z=>by rw [z,hi] at q;cases q
  rw [aJ n]
  exact e.s b o q
 n:=e.n
theorem Rel.putI {K:PySem.W.Frag} {mg:Str->Option Value} {B Bi Hi H:Hp} {σ:St} {ρ:Rho} {a C dx:Addr} {hs:List (Str×V)} {o:HO} (R:Rel K mg B Bi Hi H σ ρ) (pl:ρ.all zGL=true) (hn:B a=none) (h:H a=some (.ins C dx hs)) (hi:Hi a=none):Rel K mg B Bi Hi (upd H a o) σ ρ where
 len:=R.len
 ext:=zCq R.ext hn (fun ps z=>by rw [h] at z;cases z) (fun o u z=>by rw [h] at z;cases z) hi
 slot:=fun i s e=>by
  have z:=R.slot i s e
  have v:=List.all_eq_true.mp pl s (List.mem_of_getElem? e)
  cases s with
  | un=>trivial
  | val d=>exact z
  | _=>cases v
 dist:=R.dist
def spI (K:PySem.W.Frag) (mg:Str->Option Value) (c:Str) (np:Nat) (kI:List D->Res (List (Str×D))):Sp:=fun vs H Q E=>vs.length=np+1/\∃ Bi us ds a C dx,vs=.ref a::us/\TB K mg Bi (nX H a)/\Same Bi H/\IsDs K Bi us ds/\H a=some (.ins C dx [])/\Bi a=none/\mg c=some (.ref C)/\match kI ds with
 | .ok fs=>∀ Hi' H' hs,Ext Bi (nX H a) Hi' H'->H' a=some (.ins C dx hs)->Hi' a=none->Flds K Hi' hs fs->Q .non H'
 | .err cc=>∀ Cc,mg cc=some Cc->∀ Hi' H',Ext Bi (nX H a) Hi' H'->E Cc none H'
 | .no=>False
section
variable {X:Cx} {G:Gx} {rest:List Stmt} {u:TS} {f:Ev}
def tLD (X:Cx) (G:Gx) (f:Ev) (u:TS):TS:=fun E σ H=>tD X G f σ H fun _ H'=>u E σ H'
def tLF (X:Cx) (G:Gx) (g:Str) (f:Ev) (u:TS):TS:=fun E σ H=>tD X G f σ H fun y H1=>∃ a C dx fs,σ[0]?=some (some (.ref a))/\H1 a=some (.ins C dx fs)/\Cls X.K C/\fW X.K C g/\fs.length < 1000/\u E σ (upd H1 a (.ins C dx (pU g y fs)))
theorem zEp {e:Expr} {pos:Pos} (he:PEd X G e f) (hr:PSs X rest u) (hs:swapsWith e none pos.line X.env=pure false:=by rfl):PSs X (.Expr e pos::rest) (tLD X G f u):=PSs.wk (gT (pJ he hs) hr) fun E σ H q=>q
theorem rK {o value:Expr} {g:Str} {pos pos':Pos} (ho:PE X o (rZ 0)) (hv:PEd X G value f) (hr:PSs X rest u) (hs:swapsWith value (some (.Attribute o g pos')) pos.line X.env=pure false:=by rfl):PSs X (.Assign [.Attribute o g pos'] value pos::rest) (tLF X G g f u):=PSs.wk (gT (zGh ho hv hs) hr) fun E σ H q=>by
 obtain ⟨ρ,Hi,R,ou⟩:=q
 refine ⟨ρ,Hi,R,ou.imp fun d Hi' H' e h v r=>?_⟩
 obtain ⟨a,C,dx,fs,h1,h2,h3,h4,h5,h6⟩:=h v r
 exact ⟨.ref a,h1,a,C,dx,fs,rfl,h2,h3,h4,h5,h6⟩
def zJb (X:Cx) (G:Gx):List (Str×Ev)->TS
 | []=>zHi
 | (g,f)::r=>tLF X G g f (zJb X G r)
end
theorem zCt {H:Hp} {a:Addr} {o:HO} (h:H a=none):nX (upd H a o) a=H:=by
 funext b
 by_cases z:b=a
 ·rw [z,mF,h]
 ·rw [zBK z,aJ z]
theorem yM {K:PySem.W.Frag} {mg:Str->Option Value} {Bi H:Hp} {N:List Str} {us:List V} {ds:List D} {a:Addr} (s:Same Bi H) (h:IsDs K Bi us ds) (hN:ds.length < N.length):Rel K mg (nX H a) Bi Bi H (L2.start N (.ref a::us)) (.un::L3.start (N.length - 1) ds) where
 len:=by
  unfold L2.start L3.start
  simp only [List.length_append,List.length_map,List.length_replicate,List.length_cons,h.length]
  omega
 ext:=⟨Same.refl _,oZ H a,s,fun b e q=>absurd e q⟩
 slot:=fun i sl e=>by
  cases i with
  | zero=>cases e;trivial
  | succ i=>
   rw [List.getElem?_cons_succ] at e
   unfold L3.start at e
   have hl:=h.length
   by_cases hi':i < ds.length
   ·rw [List.getElem?_append_left (by rw [List.length_map];exact hi'),List.getElem?_map] at e
    obtain ⟨d,hd⟩:∃ d,ds[i]?=some d:=⟨_,List.getElem?_eq_getElem hi'⟩
    rw [hd] at e;cases e
    obtain ⟨v,hv,r⟩:=h.at hd
    refine ⟨v,?_,r⟩
    unfold L2.start
    rw [List.getElem?_append_left (by rw [List.length_map,List.length_cons];omega),List.getElem?_map,List.getElem?_cons_succ,hv]
    rfl
   ·rw [List.getElem?_append_right (by rw [List.length_map];omega),List.getElem?_replicate] at e
    split at e
    ·cases e;trivial
    ·cases e
 dist:=fun i j b fs gs e1 e2 _ _=>by
  have v:=List.all_eq_true.mp (show (Sl.un::L3.start (N.length - 1) ds).all zGL=true by rw [List.all_cons,vI];rfl) _ (List.mem_of_getElem? e1)
  cases v
section
variable {P:Program} {w:World} {K:PySem.W.Frag} {mg:Str->Option Value} {base:Heap} {N ps:List Str} {x q c:Str} {st:Stmt} {f C:Addr} {fd:FuncData} {k np:Nat} {e0:Ev} {fs:List (Str×Ev)}
theorem zDF {X:Cx} {G:Gx} {a dx:Addr} {σ:St} {ρ:Rho} {E:Ends} (hG:G.B a=none) (cl:Cls X.K C) (h0:σ[0]?=some (some (.ref a))) (pl:ρ.all zGL=true):∀ (fs:List (Str×Ev)) (l dn:List (Str×D)) (Hi H:Hp) (hs:List (Str×V)),(∀ f∈fs.map (·.1),fW X.K C f)->uF fs ρ=.ok l->fG X G Hi H σ ρ->H a=some (.ins C dx hs)->Hi a=none->Flds X.K Hi hs dn->dn.length+fs.length<=900->((dn++l).map (·.1)).Nodup->
  (∀ Hi' H' hs',Ext G.Bi G.B Hi' H'->H' a=some (.ins C dx hs')->Hi' a=none->Flds X.K Hi' hs' (dn++l)->E.nx σ H')->zJb X G fs E σ H
 | [],l,dn,Hi,H,hs,_,hl,R,ha,hi,hf,_,_,k=>by
  cases hl
  rw [List.append_nil] at k
  exact k Hi H hs R.ext ha hi hf
 | (g,e)::r,l,dn,Hi,H,hs,na,hl,R,ha,hi,hf,hn,nd,k=>by
  obtain ⟨d,l',e1,e2,rfl⟩:=sE hl
  refine ⟨ρ,Hi,R,?_⟩
  rw [e1]
  intro Hi1 H1 x1 v rv
  obtain ⟨a1,b1⟩:=x1.out ha hi
  have hf1:=hf.mono x1.i
  have nl:dn.lookup g=none:=by
   cases z:dn.lookup g with
   | none=>rfl
   | some d'=>
    exfalso
    have m:=jX z
    rw [List.map_append,List.map_cons] at nd
    exact (List.nodup_append.mp nd).2.2 g (List.mem_map.mpr ⟨_,m,rfl⟩) g (List.mem_cons_self ..) rfl
  rw [List.length_cons] at hn
  refine ⟨a,C,dx,hs,h0,a1,cl,na g (List.mem_cons_self ..),by rw [hf.len];omega,?_⟩
  refine zDF hG cl h0 pl r l' (dn++[(g,d)]) Hi1 _ (pU g v hs) (fun f hf=>na f (List.mem_cons_of_mem _ hf)) e2 ((R.grow x1).putI pl hG a1 b1) aI b1 (hf1.snoc rv nl) (by rw [List.length_append];show dn.length+1+r.length<=900;omega) (by rw [List.append_assoc];exact nd) fun Hi' H' hs' y1 y2 y3 y4=>k Hi' H' hs' y1 y2 y3 (by rw [List.append_assoc] at y4;exact y4)
theorem zFf (F:FnM K x q st ps f fd) (S:FnScope N ps (aE st)) (hp:ps.length=np+1) (hN:np < N.length) (hf:fs.length<=900/\(fs.map (·.1)).Nodup) (hC:mg c=some (.ref C)) (cl:Cls K C) (na:∀ f∈fs.map (·.1),fW K C f)
  (h:∀ (cdv:Value) (A:Around) (outer:List Env) (s:Shared) (H:Hp) (E:XK) (G:Gx),Good (BX P w K mg base N q st f cdv A outer s H E) G k->PSs (BX P w K mg base N q st f cdv A outer s H E) (bL st) (tLD (BX P w K mg base N q st f cdv A outer s H E) G e0 (zJb (BX P w K mg base N q st f cdv A outer s H E) G fs))):
  FnOk P w K mg base (CX1 P w) (k+1) f fd ps (spI K mg c np (yL np N.length e0 fs)):=by
 obtain ⟨oc,od,kV,doc,pm,an,cdv,ct,osl,rfl,lk,hcd⟩:=F.fn.ex
 refine zBA lk hcd S (fun vs H Q E h=>by rw [hp];exact h.1) fun A outer s H vs Q E hr hsp=>?_
 obtain ⟨hl,Bi,us,ds,a,C',dx,rfl,tb,sm,hd,ha,hi,hC',hq⟩:=hsp
 have eC:C'=C:=by rw [hC] at hC';cases hC';rfl
 subst eC
 have hg0:=fun tb=>lR (P:=P) (w:=w) (K:=K) (mg:=mg) (base:=base) (N:=N) (outer:=outer) (H:=nX H a) (Bi:=Bi) (E:=E) hr tb
 have hg:Good (BX P w K mg base N q st f cdv A outer s H E) ⟨nX H a,Bi,fun c H'=>∀ C,mg c=some C->E C none H'⟩ k:=⟨rfl,hr,zHm fun c H' q=>by
  obtain ⟨c',h1,h2⟩:=q
  exact h2 c h1,PassesOwn.leaving,tb⟩
 have hlen:ds.length=np:=by rw [<-hd.length];exact Nat.succ.inj hl
 have R0:Rel K mg (nX H a) Bi Bi H (L2.start N (.ref a::us)) (.un::L3.start (N.length - 1) ds):=yM sm hd (by omega)
 refine ⟨_,h cdv A outer s H E _ hg,.un::L3.start (N.length - 1) ds,Bi,R0,?_⟩
 unfold yL at hq
 rw [if_pos hlen] at hq
 have back:Ext Bi (nX H a) Bi H:=⟨Same.refl _,oZ H a,sm,fun b e q=>absurd e q⟩
 cases z0:e0 (.un::L3.start (N.length - 1) ds) with
 | no=>rw [z0] at hq;exact hq.elim
 | err cc=>rw [z0] at hq;exact fun Hi' H' e C hC=>hq C hC Hi' H' (back.trans e)
 | ok d0=>
  rw [z0] at hq
  intro Hi1 H1 x1 v rv
  obtain ⟨a1,b1⟩:=x1.out ha hi
  have hq:match uF fs (.un::L3.start (N.length - 1) ds) with
   | .ok fs=>∀ Hi' H' hs,Ext Bi (nX H a) Hi' H'->H' a=some (.ins C' dx hs)->Hi' a=none->Flds K Hi' hs fs->Q .non H'
   | .err cc=>∀ Cc,mg cc=some Cc->∀ Hi' H',Ext Bi (nX H a) Hi' H'->E Cc none H'
   | .no=>False:=hq
  cases z1:uF fs (.un::L3.start (N.length - 1) ds) with
  | no=>rw [z1] at hq;exact hq.elim
  | err cc=>exact absurd z1 zBI
  | ok l=>
   rw [z1] at hq
   have names:∀ {fs:List (Str×Ev)} {ρ:Rho} {l:List (Str×D)},uF fs ρ=.ok l->l.map (·.1)=fs.map (·.1):=by
    intro fs ρ
    induction fs with
    | nil=>intro l h;cases h;rfl
    | cons g r ih=>
     obtain ⟨g,e⟩:=g
     intro l h
     obtain ⟨d,l',_,e2,rfl⟩:=sE h
     rw [List.map_cons,List.map_cons,ih e2]
   exact zDF (X:=BX P w K mg base N q st f cdv A outer s H E) (G:=⟨nX H a,Bi,fun c H'=>∀ C,mg c=some C->E C none H'⟩) mF cl rfl (show (Sl.un::L3.start (N.length - 1) ds).all zGL=true by rw [List.all_cons,vI];rfl) fs l [] Hi1 H1 [] na z1 (R0.grow x1) a1 b1 .nil (by rw [List.length_nil];omega) (by rw [List.nil_append,names z1];exact hf.2) fun Hi' H' hs' y1 y2 y3 y4=>hq Hi' H' hs' y1 y2 y3 y4
end
end L3
namespace L3
open PySem PySem.Spec PyProof.Rows L2 PySem.W
unseal PEd PEf PTd PWd PAd PSd bZ POd PGd cX PId PSx dS PTs PCd PCf
def jQ:Stmt->List Stmt
 | .ClassDef _ _ _ b _ _ _ _ _ _ _=>b
 | _=>[]
structure CanI (P:Program) (w:World) (K:PySem.W.Frag) (mg:Str->Option Value) (base:Heap) (k:Nat) (c:Str) (np:Nat) (kI:List D->Res (List (Str×D))):Prop where
 ex:∃ f fd C ps,FnOk P w K mg base (CX1 P w) k f fd ps (spI K mg c np kI)/\jS K fd ps []/\mg c=some (.ref C)/\Mk K C f/\ps.length=np+1
 ln:∀ ds,kI ds≠.no->ds.length=np
theorem CanI.mono {P:Program} {w:World} {K:PySem.W.Frag} {mg:Str->Option Value} {base:Heap} {j k np:Nat} {c:Str} {kI:List D->Res (List (Str×D))} (h:CanI P w K mg base j c np kI) (l:j<=k):CanI P w K mg base k c np kI:=by
 obtain ⟨⟨f,fd,C,ps,F,r⟩,ln⟩:=h
 exact ⟨⟨f,fd,C,ps,F.mono l,r⟩,ln⟩
section
variable {X:Cx} {G:Gx} {e:Expr} {es:List Expr} {pos p:Pos} {fs:Fv} {k i np:Nat} {x:Str} {kI:List D->Res (List (Str×D))}
theorem zHj {pins:List (Addr×Obj)} {s:Shared} {σ:St} {H:Hp} {ρ:Rho} {Hi:Hp} {Et:Value->Shared->Prop} {Q:VK} {ds:List D} (tb:TB X.K X.mg G.Bi G.B) (c:CanI X.prog X.w X.K X.mg X.base k x np kI) (hr:Room (k+1) X.A) (hg:Gl X x) (ha:PAd X.nox (G0 G) (e::es) fs)
  (I:Inv X pins σ H s) (R:fG X G Hi H σ ρ) (hds:fs ρ=.ok ds) (hm:kI ds≠.no) (hq:∀ l a C dx hs Hi' H',kI ds=.ok l->Ext Hi H Hi' H'->Hi' a=some (.ins C dx hs)->X.mg x=some (.ref C)->Flds X.K Hi' hs l->Q (.ref a) H') (he:∀ c ev s',kI ds=.err c->zFS X pins σ Hi H c ev s'->Et ev s')
  (hdb:(x==("__debug__" : Str))=false) (hst:starEach (e::es) X.env=(false,eval e X.env)::starEach es X.env) (hpl:(backTo pos (starEach es X.env)).any (·.1)=false):
  wpAny (model X.prog X.w) X.A (eval (.Call (.Name x p) (e::es) [] pos) X.env) (EP X pins σ Q) Et s:=by
 obtain ⟨⟨f,fd,C,ps,F,b,hC,M,hp⟩,ln⟩:=c
 refine wpAny_Call_Name_kw (kC I hg hC ?_ hdb)
 have hA:=ha pos pins s σ H (fun vs H1=>∃ Hi1,Ext Hi H Hi1 H1/\IsDs X.K Hi1 vs ds) (I.wish _) ⟨ρ,Hi,R,by rw [hds];exact fun Hi1 H1 e1 vs r=>⟨Hi1,e1,r⟩⟩
 refine PySem.W.callWith_K (h₀:=X.base) I.ok.mod.kin M.kp (wpAny_mono hA (fun us s1 q=>?_) fun _ _ z=>False.elim z) hst hpl
 obtain ⟨vs,H1,I1',r,Hi1,e1,hd⟩:=q
 have I1:Inv X pins σ H1 s1:=I1'.unwish
 refine ⟨I1.kIn,?_⟩
 have I2:=Inv.made (C:=C) I1
 have fx:H1 (s1.heap.objs.size+1)=none:=I1.hok.fresh (Nat.le_succ _)
 have fd':H1 s1.heap.objs.size=none:=I1.hok.fresh (Nat.le_refl _)
 have ne:s1.heap.objs.size≠s1.heap.objs.size+1:=Nat.ne_of_lt (Nat.lt_succ_self _)
 have r2:cG (V.ref (s1.heap.objs.size+1)::vs) (Value.ref (s1.heap.objs.size+1)::us):=.cons rfl r
 have hl:(Value.ref (s1.heap.objs.size+1)::us).length=ps.length:=by
  rw [hp,List.length_cons,<-r.length,hd.length,ln ds hm]
 have x2:Ext Hi1 H1 Hi1 (upd H1 s1.heap.objs.size (.own (s1.heap.objs.size+1))):=Ext.newF e1.s fd'
 have fx2:upd H1 s1.heap.objs.size (.own (s1.heap.objs.size+1)) (s1.heap.objs.size+1)=none:=by rw [aJ (Ne.symm ne)];exact fx
 have hd2:nX (upd (upd H1 s1.heap.objs.size (.own (s1.heap.objs.size+1))) (s1.heap.objs.size+1) (.ins C s1.heap.objs.size [])) (s1.heap.objs.size+1)=upd H1 s1.heap.objs.size (.own (s1.heap.objs.size+1)):=zCt fx2
 have x3:Ext Hi1 (upd H1 s1.heap.objs.size (.own (s1.heap.objs.size+1))) Hi1 (upd (upd H1 s1.heap.objs.size (.own (s1.heap.objs.size+1))) (s1.heap.objs.size+1) (.ins C s1.heap.objs.size [])):=Ext.newF x2.s fx2
 have hi1:Hi1 (s1.heap.objs.size+1)=none:=e1.s.none fx
 have tb1:TB X.K X.mg Hi1 (upd H1 s1.heap.objs.size (.own (s1.heap.objs.size+1))):=tb.ext ((R.ext.trans e1).trans x2)
 refine wpAny_call (zCv (f:=f) I1.kIn M.makes M.init (beq_iff_eq.mp M.fn) (codeAny_mono (F.run _ X.stack _ _ ⟨Value.ref (s1.heap.objs.size+1)::us,[]⟩ (Value.ref (s1.heap.objs.size+1)::us) (V.ref (s1.heap.objs.size+1)::vs) (fun v H2=>v=.non/\∀ _:True,∃ l hs Hi',kI ds=.ok l/\Ext Hi1 (upd H1 s1.heap.objs.size (.own (s1.heap.objs.size+1))) Hi' H2/\H2 (s1.heap.objs.size+1)=some (.ins C s1.heap.objs.size hs)/\Hi' (s1.heap.objs.size+1)=none/\Flds X.K Hi' hs l) (fun cls _ H2=>∃ c Hi2,X.mg c=some cls/\kI ds=.err c/\Ext Hi1 (upd H1 s1.heap.objs.size (.own (s1.heap.objs.size+1))) Hi2 H2) (hr.make C us [])
  (I2.env0.make C us []) (by have:=b _ (Value.ref (s1.heap.objs.size+1)::us) I2.kIn (by rw [List.append_nil];exact hl);rwa [List.append_nil] at this) r2 ?_) fun res s' hq'=>?_))
 ·refine ⟨by rw [List.length_cons,hd.length,ln ds hm],Hi1,vs,ds,(s1.heap.objs.size+1),C,s1.heap.objs.size,rfl,by rw [hd2];exact tb1,x3.s,hd,aI,hi1,hC,?_⟩
  rw [hd2]
  cases z:kI ds with
  | no=>exact absurd z hm
  | err c'=>exact fun Cc hCc Hi2 H2 y=>⟨c',Hi2,hCc,rfl,y⟩
  | ok l=>exact fun Hi2 H2 hs y1 y2 y3 y4=>⟨rfl,fun _=>⟨l,hs,Hi2,rfl,y1,y2,y3,y4⟩⟩
 ·cases res with
  | error ev=>
   obtain ⟨ea,cls,H',rfl,Fl,c',Hi2,hc,hmc,y⟩:=hq'
   exact he c' _ s' hmc ⟨_,_,ea,cls,Hi2,H',rfl,I2,hc,Fl,(e1.trans x2).trans y,((e1.trans x2).trans x3).h⟩
  | ok fl=>
   cases fl with
   | ret u=>
    obtain ⟨v,H',I3,rv,ev,q3⟩:=I2.after hq'
    subst ev
    obtain ⟨l,hs,Hi',z,y1,y2,y3,y4⟩:=q3 trivial
    have fin:Ext Hi H (upd Hi' (s1.heap.objs.size+1) (.ins C s1.heap.objs.size hs)) H':=((e1.trans x2).trans y1).hold (e1.h.none fx) y2 y3
    exact ⟨rv,⟨V.ref (s1.heap.objs.size+1),H',I3,rfl,hq l (s1.heap.objs.size+1) C s1.heap.objs.size hs _ H' z fin aI hC (y4.mono (bA y3 _))⟩⟩
   | next=>exact False.elim hq'
   | brk=>exact False.elim hq'
   | cont=>exact False.elim hq'
theorem zHR {y:Str} {py pos2:Pos} (hN:X.N.Nodup) (hi:X.N[i]?=some y) (hy:Loc X.env.scope y) (W:Good X G (k+1)) (c:CanI X.prog X.w X.K X.mg X.base k x np kI) (hg:Gl X x) (ha:PAd X.nox (G0 G) (e::es) fs)
  (hdb:(x==("__debug__" : Str))=false:=by decide) (hst:starEach (e::es) X.env=(false,eval e X.env)::starEach es X.env:=by rfl) (hpl:(backTo pos (starEach es X.env)).any (·.1)=false:=by rfl)
  (hs2:swapsWith (.Call (.Name x p) (e::es) [] pos) (some (.Name y py)) pos2.line X.env=pure false:=by rfl) (hfn:X.fn y=true∨X.env.scope.names.lookup y=some .local:=by first | exact .inl rfl | exact .inr rfl | assumption):
  PSx X G (.Assign [.Name y py] (.Call (.Name x p) (e::es) [] pos) pos2) (zCl i x kI fs):=fun pins s σ H E ρ Hi Et I R hn hf he=>by
 unfold zCl at hn hf he
 obtain ⟨ds,hds,heq⟩:=pS hn
 rw [heq] at hn hf he
 have hm:kI ds≠.no:=fun z=>by rw [z] at hn;exact hn rfl
 refine wpAny_Assign_Name (wpAny_mono (zHj (Q:=fun v H'=>E.nx (σ.set i (some v)) H') W.tb c W.room hg ha I R hds hm (fun l a C dx hs Hi' H' z e1 h1 h2 h3=>?_) (fun c' ev s' z q=>he c' ev s' (by rw [z];rfl) q) hdb hst hpl) (fun v s1 q=>?_) fun _ _ z=>z) hs2
 ·rw [z] at hf
  exact (show Fin X G Hi E (.ok (.nx (ρ.set i (.ins x l)))) from hf) _ Hi' H' e1.i ((R.grow e1).setI h1 h2 h3)
 ·obtain ⟨v',H1,I1,r1,q1⟩:=q
  exact gK I1 hN hi hy r1 (fun s2 I2=>⟨_,H1,I2,q1⟩) hfn
end
end L3
theorem PySem.W.Fast.tw2269548141458303955:True:=trivial
theorem PySem.W.Fast.tw9493114500243808437:True:=trivial
theorem PySem.W.Fast.tw12026978162638797273:True:=trivial
theorem PySem.W.Fast.tw15672421627317217730:True:=trivial
theorem PySem.W.Fast.tw6439471101086354864:True:=trivial
theorem PySem.W.Fast.tw7359785928472327264:True:=trivial
theorem PySem.W.Fast.tw11755771544432219540:True:=trivial
theorem PySem.W.Fast.tw17326299235067583158:True:=trivial
theorem PySem.W.Fast.tw18125770971867159185:True:=trivial
theorem PySem.W.Fast.tw9116679342297333484:True:=trivial
theorem PySem.W.Fast.tw5406738723926631088:True:=trivial
theorem PySem.W.Fast.tw13254456685704244943:True:=trivial
theorem PySem.W.Fast.tw8031458179070222422:True:=trivial
theorem PySem.W.Fast.tw12761596361251882628:True:=trivial
theorem PySem.W.Fast.tw13719116206379577400:True:=trivial
theorem PySem.W.Fast.tw12505995897705055128:True:=trivial
theorem PySem.W.Fast.tw13811180959774404359:True:=trivial
theorem PySem.W.Fast.tw3799443625640697575:True:=trivial
theorem PySem.W.Fast.tw10989352979505838688:True:=trivial
theorem PySem.W.Fast.tw1339996652945759416:True:=trivial
theorem PySem.W.Fast.tw8391885520660613852:True:=trivial
theorem PySem.W.Fast.tw6735005336361731879:True:=trivial
theorem PySem.W.Fast.tw15442864870108341841:True:=trivial
theorem PySem.W.Fast.tw10944302148695908599:True:=trivial
theorem PySem.W.Fast.tw8153064591259605858:True:=trivial
theorem PySem.W.Fast.tw8565466458313641294:True:=trivial
theorem PySem.W.Fast.tw10509032897987650007:True:=trivial
theorem PySem.W.Fast.tw15561964896327797670:True:=trivial
theorem PySem.W.Fast.tw9299462302182219794:True:=trivial
theorem PySem.W.Fast.tw9580804195909354502:True:=trivial
theorem PySem.W.Fast.tw14575232633565657223:True:=trivial
theorem PySem.W.Fast.tw5133998689723904429:True:=trivial
theorem PySem.W.Fast.tw12014781224223015092:True:=trivial
theorem PySem.W.Fast.tw12150931473285591905:True:=trivial
theorem PySem.W.Fast.tw13279119587798373028:True:=trivial
theorem PySem.W.Fast.tw4877409407013118147:True:=trivial
theorem PySem.W.Fast.tw10024676813879104878:True:=trivial
theorem PySem.W.Fast.tw17383715545513217895:True:=trivial
theorem PySem.W.Fast.tw8876725013139479083:True:=trivial
theorem PySem.W.Fast.tw15807767769258261044:True:=trivial
theorem PySem.W.Fast.tw3297407564465280370:True:=trivial
theorem PySem.W.Fast.tw1995375861615485690:True:=trivial
theorem PySem.W.Fast.tw11908781264746057364:True:=trivial
theorem PySem.W.Fast.tw275485585464388180:True:=trivial
theorem PySem.W.Fast.tw6980035680688758919:True:=trivial
theorem PySem.W.Fast.tw17301061398364418526:True:=trivial
theorem PySem.W.Fast.tw11859597680654206391:True:=trivial
theorem PySem.W.Fast.tw6906447819900349917:True:=trivial
theorem PySem.W.Fast.tw5191674852813594937:True:=trivial
theorem PySem.W.Fast.tw216884402624564138:True:=trivial
theorem PySem.W.Fast.tw14389115330945632291:True:=trivial
theorem PySem.W.Fast.tw13125613833631529441:True:=trivial
theorem PySem.W.Fast.tw4892533651140973422:True:=trivial
theorem PySem.W.Fast.tw10779389538562909521:True:=trivial
theorem PySem.W.Fast.tw8503685752172928663:True:=trivial
theorem PySem.W.Fast.tw1052759462127137654:True:=trivial
theorem PySem.W.Fast.tw18151884396638858664:True:=trivial
theorem PySem.W.Fast.tw10153087186043959512:True:=trivial
theorem PySem.W.Fast.tw12095410883231741287:True:=trivial
theorem PySem.W.Fast.tw13027482581825447223:True:=trivial
theorem PySem.W.Fast.tw10201024431393946378:True:=trivial
theorem PySem.W.Fast.tw9961103764429142297:True:=trivial
theorem PySem.W.Fast.tw12125365573483726992:True:=trivial
theorem PySem.W.Fast.tw12996433908163071433:True:=trivial
theorem PySem.W.Fast.tw11968737213398675151:True:=trivial
theorem PySem.W.Fast.tw13647139151172899804:True:=trivial
theorem PySem.W.Fast.tw5893065792548220880:True:=trivial
theorem PySem.W.Fast.tw5338357667507634599:True:=trivial
theorem PySem.W.Fast.tw4154526496175245078:True:=trivial
theorem PySem.W.Fast.tw13253678613278981751:True:=trivial
theorem PySem.W.Fast.tw1872348277937274094:True:=trivial
theorem PySem.W.Fast.tw15079394353454086252:True:=trivial
theorem PySem.W.Fast.tw6770624097929149241:True:=trivial
theorem PySem.W.Fast.tw13406876487660121779:True:=trivial
theorem PySem.W.Fast.tw2184040348627060631:True:=trivial
theorem PySem.W.Fast.tw10556706246027647006:True:=trivial
theorem PySem.W.Fast.tw5790641589117047819:True:=trivial
theorem PySem.W.Fast.tw13154353397371616164:True:=trivial
theorem PySem.W.Fast.tw1379685691169678098:True:=trivial
theorem PySem.W.Fast.tw18353578792883614636:True:=trivial
theorem PySem.W.Fast.tw3830709014634970810:True:=trivial
theorem PySem.W.Fast.tw15092972675397740864:True:=trivial
theorem PySem.W.Fast.tw13718404710111261226:True:=trivial
theorem PySem.W.Fast.tw9762126851622427352:True:=trivial
theorem PySem.W.Fast.tw17050281143678509464:True:=trivial
theorem PySem.W.Fast.tw9901643250278070191:True:=trivial
theorem PySem.W.Fast.tw14429314556894025591:True:=trivial
theorem PySem.W.Fast.tw12391162273507408333:True:=trivial
theorem PySem.W.Fast.tw13548233379588427047:True:=trivial
theorem PySem.W.Fast.tw13768779850907785952:True:=trivial
theorem PySem.W.Fast.tw14101984229355859113:True:=trivial
theorem PySem.W.Fast.tw15453510666683247304:True:=trivial
theorem PySem.W.Fast.tw165235070192038823:True:=trivial
theorem PySem.W.Fast.tw12007484268068686643:True:=trivial
theorem PySem.W.Fast.tw7551513766555599930:True:=trivial
theorem PySem.W.Fast.tw495187066228163732:True:=trivial
theorem PySem.W.Fast.tw15001420306184135392:True:=trivial
theorem PySem.W.Fast.tw14080318498592869272:True:=trivial
theorem PySem.W.Fast.tw6771781889814790985:True:=trivial
theorem PySem.W.Fast.tw4218668582860788298:True:=trivial
theorem PySem.W.Fast.tw1996639962169557281:True:=trivial
theorem PySem.W.Fast.tw5103326507099084108:True:=trivial
theorem PySem.W.Fast.tw2538531488780664680:True:=trivial
theorem PySem.W.Fast.tw11489328133387508151:True:=trivial
theorem PySem.W.Fast.tw15081417362881116275:True:=trivial
theorem PySem.W.Fast.tw9683226357662667247:True:=trivial
theorem PySem.W.Fast.tw13336934978306512505:True:=trivial
theorem PySem.W.Fast.tw6039453455965398459:True:=trivial
theorem PySem.W.Fast.tw940252377270953612:True:=trivial
theorem PySem.W.Fast.tw6490773698966377074:True:=trivial
theorem PySem.W.Fast.tw11740117764023504113:True:=trivial
theorem PySem.W.Fast.tw6002272346970544134:True:=trivial
theorem PySem.W.Fast.tw3457746913108245458:True:=trivial
theorem PySem.W.Fast.tw9769049330617932996:True:=trivial
theorem PySem.W.Fast.tw9586269880117830949:True:=trivial
theorem PySem.W.Fast.tw5876253663499493340:True:=trivial
theorem PySem.W.Fast.tw12999584435006481254:True:=trivial
theorem PySem.W.Fast.tw11076391256905994403:True:=trivial
theorem PySem.W.Fast.tw5743420627453476240:True:=trivial
theorem PySem.W.Fast.tw6618899257228062008:True:=trivial
theorem PySem.W.Fast.tw13824403219362237601:True:=trivial
theorem PySem.W.Fast.tw5640851938651263628:True:=trivial
theorem PySem.W.Fast.tw1973464611502079128:True:=trivial
theorem PySem.W.Fast.tw17521180483443675990:True:=trivial
theorem PySem.W.Fast.tw13710418110183863468:True:=trivial
theorem PySem.W.Fast.tw649635680387365377:True:=trivial
theorem PySem.W.Fast.tw2147056172900138989:True:=trivial
theorem PySem.W.Fast.tw8800149640499470644:True:=trivial
theorem PySem.W.Fast.tw10297530326706559826:True:=trivial
theorem PySem.W.Fast.tw14430077994805964202:True:=trivial
theorem PySem.W.Fast.tw15042024392570134730:True:=trivial
theorem PySem.W.Fast.tw6692691592416192650:True:=trivial
theorem PySem.W.Fast.tw6565520679429744748:True:=trivial
theorem PySem.W.Fast.tw8422296329288031909:True:=trivial
theorem PySem.W.Fast.tw2887716386684072205:True:=trivial
theorem PySem.W.Fast.tw13667582699132628064:True:=trivial
theorem PySem.W.Fast.tw5799366038105134932:True:=trivial
theorem PySem.W.Fast.tw17468770344658840376:True:=trivial
theorem PySem.W.Fast.tw12474607690011568352:True:=trivial
theorem PySem.W.Fast.tw4853756783823213067:True:=trivial
theorem PySem.W.Fast.tw3696760926468973552:True:=trivial
theorem PySem.W.Fast.tw14878671615954564531:True:=trivial
theorem PySem.W.Fast.tw14212502614454412975:True:=trivial
theorem PySem.W.Fast.tw1570804042388977809:True:=trivial
theorem PySem.W.Fast.tw4138155623060803985:True:=trivial
theorem PySem.W.Fast.tw17032910064655595319:True:=trivial
theorem PySem.W.Fast.tw6781238165869361998:True:=trivial
theorem PySem.W.Fast.tw6937001739473248384:True:=trivial
theorem PySem.W.Fast.tw773115922057935231:True:=trivial
theorem PySem.W.Fast.tw17902781909201116865:True:=trivial
theorem PySem.W.Fast.tw6748920562448499699:True:=trivial
theorem PySem.W.Fast.tw18107118943182782641:True:=trivial
theorem PySem.W.Fast.tw6001185284371977302:True:=trivial
theorem PySem.W.Fast.tw18215608431909368725:True:=trivial
theorem PySem.W.Fast.tw12850144861024007592:True:=trivial
theorem PySem.W.Fast.tw15208070798980169636:True:=trivial
theorem PySem.W.Fast.tw17007598396649696848:True:=trivial
theorem PySem.W.Fast.tw1109987842749022920:True:=trivial
theorem PySem.W.Fast.tw15740908312888751244:True:=trivial
theorem PySem.W.Fast.tw979898342644355775:True:=trivial
theorem PySem.W.Fast.tw12400440792364587592:True:=trivial
theorem PySem.W.Fast.tw12580655461556875123:True:=trivial
theorem PySem.W.Fast.tw18438285681111915580:True:=trivial
theorem PySem.W.Fast.tw10103362980280584583:True:=trivial
theorem PySem.W.Fast.tw14537097567150776317:True:=trivial
theorem PySem.W.Fast.tw5012688864542345481:True:=trivial
theorem PySem.W.Fast.tw11736742838788790598:True:=trivial
theorem PySem.W.Fast.tw15794705943148579896:True:=trivial
theorem PySem.W.Fast.tw17197605506103610312:True:=trivial
theorem PySem.W.Fast.tw4252846193765634502:True:=trivial
theorem PySem.W.Fast.tw3135003733710529796:True:=trivial
theorem PySem.W.Fast.tw5026626921259238668:True:=trivial
theorem PySem.W.Fast.tw6100260234043208414:True:=trivial
theorem PySem.W.Fast.tw6279057559440429731:True:=trivial
theorem PySem.W.Fast.tw5122665768034419084:True:=trivial
theorem PySem.W.Fast.tw11140857700122084897:True:=trivial
theorem PySem.W.Fast.tw12377186081121369164:True:=trivial
theorem PySem.W.Fast.tw2085882179977573342:True:=trivial
theorem PySem.W.Fast.tw758600342256468938:True:=trivial
theorem PySem.W.Fast.tw5790133009985728116:True:=trivial
theorem PySem.W.Fast.tw13261047633631276921:True:=trivial
theorem PySem.W.Fast.tw10764134303741912055:True:=trivial
theorem PySem.W.Fast.tw9789806751531366588:True:=trivial
theorem PySem.W.Fast.tw8261926932537907923:True:=trivial
theorem PySem.W.Fast.tw4199810911041627326:True:=trivial
theorem PySem.W.Fast.tw5238302850227786753:True:=trivial
theorem PySem.W.Fast.tw6879995565259304389:True:=trivial
theorem PySem.W.Fast.tw7400720358832703575:True:=trivial
theorem PySem.W.Fast.tw13743475308810373721:True:=trivial
theorem PySem.W.Fast.tw897559478427955367:True:=trivial
theorem PySem.W.Fast.tw10304418243112163315:True:=trivial
theorem PySem.W.Fast.tw11146199332978521194:True:=trivial
theorem PySem.W.Fast.tw8319670592257090479:True:=trivial
theorem PySem.W.Fast.tw7999842432239573759:True:=trivial
theorem PySem.W.Fast.tw8540037063608769488:True:=trivial
theorem PySem.W.Fast.tw7036085425102747414:True:=trivial
theorem PySem.W.Fast.tw9793262457590196717:True:=trivial
theorem PySem.W.Fast.tw5757503124574609958:True:=trivial
theorem PySem.W.Fast.tw6693896669326216001:True:=trivial
theorem PySem.W.Fast.tw1513702511181306316:True:=trivial
theorem PySem.W.Fast.tw11870648483608563239:True:=trivial
theorem PySem.W.Fast.tw12651615425354605310:True:=trivial
theorem PySem.W.Fast.tw18077556886507529970:True:=trivial
theorem PySem.W.Fast.tw5875378697401075504:True:=trivial
theorem PySem.W.Fast.tw10201012650433638489:True:=trivial
theorem PySem.W.Fast.tw5385126331024767983:True:=trivial
theorem PySem.W.Fast.tw13570611844505852102:True:=trivial
theorem PySem.W.Fast.tw9577037781876874945:True:=trivial
theorem PySem.W.Fast.tw17443837736243183013:True:=trivial
theorem PySem.W.Fast.tw4755817268481632759:True:=trivial
theorem PySem.W.Fast.tw1358181532332524318:True:=trivial
theorem PySem.W.Fast.tw7647100025804479316:True:=trivial
theorem PySem.W.Fast.tw5539738959423630934:True:=trivial
theorem PySem.W.Fast.tw17217176499877320550:True:=trivial
theorem PySem.W.Fast.tw13941126353840676423:True:=trivial
theorem PySem.W.Fast.tw2229786637179179592:True:=trivial
theorem PySem.W.Fast.tw196475379083389797:True:=trivial
theorem PySem.W.Fast.tw9808772927007845662:True:=trivial
theorem PySem.W.Fast.tw11709228304450188562:True:=trivial
theorem PySem.W.Fast.tw17594146677110705732:True:=trivial
theorem PySem.W.Fast.tw202577227567960226:True:=trivial
theorem PySem.W.Fast.tw2794635748625409271:True:=trivial
theorem PySem.W.Fast.tw3879909206799793555:True:=trivial
theorem PySem.W.Fast.tw15053551648594857894:True:=trivial
theorem PySem.W.Fast.tw10302630757122265721:True:=trivial
theorem PySem.W.Fast.tw4582807998384568750:True:=trivial
theorem PySem.W.Fast.tw8108651347103615974:True:=trivial
theorem PySem.W.Fast.tw1054163778656463013:True:=trivial
theorem PySem.W.Fast.tw9739260454172375586:True:=trivial
theorem PySem.W.Fast.tw4557616470333604186:True:=trivial
theorem PySem.W.Fast.tw16789272782176775565:True:=trivial
theorem PySem.W.Fast.tw12011043213094414141:True:=trivial
theorem PySem.W.Fast.tw2311918135645568914:True:=trivial
theorem PySem.W.Fast.tw1965902351110850214:True:=trivial
theorem PySem.W.Fast.tw5706364657486622937:True:=trivial
theorem PySem.W.Fast.tw4090629800303111911:True:=trivial
theorem PySem.W.Fast.tw12145992138106677373:True:=trivial
theorem PySem.W.Fast.tw5718461690563084380:True:=trivial
theorem PySem.W.Fast.tw14710723150807811682:True:=trivial
theorem PySem.W.Fast.tw5971639296120774669:True:=trivial
theorem PySem.W.Fast.tw10744531408481877055:True:=trivial
theorem PySem.W.Fast.tw11977095816311564594:True:=trivial
theorem PySem.W.Fast.tw7561879357698780769:True:=trivial
theorem PySem.W.Fast.tw3643879857257771124:True:=trivial
theorem PySem.W.Fast.tw12673979167750689395:True:=trivial
theorem PySem.W.Fast.tw16965084943876296092:True:=trivial
theorem PySem.W.Fast.tw14667818995481767841:True:=trivial
theorem PySem.W.Fast.tw15083689520615246081:True:=trivial
theorem PySem.W.Fast.tw15138767950679343879:True:=trivial
theorem PySem.W.Fast.tw2973053629661292930:True:=trivial
theorem PySem.W.Fast.tw12330299228583949731:True:=trivial
theorem PySem.W.Fast.tw4207556070672951771:True:=trivial
theorem PySem.W.Fast.tw7107919326135753038:True:=trivial
theorem PySem.W.Fast.tw13316576828284742353:True:=trivial
theorem PySem.W.Fast.tw9037880690207954980:True:=trivial
theorem PySem.W.Fast.tw4750454077389626923:True:=trivial
theorem PySem.W.Fast.tw4248413528297155905:True:=trivial
theorem PySem.W.Fast.tw613735546712552680:True:=trivial
theorem PySem.W.Fast.tw3668796160191153746:True:=trivial
theorem PySem.W.Fast.tw5691818717444341963:True:=trivial
theorem PySem.W.Fast.tw18003346260236253978:True:=trivial
theorem PySem.W.Fast.tw17161234016596401197:True:=trivial
theorem PySem.W.Fast.tw1008984763261012777:True:=trivial
theorem PySem.W.Fast.tw17267869076325136537:True:=trivial
theorem PySem.W.Fast.tw6029139985454011524:True:=trivial
theorem PySem.W.Fast.tw14727866729251690651:True:=trivial
theorem PySem.W.Fast.tw8047193905722427775:True:=trivial
theorem PySem.W.Fast.tw5452377907263611073:True:=trivial
theorem PySem.W.Fast.tw17372586837606129057:True:=trivial
theorem PySem.W.Fast.tw16566741095008585549:True:=trivial
theorem PySem.W.Fast.tw440206216604251033:True:=trivial
theorem PySem.W.Fast.tw7237098729161370198:True:=trivial
theorem PySem.W.Fast.tw14793027264645904732:True:=trivial
theorem PySem.W.Fast.tw12958674447493187377:True:=trivial
theorem PySem.W.Fast.tw5043786786207070587:True:=trivial
theorem PySem.W.Fast.tw8178380725248425862:True:=trivial
theorem PySem.W.Fast.tw3542915063926059092:True:=trivial
theorem PySem.W.Fast.tw4908342162569754380:True:=trivial
theorem PySem.W.Fast.tw13447395010646712899:True:=trivial
theorem PySem.W.Fast.tw2887978973174779443:True:=trivial
theorem PySem.W.Fast.tw3835058744192272818:True:=trivial
theorem PySem.W.Fast.tw12196993303072453508:True:=trivial
theorem PySem.W.Fast.tw14892558298475708398:True:=trivial
theorem PySem.W.Fast.tw5140231547094785549:True:=trivial
theorem PySem.W.Fast.tw2237575856596037936:True:=trivial
theorem PySem.W.Fast.tw2043293649748922052:True:=trivial
theorem PySem.W.Fast.tw3062729779593281437:True:=trivial
theorem PySem.W.Fast.tw10430021730869308569:True:=trivial
theorem PySem.W.Fast.tw3905327880805432324:True:=trivial
theorem PySem.W.Fast.tw139714358500292894:True:=trivial
theorem PySem.W.Fast.tw205298213984616422:True:=trivial
theorem PySem.W.Fast.tw16345565707741724413:True:=trivial
theorem PySem.W.Fast.tw8544860093650730264:True:=trivial
theorem PySem.W.Fast.tw10999123804825167891:True:=trivial
theorem PySem.W.Fast.tw11925339990562715415:True:=trivial
theorem PySem.W.Fast.tw4073938015761717070:True:=trivial
theorem PySem.W.Fast.tw17331379468534589473:True:=trivial
theorem PySem.W.Fast.tw6869125024359772124:True:=trivial
theorem PySem.W.Fast.tw14773317828576446830:True:=trivial
theorem PySem.W.Fast.tw5548038813001860867:True:=trivial
theorem PySem.W.Fast.tw12593867275357068492:True:=trivial
theorem PySem.W.Fast.tw3555880495529309264:True:=trivial
theorem PySem.W.Fast.tw2321670709888853458:True:=trivial
theorem PySem.W.Fast.tw14333521440549825289:True:=trivial
theorem PySem.W.Fast.tw9413216610565817319:True:=trivial
theorem PySem.W.Fast.tw3592222706029025760:True:=trivial
theorem PySem.W.Fast.tw11854748900216760326:True:=trivial
theorem PySem.W.Fast.tw14012732838583427929:True:=trivial
theorem PySem.W.Fast.tw11221428137162091500:True:=trivial
theorem PySem.W.Fast.tw4729994100064628373:True:=trivial
theorem PySem.W.Fast.tw16290990534378337115:True:=trivial
theorem PySem.W.Fast.tw11356299432909213292:True:=trivial
theorem PySem.W.Fast.tw3687140494004760153:True:=trivial
theorem PySem.W.Fast.tw13531819562533214689:True:=trivial
theorem PySem.W.Fast.tw14295044627812013096:True:=trivial
theorem PySem.W.Fast.tw12054814649243111406:True:=trivial
theorem PySem.W.Fast.tw15329496427424834058:True:=trivial
theorem PySem.W.Fast.tw16242209267809822880:True:=trivial
theorem PySem.W.Fast.tw14970338162155557735:True:=trivial
theorem PySem.W.Fast.tw7220459640526261604:True:=trivial
theorem PySem.W.Fast.tw30426548288826177:True:=trivial
theorem PySem.W.Fast.tw12561268725775598185:True:=trivial
theorem PySem.W.Fast.tw13240039210733639199:True:=trivial
theorem PySem.W.Fast.tw16702154192881381268:True:=trivial
theorem PySem.W.Fast.tw9684912044358651098:True:=trivial
theorem PySem.W.Fast.tw9873218828362491073:True:=trivial
theorem PySem.W.Fast.tw564963179845083227:True:=trivial
theorem PySem.W.Fast.tw7216210703617431279:True:=trivial
theorem PySem.W.Fast.tw9461951620720564071:True:=trivial
theorem PySem.W.Fast.tw11607477130788759512:True:=trivial
theorem PySem.W.Fast.tw6064929676020883528:True:=trivial
theorem PySem.W.Fast.tw13400342561393938728:True:=trivial
theorem PySem.W.Fast.tw7510972813749614548:True:=trivial
theorem PySem.W.Fast.tw4696262788968977146:True:=trivial
theorem PySem.W.Fast.tw2439815238895580678:True:=trivial
theorem PySem.W.Fast.tw8503009603909658177:True:=trivial
theorem PySem.W.Fast.tw1559122589789115290:True:=trivial
theorem PySem.W.Fast.tw11000223673004899983:True:=trivial
theorem PySem.W.Fast.tw7909133203339787297:True:=trivial
theorem PySem.W.Fast.tw5835064955017095362:True:=trivial
theorem PySem.W.Fast.tw13765565240899369580:True:=trivial
theorem PySem.W.Fast.tw9336790194596933698:True:=trivial
theorem PySem.W.Fast.tw15669026303546575426:True:=trivial
theorem PySem.W.Fast.tw8143892324838581372:True:=trivial
theorem PySem.W.Fast.tw5101354420881243661:True:=trivial
theorem PySem.W.Fast.tw11279457833899909287:True:=trivial
theorem PySem.W.Fast.tw18122810403781329918:True:=trivial
theorem PySem.W.Fast.tw3341979281338798298:True:=trivial
theorem PySem.W.Fast.tw15690078353317771913:True:=trivial
theorem PySem.W.Fast.tw16990753982339951211:True:=trivial
theorem PySem.W.Fast.tw3514762445026131755:True:=trivial
theorem PySem.W.Fast.tw4201623379492454673:True:=trivial
theorem PySem.W.Fast.tw5552451061585769485:True:=trivial
theorem PySem.W.Fast.tw8149672958551232546:True:=trivial
theorem PySem.W.Fast.tw5976085142581946116:True:=trivial
theorem PySem.W.Fast.tw3724792830866471813:True:=trivial
theorem PySem.W.Fast.tw11030780795814765823:True:=trivial
theorem PySem.W.Fast.tw13889743730005778321:True:=trivial
theorem PySem.W.Fast.tw16749179182842802258:True:=trivial
theorem PySem.W.Fast.tw2498485032808540319:True:=trivial
theorem PySem.W.Fast.tw6176489935320841731:True:=trivial
theorem PySem.W.Fast.tw6415920883845961788:True:=trivial
theorem PySem.W.Fast.tw448451903980420632:True:=trivial
theorem PySem.W.Fast.tw11344708035250434097:True:=trivial
theorem PySem.W.Fast.tw11803646162070841068:True:=trivial
theorem PySem.W.Fast.tw7626089704271637558:True:=trivial
theorem PySem.W.Fast.tw5875453395303426111:True:=trivial
theorem PySem.W.Fast.tw5686968273632155982:True:=trivial
theorem PySem.W.Fast.tw8443501408926676470:True:=trivial
theorem PySem.W.Fast.tw9008624872451197459:True:=trivial
theorem PySem.W.Fast.tw8517069332308129770:True:=trivial
theorem PySem.W.Fast.tw3707917873226041275:True:=trivial
theorem PySem.W.Fast.tw10029220632906434056:True:=trivial
theorem PySem.W.Fast.tw1949400140185440202:True:=trivial
theorem PySem.W.Fast.tw6023703813011070352:True:=trivial
theorem PySem.W.Fast.tw16740217149729320744:True:=trivial
theorem PySem.W.Fast.tw17864061988214163294:True:=trivial
theorem PySem.W.Fast.tw9351235735296184059:True:=trivial
theorem PySem.W.Fast.tw10258319865117993196:True:=trivial
theorem PySem.W.Fast.tw8320612852344300008:True:=trivial
theorem PySem.W.Fast.tw2509320561751224336:True:=trivial
theorem PySem.W.Fast.tw3305370277014937591:True:=trivial
theorem PySem.W.Fast.tw369195324820256058:True:=trivial
theorem PySem.W.Fast.tw5620800456963900173:True:=trivial
theorem PySem.W.Fast.tw8152303491394227563:True:=trivial
theorem PySem.W.Fast.tw17298510008395776435:True:=trivial
theorem PySem.W.Fast.tw993629718944380889:True:=trivial
theorem PySem.W.Fast.tw17348686103079699050:True:=trivial
theorem PySem.W.Fast.tw18109752776771262778:True:=trivial
theorem PySem.W.Fast.tw6497486357879405583:True:=trivial
theorem PySem.W.Fast.tw1066851680976744465:True:=trivial
theorem PySem.W.Fast.tw14612790444865567237:True:=trivial
theorem PySem.W.Fast.tw2870067285102277632:True:=trivial
theorem PySem.W.Fast.tw11711184123378095353:True:=trivial
theorem PySem.W.Fast.tw7922556487184284163:True:=trivial
theorem PySem.W.Fast.tw3908560333593202301:True:=trivial
theorem PySem.W.Fast.tw5915617563211322494:True:=trivial
theorem PySem.W.Fast.tw15453350720703700582:True:=trivial
theorem PySem.W.Fast.tw9028228936553488903:True:=trivial
theorem PySem.W.Fast.tw2394591765043604437:True:=trivial
theorem PySem.W.Fast.tw10937044934920025328:True:=trivial
theorem PySem.W.Fast.tw11015162966330032536:True:=trivial
theorem PySem.W.Fast.tw5843893891720779752:True:=trivial
theorem PySem.W.Fast.tw12962643052504767743:True:=trivial
theorem PySem.W.Fast.tw15164398592876261532:True:=trivial
theorem PySem.W.Fast.tw4227797384394997644:True:=trivial
theorem PySem.W.Fast.tw14715320889060271580:True:=trivial
theorem PySem.W.Fast.tw5152511193769868709:True:=trivial
theorem PySem.W.Fast.tw7611488523303016798:True:=trivial
theorem PySem.W.Fast.tw3165101654587227169:True:=trivial
theorem PySem.W.Fast.tw4875271110358110441:True:=trivial
theorem PySem.W.Fast.tw10726213343408467197:True:=trivial
theorem PySem.W.Fast.tw592728310961718480:True:=trivial
theorem PySem.W.Fast.tw2797766660692010858:True:=trivial
theorem PySem.W.Fast.tw16943661625450509293:True:=trivial
theorem PySem.W.Fast.tw16167149560682252115:True:=trivial
theorem PySem.W.Fast.tw14345503930906191445:True:=trivial
theorem PySem.W.Fast.tw10646190188365536888:True:=trivial
theorem PySem.W.Fast.tw4124528801375223969:True:=trivial
theorem PySem.W.Fast.tw1172795870468522098:True:=trivial
theorem PySem.W.Fast.tw5923397449988866386:True:=trivial
theorem PySem.W.Fast.tw11411330631153388947:True:=trivial
theorem PySem.W.Fast.tw10019465204544766353:True:=trivial
theorem PySem.W.Fast.tw89651343906184538:True:=trivial
theorem PySem.W.Fast.tw12628642327488347159:True:=trivial
theorem PySem.W.Fast.tw12803714571984608653:True:=trivial
theorem PySem.W.Fast.tw17480095711568342353:True:=trivial
theorem PySem.W.Fast.tw9580022980789095665:True:=trivial
theorem PySem.W.Fast.tw13743701282112740967:True:=trivial
theorem PySem.W.Fast.tw1005234932713412841:True:=trivial
theorem PySem.W.Fast.tw5989400565424581036:True:=trivial
theorem PySem.W.Fast.tw11377593655883673678:True:=trivial
theorem PySem.W.Fast.tw535799407693880603:True:=trivial
theorem PySem.W.Fast.tw8416428451292356802:True:=trivial
theorem PySem.W.Fast.tw18337049510195421973:True:=trivial
theorem PySem.W.Fast.tw9999111497208792178:True:=trivial
theorem PySem.W.Fast.tw5148288971565798828:True:=trivial
theorem PySem.W.Fast.tw10295580781328448873:True:=trivial
theorem PySem.W.Fast.tw4733283290678713921:True:=trivial
theorem PySem.W.Fast.tw11325087443193193857:True:=trivial
theorem PySem.W.Fast.tw859803654607474549:True:=trivial
theorem PySem.W.Fast.tw434538168518596353:True:=trivial
theorem PySem.W.Fast.tw2158822781796774981:True:=trivial
theorem PySem.W.Fast.tw16894797036116928223:True:=trivial
theorem PySem.W.Fast.tw6359857150148451188:True:=trivial
theorem PySem.W.Fast.tw11523520731364683535:True:=trivial
theorem PySem.W.Fast.tw5549939042842505355:True:=trivial
theorem PySem.W.Fast.tw4649690538773821023:True:=trivial
theorem PySem.W.Fast.tw13013667813629475376:True:=trivial
theorem PySem.W.Fast.tw14757595557251695753:True:=trivial
theorem PySem.W.Fast.tw14355540698217349351:True:=trivial
theorem PySem.W.Fast.tw846904090468297092:True:=trivial
theorem PySem.W.Fast.tw9488081773115533459:True:=trivial
theorem PySem.W.Fast.tw8792592722120698908:True:=trivial
theorem PySem.W.Fast.tw3451237443801212726:True:=trivial
theorem PySem.W.Fast.tw16968394776911242487:True:=trivial
theorem PySem.W.Fast.tw4645833337893038321:True:=trivial
theorem PySem.W.Fast.tw10952619575690673363:True:=trivial
theorem PySem.W.Fast.tw14346998794066922976:True:=trivial
theorem PySem.W.Fast.tw6115570752309893579:True:=trivial
theorem PySem.W.Fast.tw10025214196016376249:True:=trivial
theorem PySem.W.Fast.tw17280793453100646825:True:=trivial
theorem PySem.W.Fast.tw16613993510737050054:True:=trivial
theorem PySem.W.Fast.tw15154833373460639968:True:=trivial
theorem PySem.W.Fast.tw4445081725425347385:True:=trivial
theorem PySem.W.Fast.tw636200731899184386:True:=trivial
theorem PySem.W.Fast.tw4585292286631148430:True:=trivial
theorem PySem.W.Fast.tw5399057746882120553:True:=trivial
theorem PySem.W.Fast.tw16682479887348580749:True:=trivial
theorem PySem.W.Fast.tw183047078463264341:True:=trivial
theorem PySem.W.Fast.tw12132935721915034389:True:=trivial
theorem PySem.W.Fast.tw12620178237154237442:True:=trivial
theorem PySem.W.Fast.tw5195524023415759907:True:=trivial
theorem PySem.W.Fast.tw3325750506043081323:True:=trivial
theorem PySem.W.Fast.tw52910550237833276:True:=trivial
theorem PySem.W.Fast.tw289600780811008649:True:=trivial
theorem PySem.W.Fast.tw7847510793773585708:True:=trivial
theorem PySem.W.Fast.tw8464592656091289598:True:=trivial
theorem PySem.W.Fast.tw3161718123233917248:True:=trivial
theorem PySem.W.Fast.tw17398661721968835438:True:=trivial
theorem PySem.W.Fast.tw5180132659258155254:True:=trivial
theorem PySem.W.Fast.tw9831614416791815383:True:=trivial
theorem PySem.W.Fast.tw995835888777253071:True:=trivial
theorem PySem.W.Fast.tw12321346739286563054:True:=trivial
theorem PySem.W.Fast.tw7416925928056254858:True:=trivial
theorem PySem.W.Fast.tw211059277026368994:True:=trivial
theorem PySem.W.Fast.tw11335391916719915348:True:=trivial
theorem PySem.W.Fast.tw2637393468365324325:True:=trivial
theorem PySem.W.Fast.tw15920869498330334992:True:=trivial
theorem PySem.W.Fast.tw8501731235785570184:True:=trivial
theorem PySem.W.Fast.tw16924150202957531379:True:=trivial
theorem PySem.W.Fast.tw16006068377775827068:True:=trivial
theorem PySem.W.Fast.tw8458862229121894834:True:=trivial
theorem PySem.W.Fast.tw4690467585857101700:True:=trivial
theorem PySem.W.Fast.tw3360713600043077933:True:=trivial
theorem PySem.W.Fast.tw820129936088917418:True:=trivial
theorem PySem.W.Fast.tw18257674604648669609:True:=trivial
theorem PySem.W.Fast.tw16617138018936747302:True:=trivial
theorem PySem.W.Fast.tw17352756326111639947:True:=trivial
theorem PySem.W.Fast.tw11615998923163115246:True:=trivial
theorem PySem.W.Fast.tw6987257208392768411:True:=trivial
theorem PySem.W.Fast.tw1530144121373091614:True:=trivial
theorem PySem.W.Fast.tw15072695309283489367:True:=trivial
theorem PySem.W.Fast.tw905900409585804258:True:=trivial
theorem PySem.W.Fast.tw9496002046670346478:True:=trivial
theorem PySem.W.Fast.tw11582273019270784589:True:=trivial
theorem PySem.W.Fast.tw7428806522711572301:True:=trivial
theorem PySem.W.Fast.tw8978988327695216511:True:=trivial
theorem PySem.W.Fast.tw13461246313041373669:True:=trivial
theorem PySem.W.Fast.tw15197623672751637568:True:=trivial
theorem PySem.W.Fast.tw7366175473389271465:True:=trivial
theorem PySem.W.Fast.tw8384681422616985832:True:=trivial
theorem PySem.W.Fast.tw11375988173825943006:True:=trivial
theorem PySem.W.Fast.tw1436627480682432478:True:=trivial
theorem PySem.W.Fast.tw17765532734647791145:True:=trivial
theorem PySem.W.Fast.tw5928838377816211381:True:=trivial
theorem PySem.W.Fast.tw1736237141443133953:True:=trivial
theorem PySem.W.Fast.tw12933420887410616014:True:=trivial
theorem PySem.W.Fast.tw10657638968319696194:True:=trivial
theorem PySem.W.Fast.tw2849569287952119965:True:=trivial
theorem PySem.W.Fast.tw14108921108854578602:True:=trivial
theorem PySem.W.Fast.tw4708577859775288003:True:=trivial
theorem PySem.W.Fast.tw7538006813329612346:True:=trivial
theorem PySem.W.Fast.tw1248546782292407596:True:=trivial
theorem PySem.W.Fast.tw4448801808147379879:True:=trivial
theorem PySem.W.Fast.tw5253141163972352660:True:=trivial
theorem PySem.W.Fast.tw3269032725206769959:True:=trivial
theorem PySem.W.Fast.tw4179791708102001924:True:=trivial
theorem PySem.W.Fast.tw16142966725625402143:True:=trivial
theorem PySem.W.Fast.tw6409919894149675935:True:=trivial
theorem PySem.W.Fast.tw2741853473344672277:True:=trivial
theorem PySem.W.Fast.tw5788456459867920232:True:=trivial
theorem PySem.W.Fast.tw9565328592931973913:True:=trivial
theorem PySem.W.Fast.tw3129546978006055142:True:=trivial
theorem PySem.W.Fast.tw13958708663194135481:True:=trivial
theorem PySem.W.Fast.tw18203703092991304009:True:=trivial
theorem PySem.W.Fast.tw14022070374455245591:True:=trivial
theorem PySem.W.Fast.tw11360599173208482704:True:=trivial
theorem PySem.W.Fast.tw1627978542062897965:True:=trivial
theorem PySem.W.Fast.tw4940457004680582760:True:=trivial
theorem PySem.W.Fast.tw8510547460741205283:True:=trivial
theorem PySem.W.Fast.tw12854146882928193015:True:=trivial
theorem PySem.W.Fast.tw14500122430449904668:True:=trivial
theorem PySem.W.Fast.tw3747435147511408578:True:=trivial
theorem PySem.W.Fast.tw16169457199488982989:True:=trivial
theorem PySem.W.Fast.tw7537281208940822894:True:=trivial
theorem PySem.W.Fast.tw11493147615226544641:True:=trivial
theorem PySem.W.Fast.tw17319870174177179579:True:=trivial
theorem PySem.W.Fast.tw15312623973534778048:True:=trivial
theorem PySem.W.Fast.tw17913583965997257763:True:=trivial
theorem PySem.W.Fast.tw9176326475199553272:True:=trivial
theorem PySem.W.Fast.tw8404124173374364035:True:=trivial
theorem PySem.W.Fast.tw1729364084927341546:True:=trivial
theorem PySem.W.Fast.tw3991071190681445132:True:=trivial
theorem PySem.W.Fast.tw16552740509181856188:True:=trivial
theorem PySem.W.Fast.tw9586879200578939917:True:=trivial
theorem PySem.W.Fast.tw3766895161755045591:True:=trivial
theorem PySem.W.Fast.tw16977183833028502168:True:=trivial
theorem PySem.W.Fast.tw17619388384562169313:True:=trivial
theorem PySem.W.Fast.tw4486588597195551631:True:=trivial
theorem PySem.W.Fast.tw14009509719342461580:True:=trivial
theorem PySem.W.Fast.tw7380726523674281692:True:=trivial
theorem PySem.W.Fast.tw2704769039222283209:True:=trivial
theorem PySem.W.Fast.tw8304035429652668303:True:=trivial
theorem PySem.W.Fast.tw15022569462170702473:True:=trivial
theorem PySem.W.Fast.tw1818603487504528107:True:=trivial
theorem PySem.W.Fast.tw3879867391639389163:True:=trivial
namespace Lw
open L3 PySem
def tbT:List Str:=["Unlike", "NoText"]
def zFT:List (Str×List Str):=[("Unlike", ["Unlike", "CatchError", "ValueError", "Exception", "BaseException", "object"]),("NoText", ["NoText", "CatchError", "ValueError", "Exception", "BaseException", "object"])]
def zCT:D:=(.tup [(.int 0),(.int 1)])
def cE:List (Str×Str):=[("row", "back"),("back", "row"),("even", "lack"),("lack", "even"),("part", "part"),("half", "half")]
def d_WEIGHTED:D:=(.tup [(.str "even"),(.str "lack")])
def d_HALF:D:=(.tup [(.int 1),(.int 2)])
def d_BOAT:D:=(.str "boat")
def d_MOST_BOATS:D:=(.int 12)
def d_DEEPEST:D:=(.int 8)
def d_LETTERS:D:=(.str "abcdefghijklmnopqrstuvwxyz")
abbrev xU:Sv:=(eJ 1 (eOp zFR (aG 1) (eOp oIx (aG 2) (eC (.int 1)))))
abbrev zR:Sv:=(eJ 1 (eC (.int 1)))
abbrev zAy:Sv:=(uD (yR (aG 0)) (gName 2) xU)
def zCu:List D->Res (List Int):=zDe zR zAy
def dI:Mir:=fn 1 1 (sIf (dU (eUn (jY cE) (aG 0))) (iM "BadWay" (aD (eC (.str "no such way")) aNil)) sNext)
abbrev iY:Sv:=(sIf (yT (dU (eOp oLt (aG 4) (eC (.int 1)))) (dU (eOp oGt (aG 4) (eOp yO (eC (.int 10)) (eC (.int 6)))))) (iM "BadWeights" (aD (eC (.str "a weight is not from 1 to 10 ** 6")) aNil)) sNext)
abbrev cQ:Sv:=(uD (yR (aG 1)) (gName 4) iY)
abbrev eR:Sv:=(bT (sIf (dU (eOp oNe (eB iD (aD (aG 1) aNil)) (aG 3))) (iM "BadWeights" (aD (eC (.str "more or fewer weights than are due")) aNil)) sNext) cQ)
def bV:Mir:=fn 3 5 (bT (eJ 3 (eIf (dU (eOp oIn (aG 0) (eC d_WEIGHTED))) (aG 2) (eC (.int 0)))) eR)
abbrev zCO:Sv:=(fF (zFB (aD (eC d_BOAT) (aD (aG 0) aNil))))
def rP:Mir:=fn 1 1 (bT (sIf (yT (dU (eOp oLt (aG 0) (eC (.int 0)))) (dU (eOp oGt (aG 0) (eOp yO (eC (.int 10)) (eC (.int 9)))))) (iM "BadClaim" (aD (eC (.str "a boat's claim is not from 0 to 10 ** 9")) aNil)) sNext) zCO)
def bN:Mir:=fn 1 1 (fF (eOp oEq (eOp oIx (aG 0) (eC (.int 0))) (eC d_BOAT)))
def fS:Mir:=fn 1 1 (fF (eOp oIx (aG 0) (eC (.int 0))))
def cN:Mir:=fn 1 1 (fF (eOp oIx (aG 0) (eC (.int 1))))
def eH:Mir:=fn 2 2 (fF (eB zHA (aD (eF (xV (zIJ (aG 1)) xC (eOp zHa (aG 2) (aG 0)))) aNil)))
abbrev nA:Sv:=(fF (eC (.int 0)))
def aX:Mir:=fn 2 2 (bT (sIf (dU (eOp oLt (aG 1) (eB iD (aD (aG 0) aNil)))) (fF (eOp oIx (aG 0) (aG 1))) sNext) nA)
def eE:Mir:=fn 1 1 (fF (zEC (zBO "int" (aG 0)) (eUn zJf (zBO "bool" (aG 0)))))
abbrev qU:Sv:=(fF (eOp oIx (aG 2) (eOp iX (eOp rB (aG 1) (eOp mY (eOp iX (aG 0) (eC (.int 7))) (eC (.int 5)))) (eC (.int 4)))))
def dZ:Mir:=fn 2 3 (bT (eJ 2 (eF (iL (aD (eOp iX (eOp mY (aG 0) (eC (.int 7))) (eC (.int 13))) (aD (eOp iX (eOp mY (aG 0) (eC (.int 7))) (eC (.int 4))) (aD (eOp iX (eOp mY (aG 0) (eC (.int 7))) (eOp rB (eOp yO (eC (.int 10)) (eC (.int 9))) (eC (.int 1)))) (aD (eOp zFR (eOp iX (eOp mY (aG 0) (eC (.int 91))) (eC (.int 60))) (eOp yO (eC (.int 10)) (eC (.int 6)))) aNil))))))) qU)
def cB:List (Str×D)->Res Rt:=fnO "Ledger" 1 (fF (zBW 0 "Ledger" "standing"))
def dH:List (Str×D)->Res Rt:=fnO "Ledger" 1 (qR (qO (aD (zBW 0 "Ledger" "called") aNil)))
def eK:List (Str×D)->Res Rt:=fnO "Ledger" 1 (qR (qO (aD (zBW 0 "Ledger" "had") aNil)))
def cV:List (Str×D)->Res Rt:=fnO "Ledger" 1 (fF (zBW 0 "Ledger" "spare"))
def dQ:List (Str×D)->Res Rt:=fnO "Ledger" 1 (qR (qO (aD (zBW 0 "Ledger" "facts") aNil)))
def bG:Mir:=fn 1 1 (fF (eIf (dU (bK bN (aD (aG 0) aNil))) (zFB aNil) (eOp oIx (aG 0) (eC (.int 2)))))
def fY:Mir:=fn 1 1 (fF (zEC (vV oLe oLe (eC (.int 1)) (eB zBt (aD (aG 0) aNil)) (eC (.int 12))) (bK eH (aD (eC d_LETTERS) (aD (aG 0) aNil)))))
abbrev pV:Sv:=(eJ 6 (eOp mY (aG 6) (eC (.int 26))))
abbrev qL:Sv:=(bT (eJ 7 (eOp zAc (aG 7) (eOp zCi (aG 2) (eOp iX (aG 6) (eC (.int 26)))))) pV)
abbrev nN:Sv:=(eJ 7 (eOp oIx (aG 9) (eOp iX (eOp mY (aG 3) (eC (.int 1430))) (eC (.int 12)))))
abbrev eX:Sv:=(zDD 4 (aG 7))
abbrev dF:Sv:=(bT (sIf (dU (eOp oEq (eOp iX (eOp mY (aG 3) (eC (.int 286))) (eC (.int 5))) (aG 5))) (bT (eJ 9 (eF (iL (aD (eC (.str "even")) (aD (eC (.str "ask")) (aD (eC (.str "row")) (aD (eC (.str "gets")) (aD (eC (.str "lack")) (aD (eC (.str "kept")) (aD (eC (.str "half")) (aD (eC (.str "land")) (aD (eC (.str "part")) (aD (eC (.str "custom")) (aD (eC (.str "basket")) (aD (eC (.str "refused")) aNil))))))))))))))) nN) sNext) eX)
abbrev iQ:Sv:=(bT (uD (sY (aD (eOp iX (eOp mY (aG 3) (eC (.int 26))) (eC (.int 12))) aNil)) (gName 8) qL) dF)
abbrev iN:Sv:=(bT (eJ 7 (eOp zCi (aG 2) (eOp iX (eOp rB (aG 3) (aG 5)) (eC (.int 26))))) iQ)
abbrev dO:Sv:=(bT (eJ 6 (eOp mY (aG 3) (eOp rB (aG 5) (eC (.int 1))))) iN)
abbrev gZ:Sv:=(iF 4)
abbrev jB:Sv:=(bT (uD (sY (aD (aG 1) aNil)) (gName 5) dO) gZ)
abbrev iS:Sv:=(bT (zDG 4 (iL aNil)) jB)
abbrev jF:Sv:=(bT (eJ 3 (eOp iX (bK aX (aD (aG 0) (aD (eC (.int 13)) aNil))) (eOp yO (eC (.int 10)) (eC (.int 30))))) iS)
def dX:Mir:=fn 2 10 (bT (eJ 2 (eC (.str "abcdefghijklmnopqrstuvwxyz"))) jF)
abbrev nO (r:Mir):Sv:=(eJ 1 (eF (zFo (aG 1) (bK r (aD (aG 2) aNil)))))
abbrev nV (r:Mir):Sv:=(fF (aG 1))
abbrev oA (r:Mir):Sv:=(bT (uD (yR (eOp oIx (aG 0) (eC (.int 2)))) (gName 2) (nO r)) (nV r))
abbrev nT (r:Mir):Sv:=(bT (eJ 1 (eF (iL aNil))) (oA r))
def eQ (r:Mir):Mir:=fn 1 3 (bT (sIf (dU (eOp oEq (eOp oIx (aG 0) (eC (.int 0))) (eC (.str "boat")))) (fF (eF (iL (aD (eOp oIx (aG 0) (eC (.int 1))) aNil)))) sNext) (nT r))
def cK:Nat->Mir
 | 0=>fn 1 3 sNo
 | n+1=>eQ (cK n)
abbrev qS (r:Mir):Sv:=(zHE 1 (lW r (aD (aG 2) aNil)))
abbrev qE (r:Mir):Sv:=(iF 1)
abbrev pN (r:Mir):Sv:=(bT (uD (yR (bK bG (aD (aG 0) aNil))) (gName 2) (qS r)) (qE r))
abbrev qG (r:Mir):Sv:=(bT (zDG 1 (iL aNil)) (pN r))
def fI (r:Mir):Mir:=fn 1 3 (bT (sIf (dU (bK bN (aD (aG 0) aNil))) (qR (iL (aD (eOp oIx (aG 0) (eC (.int 1))) aNil))) sNext) (qG r))
def bE:Nat->Mir
 | 0=>fn 1 3 sNo
 | n+1=>fI (bE n)
def jC (r:Mir):Mir:=fn 1 1 (fF (eOp rB (eC (.int 1)) (eOp (fun x y=>vG [x,y]) (eF (xV (yR (bK bG (aD (aG 0) aNil))) xC (bK r (aD (aG 1) aNil)))) (eC (.int 0)))))
def dW:Nat->Mir
 | 0=>fn 1 1 sNo
 | n+1=>jC (dW n)
abbrev zCH:Sv:=(fF (aG 3))
abbrev zCr:Sv:=(bT (sIf (yT (dU (eOp oEq (eB iD (aD (aG 2) aNil)) (eC (.int 0)))) (yT (dU (eOp oGt (eB iD (aD (eF (lW (bE 10) (aD (aG 3) aNil))) aNil)) (eC d_MOST_BOATS))) (dU (eOp oGt (bK (dW 10) (aD (aG 3) aNil)) (eC d_DEEPEST))))) (iM "TooMany" (aD (eC (.str "no kid, or too many boats, or too deep")) aNil)) sNext) zCH)
abbrev zCf:Sv:=(bT (eJ 3 (zFB (aD (aG 0) (aD (eB zCe (aD (aG 1) aNil)) (aD (eB zCe (aD (aG 2) aNil)) aNil))))) zCr)
abbrev zCE:Sv:=(bT (zAb (bK bV (aD (aG 0) (aD (aG 1) (aD (eB iD (aD (aG 2) aNil)) aNil))))) zCf)
def tQ:Mir:=fn 3 4 (bT (zAb (bK dI (aD (aG 0) aNil))) zCE)
def dR:Mir:=fn 1 1 (fF (eB zFQ (aD (eF (lW (bE 10) (aD (aG 0) aNil))) aNil)))
abbrev yI:Sv:=(eJ 3 (aG 5))
abbrev yC:Sv:=(bT (zDD 2 (zIs (aG 1) (oS (aG 3)) (oS (aG 5)))) yI)
abbrev oJ:Sv:=(bT (eJ 5 (eOp rB (aG 3) (eB iD (aD (eF (lW (bE 10) (aD (aG 4) aNil))) aNil)))) yC)
abbrev xG:Sv:=(iF 2)
abbrev yH:Sv:=(bT (uD (yR (bK bG (aD (aG 0) aNil))) (gName 4) oJ) xG)
abbrev wY:Sv:=(bT (eJ 3 (eC (.int 0))) yH)
def gO:Mir:=fn 2 6 (bT (zDG 2 (iL aNil)) wY)
abbrev cI:Sv:=(sIf (yT (uZ (dU (bK fY (aD (aG 3) aNil)))) (dU (eOp oIn (aG 3) (zIs (aG 1) oN (oS (aG 2)))))) (iM "NoText" (aD (eC (.str "a name that is none, or is there twice")) aNil)) sNext)
abbrev kX:Sv:=(uD (zDd (aG 1)) (zCb (jA (gName 2) (jA (gName 3) zBV))) cI)
def aP:Mir:=fn 2 4 (bT (sIf (dU (eOp oNe (eB iD (aD (aG 1) aNil)) (eB iD (aD (eF (lW (bE 10) (aD (aG 0) aNil))) aNil)))) (iM "Unlike" (aD (eC (.str "not as many names as boats")) aNil)) sNext) kX)
abbrev tU:Sv:=(eJ 5 (eOp mY (aG 5) (eC (.int 3))))
abbrev rG:Sv:=(bT (zDD 3 (eOp rB (eC (.int 1)) (eOp iX (aG 5) (aG 4)))) tU)
abbrev rQ:Sv:=(uD (yR (aG 1)) (gName 6) rG)
abbrev tE:Sv:=(bT (eJ 5 (eOp mY (aG 0) (eC (.int 24)))) rQ)
abbrev gJ:Sv:=(sFrzAt 3 (fF (bK tQ (aD (aG 2) (aD (aG 3) (aD (aG 1) aNil))))))
abbrev kO:Sv:=(bT (sIf (dU (eOp oIn (aG 2) (zFB (aD (eC (.str "even")) (aD (eC (.str "lack")) aNil))))) (bT (eJ 4 (eOp oIx (eF (iL (aD (eC (.int 3)) (aD (eC (.int 3)) (aD (eC (.int 3)) (aD (eOp yO (eC (.int 10)) (eC (.int 6))) aNil)))))) (eOp iX (eOp mY (aG 0) (eC (.int 6))) (eC (.int 4))))) tE) sNext) gJ)
abbrev kL:Sv:=(bT (zDG 3 (iL aNil)) kO)
def dA:Mir:=fn 2 7 (bT (eJ 2 (eOp oIx (eF (iL (aD (eC (.str "even")) (aD (eC (.str "row")) (aD (eC (.str "lack")) (aD (eC (.str "half")) (aD (eC (.str "part")) (aD (eC (.str "back")) aNil)))))))) (eOp iX (aG 0) (eC (.int 6))))) kL)
def bM:List D->Res (List (Str×D)):=(yL 2 3 (bK aP (aD (aG 1) (aD (aG 2) aNil))) [("standing", (aG 1)),("called", (eF (qO (aD (aG 2) aNil)))),("had", (eF (zFX (iL (aD (eC (.int 0)) aNil)) (eB iD (aD (aG 2) aNil))))),("spare", (eC (.int 0))),("facts", (eF (iL aNil)))])
abbrev lQ:Sv:=(zDG 2 (zIi (zFo (eF (fSl (aG 2) oN (oS (eUn zIt (aG 8))))) (eF (iL (aD (bK dA (aD (eOp mY (aG 7) (eC (.int 12))) (aD (eF (fSl (aG 2) (oS (eUn zIt (aG 8))) oN)) aNil))) aNil))))))
abbrev mX:Sv:=(bT (eJ 8 (zIr (eOp rB (eC (.int 1)) (eOp iX (eOp mY (aG 7) (eC (.int 3))) (eB zGx (aD (eC (.int 4)) (aD (eB iD (aD (aG 2) aNil)) aNil))))))) lQ)
abbrev lZ:Sv:=(sIf (zCx (dU (eOp oEq (eOp iX (aG 7) (eC (.int 3))) (eC (.int 1)))) (dU (eOp oLt (aG 3) (eC (.int 5))))) (bT (eJ 3 (eOp rB (aG 3) (eC (.int 1)))) mX) sNext)
abbrev mQ:Sv:=(bT (eJ 7 (eOp iX (bK aX (aD (aG 0) (aD (eOp rB (eC (.int 7)) (aG 5)) aNil))) (eOp yO (eC (.int 10)) (eC (.int 30))))) lZ)
abbrev oC:Sv:=(bT (zDD 2 (bK rP (aD (bK dZ (aD (aG 6) (aD (eOp iX (eOp mY (aG 1) (eC (.int 6))) (eC (.int 3))) aNil))) aNil))) mQ)
abbrev eV:Sv:=(bT (eJ 6 (eOp iX (bK aX (aD (aG 0) (aD (eOp rB (eC (.int 1)) (aG 5)) aNil))) (eOp yO (eC (.int 10)) (eC (.int 30))))) oC)
abbrev mU:Sv:=(fF (eOp oIx (aG 2) (eC (.int 0))))
abbrev gE:Sv:=(sFrzAt 2 (bT (sIf (yT (dU (eOp oGt (eB iD (aD (aG 2) aNil)) (eC (.int 1)))) (dU (eOp oGt (eOp iX (eOp mY (aG 1) (eC (.int 18))) (eC (.int 4))) (eC (.int 0))))) (fF (bK dA (aD (eOp mY (aG 1) (eC (.int 72))) (aD (aG 2) aNil)))) sNext) mU))
abbrev dG:Sv:=(bT (uD (sY (aD (aG 4) aNil)) (gName 5) eV) gE)
abbrev gY:Sv:=(bT (sIf (dU (eOp oEq (eOp iX (eOp mY (aG 1) (eC (.int 90))) (eC (.int 8))) (eC (.int 1)))) (eJ 4 (eOp rB (aG 4) (eC (.int 6)))) sNext) dG)
abbrev gW:Sv:=(bT (eJ 4 (eOp rB (eC (.int 1)) (eOp iX (aG 1) (eC (.int 6))))) gY)
abbrev hJ:Sv:=(bT (eJ 3 (eC (.int 0))) gW)
abbrev hU:Sv:=(bT (zDG 2 (iL aNil)) hJ)
def dJ:Mir:=fn 1 9 (bT (eJ 1 (eOp iX (bK aX (aD (aG 0) (aD (eC (.int 0)) aNil))) (eOp yO (eC (.int 10)) (eC (.int 30))))) hU)
abbrev eT (r:Mir):Sv:=(sIf (uZ (dU (bK r (aD (eOp oIx (aG 0) (aG 2)) (aD (eOp oIx (aG 1) (aG 2)) aNil))))) (fF (eC (.bl false))) sNext)
abbrev oE (r:Mir):Sv:=(fF (eC (.bl true)))
abbrev nS (r:Mir):Sv:=(bT (uD (sY (aD (eB iD (aD (aG 1) aNil)) aNil)) (gName 2) (eT r)) (oE r))
abbrev pO (r:Mir):Sv:=(bT (sIf (dU (zBO "list" (aG 1))) (sIf (yT (uZ (dU (zBO "list" (aG 0)))) (dU (eOp oNe (eB iD (aD (aG 0) aNil)) (eB iD (aD (aG 1) aNil))))) (fF (eC (.bl false))) sNext) (sIf (yT (uZ (dU (zBO "tuple" (aG 0)))) (dU (eOp oNe (eB iD (aD (aG 0) aNil)) (eB iD (aD (aG 1) aNil))))) (fF (eC (.bl false))) sNext)) (nS r))
abbrev pW (r:Mir):Sv:=(bT (sIf (dU (zBO "int" (aG 1))) (fF (zEC (bK eE (aD (aG 0) aNil)) (eOp oEq (aG 0) (aG 1)))) sNext) (pO r))
abbrev qD (r:Mir):Sv:=(bT (sIf (dU (zBO "str" (aG 1))) (fF (zEC (zBO "str" (aG 0)) (eOp oEq (aG 0) (aG 1)))) sNext) (pW r))
def bJ (r:Mir):Mir:=fn 2 3 (bT (sIf (dU (zFP (aG 1))) (fF (zFP (aG 0))) sNext) (qD r))
def aL:Nat->Mir
 | 0=>fn 2 3 sNo
 | n+1=>bJ (aL n)
abbrev vA (r:Mir):Sv:=(fF (zFN (aD (aG 2) (aD (eC (.str ":")) (aD (aG 3) aNil)))))
abbrev uN (r:Mir):Sv:=(bT (eJ 3 (bK dR (aD (aG 0) aNil))) (vA r))
abbrev tL (r:Mir):Sv:=(fF (zFN (aD (aG 5) (aD (eC (.str "(")) (aD (aG 6) (aD (eC (.str ")")) aNil))))))
abbrev tZ (r:Mir):Sv:=(bT (eJ 6 (zDX ", " (aG 4))) (tL r))
abbrev hZ (r:Mir):Sv:=(bT (eJ 5 (bK fS (aD (aG 0) aNil))) (tZ r))
abbrev nG (r:Mir):Sv:=(bT (sIf (dU (eOp oIn (bK fS (aD (aG 0) aNil)) (eC d_WEIGHTED))) (eJ 4 (eF (oK (zHr (aD (bK cN (aD (aG 0) aNil)) (aD (aG 4) aNil))) (zFN (aD (aG 7) (aD (eC (.str " ")) (aD (aG 8) aNil))))))) sNext) (hZ r))
abbrev mK (r:Mir):Sv:=(bT (eJ 4 (eF (oK (zHr (aD (bK bG (aD (aG 0) aNil)) (aD (eF (lW gO (aD (aG 0) (aD (aG 1) aNil)))) aNil))) (bK r (aD (aG 7) (aD (aG 8) aNil)))))) (nG r))
def fE (r:Mir):Mir:=fn 2 7 (bT (sIf (dU (bK bN (aD (aG 0) aNil))) (bT (eJ 2 (eOp oIx (aG 1) (eC (.int 0)))) (uN r)) sNext) (mK r))
def cH:Nat->Mir
 | 0=>fn 2 7 sNo
 | n+1=>fE (cH n)
abbrev uS:Sv:=(fF (bK (cH 10) (aD (aG 0) (aD (aG 1) aNil))))
def cC:Mir:=fn 2 2 (bT (zAb (bK aP (aD (aG 0) (aD (aG 1) aNil)))) uS)
abbrev tN:Sv:=(bT (zIb tbT 4 (xIf (dU (eOp oEq (aG 2) (eC (.int 0)))) (zIn 3 cC (aD (aG 0) (aD (aG 1) aNil))) (zCl 3 "Ledger" bM (aD (aG 0) (aD (aG 1) aNil)))) (eJ 3 (eF (iL (aD (zFW zFT 4 ["Unlike"]) (aD (zFW zFT 4 ["NoText"]) aNil)))))) sNext)
abbrev eN:Sv:=(bT (eJ 3 (eC .non)) tN)
def aT:List D->Res Vo:=(kVo 3 5 3 eN)
abbrev vW:Sv:=(sIf (uZ (dU (bK (aL 20) (aD (aG 8) (aD (eF (iL (aD (aG 1) (aD (aG 5) (aD (eF (zFX (iL (aD (eC (.int 0)) aNil)) (eB iD (aD (aG 5) aNil)))) (aD (eC (.int 0)) (aD (eF (iL aNil)) aNil))))))) aNil))))) (fF (eC (.bl false))) sNext)
abbrev mJ:Sv:=(sIf (dU (zBO "list" (aG 6))) (sIf (yT (dU (eOp oNe (aG 7) (aG 6))) (dU (eOp oO (aG 6) (zFB (aD (eF (iL (aD (eC (.bl true)) (aD (eC (.bl false)) aNil)))) (aD (eF (iL (aD (eC (.bl false)) (aD (eC (.bl true)) aNil)))) aNil)))))) (fF (eC (.bl false))) sNext) (bT (eJ 8 (eF (iL (aD (zCk 7 "Ledger" "custom" cB) (aD (zCk 7 "Ledger" "names" dH) (aD (zCk 7 "Ledger" "got" eK) (aD (zCk 7 "Ledger" "kept" cV) (aD (zCk 7 "Ledger" "tape" dQ) aNil)))))))) vW))
abbrev zAR:Sv:=(bT (sVo 7 (aD (aG 1) (aD (eB zCe (aD (aG 5) aNil)) (aD (eC (.int 1)) aNil))) aT) mJ)
abbrev pT:Sv:=(bT (sVo 6 (aD (aG 1) (aD (eF (qO (aD (aG 5) aNil))) (aD (eC (.int 0)) aNil))) aT) zAR)
abbrev pL:Sv:=(uD (yR (eF (iL (aD (eF (zFo (eF (zFo (eF (fSl (aG 2) oN (oS (aG 3)))) (eF (iL (aD (aG 4) aNil))))) (eF (fSl (aG 2) (oS (eOp rB (aG 3) (eC (.int 1)))) oN)))) (aD (eF (zFo (aG 2) (eF (iL (aD (aG 4) aNil))))) (aD (eF (fSl (aG 2) (oS (eC (.int 1))) oN)) aNil)))))) (gName 5) pT)
abbrev wM:Sv:=(fF (eC (.bl true)))
abbrev zAI:Sv:=(bT (uD (yR (eF (iL (aD (eOp oIx (aG 2) (aG 3)) (aD (eC (.str "")) (aD (eC (.str "abcdefghijklm")) (aD (eC (.str "a1")) (aD (eC (.str "aB")) (aD (eC (.str "a b")) (aD (eOp oIx (aG 2) (eC (.int 0))) (aD (eC (.str "zz")) aNil))))))))))) (gName 4) pL) wM)
abbrev zAz:Sv:=(bT (eJ 3 (eOp iX (bK aX (aD (aG 0) (aD (eC (.int 14)) aNil))) (eB iD (aD (aG 2) aNil)))) zAI)
abbrev zD:Sv:=(bT (eJ 2 (eF (lW dX (aD (aG 0) (aD (eB iD (aD (bK (cK 10) (aD (aG 1) aNil)) aNil)) aNil))))) zAz)
def zFG:Mir:=fn 1 9 (bT (eJ 1 (bK dJ (aD (aG 0) aNil))) zD)
end Lw
namespace Lw
open L3 PySem Fr Fq Ln
theorem c_NOUGHT:zCT=dq 0:=rfl
local macro_rules | `(tactic| walk_at "ev")=>do
 let ids:Array (Lean.TSyntax `term):=(("c_NOUGHT d_WEIGHTED d_HALF d_BOAT d_MOST_BOATS d_DEEPEST d_LETTERS fn_at eSlQ_at slQF slQE_at slQG_l slQG_t eFst_at eJoin_at enumF_t iZip_at iEnum_at enumF_l fComp2_at iStr_at chrD_s eChain_at chA chB chnF_t chnF_f oAddS_s oIxS_0 oInS_s bLenS_s chO_s oEq_s oNe_s oTabNot_s L3.start sSeq_at seqF_nx seqF_ret sSet_at setF sOwn_at ownF sRet_at retF sRetF_at retFF sRetOwn_at retS sRetN sIf_at ifF_t ifF_f sNext sNo sDrop_at dropF dropG eVar_at varS eC eOp_at opF eUn eCall_at callF rtF eB eTup_at tupF aCons_at consF consG aNil tVal_at blF tNotB_at notF tAndB_at tandF_t tandF_f tOrB_at torF_t torF_f eAnd_at andF_t andF_f eOr_at orF_t orF_f eIf_at eifF_t eifF_f eF_at efF fLst_at fLstF fCall_at fcallF rtFF fList_at fListF_l fListF_t fComp_at fRep_at repF fCat_at catF catG eFrz_at frzF fFrz_at fFrzF oN oS_at oSF fSl_at fSlF fSlG fSlH eIsN_at isNF isNon sApp_at appS appF sExt_at extS extF sAug_at augS augF xSet_at xsetF setG xIf_at sTry_at tryF_ok tryF_err tryE_t tryH_nx eIsE_at sUnp_at unpF nxF bSum_l bSum_t gTup_at gtF_t gCons_at gNil_at gName sFor_at forF iSeq_at seqD_l seqD_t iRng1_at sFrz sFrzAt frzAt okb erb Rt.d fin oAdd_i oSub_i oMul_i oDiv_i oMod_i oPow_i oEq_i oNe_i oLt_i oLe_i oGt_i oGe_i oIx_tc oNeg_i oNot_b bAbs_i bLen_t bLen_l bMin_i bTup_t bTup_l eIsT_at isTF isT ty_i ty_t ty_l ty_b ty_s ty_n ofO_some atD sRaise_at raiseF Sl.frz noErr dep depS noL noLs List.map_cons List.map_nil List.cons_append List.nil_append List.append_nil List.replicate List.length_cons List.length_nil List.getElem?_cons_zero List.getElem?_cons_succ List.set_cons_zero List.set_cons_succ Nat.reduceAdd Nat.reduceSub Nat.reduceLeDiff Nat.reduceEqDiff Nat.zero_add Nat.sub_self Nat.max_self Nat.zero_le if_true ite_true ite_false if_false Bool.false_eq_true Bool.not_true Bool.not_false reduceIte ite_self Int.toNat_zero Int.reduceToNat Int.reduceLE Int.reduceLT Int.le_refl decide_true decide_false Bool.or_true Bool.or_false Bool.true_or Bool.false_or Bool.and_true Bool.true_and Bool.and_false Bool.false_and String.reduceBEq String.reduceEq beq_self_eq_true ix_dq0 ix_dq1 ty_dq dep_dq noL_dq len_dq eq_dq oEq_dq oNe_dq List.length_map okDiv_lit okMul_litr okMul_litl okp9 okp30 p10 fdiv_pos fmod_pos Int.reduceEq Int.reduceNeg p10ne p10ne2 p10pos2 Int.reduceMul Int.reduceAdd Int.reduceSub Int.reduceDiv Int.reduceMod eqD Nat.reduceLT Nat.reducePow ne_eq not_true_eq_false not_false_eq_true".splitOn " ").map fun s=>⟨Lean.mkIdent s.toName⟩).toArray
 `(tactic| simp only [$[$ids:term],*])
def wys:List Str:=["row", "back", "even", "lack", "part", "half"]
def wOK (w:Str) (ws:List Int) (m:Nat):Prop:=(w = "even" ∨ w = "lack")/\ws.length=m/\(∀ x∈ws,1<=x/\x<=10^6)∨¬ (w = "even" ∨ w = "lack")/\ws=[]
def IsC:Nat->D->Prop
 | 0,_=>False
 | n+1,d=>(∃ c:Int,d=.tup [.str "boat", .int c])∨∃ (w:Str) (ws:List Int) (ks:List D),d=.tup [.str w,.tup (ws.map D.int),.tup ks]/\(w == "boat")=false/\0 < ks.length/\ks.length<=100/\ws.length<=100/\(w∈wys/\wOK w ws ks.length)/\∀ k∈ks,IsC n k
def clm:Nat->D->List Int
 | 0,_=>[]
 | n+1,d=>match d with
  | .tup [_,.int c]=>[c]
  | .tup [_,_,.tup ks]=>ks.flatMap (clm n)
  | _=>[]
def dpt:Nat->D->Int
 | 0,_=>0
 | n+1,d=>match d with
  | .tup [_,_,.tup ks]=>1+mx0 (ks.map (dpt n))
  | _=>1
theorem jW {c:Int}:bN [.tup [.str "boat", .int c]]=.ok (.v (.bl true)):=by
 unfold bN
 walk_at "ev"
theorem jM {w:Str} {a b:D} (h:(w == "boat")=false):bN [.tup [.str w,a,b]]=.ok (.v (.bl false)):=by
 unfold bN
 walk_at "ev"
 rw [h]
theorem xJ {c:Int}:bG [.tup [.str "boat", .int c]]=.ok (.v (.tup [])):=by
 unfold bG
 walk_at "ev"
 rw [jW]
 walk_at "ev"
theorem gQ {w:Str} {a b:D} (h:(w == "boat")=false):bG [.tup [.str w,a,b]]=.ok (.v b):=by
 unfold bG
 walk_at "ev"
 rw [jM h]
 walk_at "ev"
theorem zDM {ks:List D} {n i:Nat}:((ks.take i).flatMap (clm n)).length<=(ks.flatMap (clm n)).length:=by
 conv=>rhs;rw [<-List.take_append_drop i ks,List.flatMap_append,List.length_append]
 exact Nat.le_add_right _ _
theorem zFK {ks:List D} {n:Nat} {k:D} (h:k∈ks):(clm n k).length<=(ks.flatMap (clm n)).length:=by
 obtain ⟨a,b,rfl⟩:=List.append_of_mem h
 rw [List.flatMap_append,List.flatMap_cons,List.length_append,List.length_append]
 omega
theorem eG:∀ (n:Nat) (d:D),IsC n d->(clm n d).length<=1000->bE n [d]=.ok (.f ((clm n d).map D.int))
 | 0,d,h,_=>h.elim
 | n+1,d,h,hl=>by
  show fI (bE n) [d]=_
  unfold fI
  walk_at "ev"
  rcases h with ⟨c,rfl⟩ | ⟨w,ws,ks,rfl,hw,k0,k1,w1,hy,hk⟩
  ·rw [jW]
   walk_at "ev"
   rfl
  ·rw [jM hw]
   walk_at "ev"
   rw [gQ hw]
   walk_at "ev"
   refine jT (Q:=fun r=>r.bind fin=.ok (.f ((ks.flatMap (clm n)).map D.int))) (fun i ρ=>∃ a,ρ=[.val (.tup [.str w,.tup (ws.map D.int),.tup ks]),.own (((ks.take i).flatMap (clm n)).map D.int),a]) ⟨_,rfl⟩ ?_ ?_
   ·rintro i e ρ he ⟨a,rfl⟩
    have hm:=List.mem_of_getElem? he
    have hl':(ks.flatMap (clm n)).length<=1000:=hl
    have l1:=zFK (n:=n) hm
    have l2:=zDM (ks:=ks) (n:=n) (i:=i)
    walk_at "ev"
    rw [eG n e (hk e hm) (by omega)]
    walk_at "ev"
    rw [if_pos (by omega)]
    refine ⟨_,rfl,.val e,?_⟩
    rw [pB he,List.flatMap_append,List.map_append]
    simp [List.flatMap]
   ·rintro ρ' ⟨a,rfl⟩
    walk_at "ev"
    rw [List.take_length]
theorem kF:∀ (n:Nat) (d:D),IsC n d->(clm n d).length<=1000->cK n [d]=.ok (.v (.lst ((clm n d).map D.int)))
 | 0,d,h,_=>h.elim
 | n+1,d,h,hl=>by
  show eQ (cK n) [d]=_
  unfold eQ
  walk_at "ev"
  rcases h with ⟨c,rfl⟩ | ⟨w,ws,ks,rfl,hw,k0,k1,w1,hy,hk⟩
  ·walk_at "ev"
   rfl
  ·walk_at "ev"
   rw [hw]
   walk_at "ev"
   refine jT (Q:=fun r=>r.bind fin=.ok (.v (.lst ((ks.flatMap (clm n)).map D.int)))) (fun i ρ=>∃ a,ρ=[.val (.tup [.str w,.tup (ws.map D.int),.tup ks]),.val (.lst (((ks.take i).flatMap (clm n)).map D.int)),a]) ⟨_,rfl⟩ ?_ ?_
   ·rintro i e ρ he ⟨a,rfl⟩
    have hm:=List.mem_of_getElem? he
    have hl':(ks.flatMap (clm n)).length<=1000:=hl
    have l1:=zFK (n:=n) hm
    have l2:=zDM (ks:=ks) (n:=n) (i:=i)
    walk_at "ev"
    rw [kF n e (hk e hm) (by omega)]
    walk_at "ev"
    rw [if_pos (by omega)]
    walk_at "ev"
    refine ⟨_,rfl,.val e,?_⟩
    rw [pB he,List.flatMap_append,List.map_append]
    simp [List.flatMap]
   ·rintro ρ' ⟨a,rfl⟩
    walk_at "ev"
    rw [List.take_length]
theorem tR:∀ (n:Nat) (d:D),IsC n d->dW n [d]=.ok (.v (.int (dpt n d)))
 | 0,d,h=>h.elim
 | n+1,d,h=>by
  show jC (dW n) [d]=_
  unfold jC
  walk_at "ev"
  rcases h with ⟨c,rfl⟩ | ⟨w,ws,ks,rfl,hw,k0,k1,w1,hy,hk⟩
  ·rw [xJ]
   walk_at "ev"
   rfl
  ·rw [gQ hw]
   walk_at "ev"
   have e:=vR (u:=fun k=>k) (g:=fun k=>.int (dpt n k)) (l:=ks) (f:=bK (dW n) (aD (aG 1) aNil)) (ρ:=[.val (.tup [.str w,.tup (ws.map D.int),.tup ks])]) (by omega) (fun k hm=>by
    walk_at "ev"
    rw [tR n k (hk k hm)]
    walk_at "ev")
   rw [List.map_id'] at e
   rw [e]
   walk_at "ev"
   rw [zBw]
   walk_at "ev"
   rfl
def dOK:Nat->D->Prop
 | 0,_=>False
 | n+1,d=>(∃ i,d=.int i)∨(∃ x,d=.str x)∨∃ ds,d=.tup ds/\ds.length<=1000/\∀ e∈ds,dOK n e
theorem zCJ:∀ {n m:Nat} {d:D},dOK n d->n<=m->dOK m d
 | 0,_,_,h,_=>h.elim
 | n+1,0,_,_,l=>absurd l (by omega)
 | n+1,m+1,d,h,l=>by
  rcases h with h | h | ⟨ds,rfl,hl,he⟩
  ·exact .inl h
  ·exact .inr (.inl h)
  ·exact .inr (.inr ⟨ds,rfl,hl,fun e h=>zCJ (he e h) (by omega)⟩)
theorem zAW:∀ (n:Nat) (d:D),IsC n d->dOK (2 * n+1) d
 | 0,d,h=>h.elim
 | n+1,d,h=>by
  rcases h with ⟨c,rfl⟩ | ⟨w,ws,ks,rfl,hw,k0,k1,w1,hy,hk⟩
  ·refine .inr (.inr ⟨_,rfl,by simp,fun e he=>?_⟩)
   rcases List.mem_cons.mp he with rfl | he
   ·exact .inr (.inl ⟨_,rfl⟩)
   ·rw [List.mem_singleton.mp he];exact .inl ⟨_,rfl⟩
  ·refine .inr (.inr ⟨_,rfl,by simp,fun e he=>?_⟩)
   rcases List.mem_cons.mp he with rfl | he
   ·exact .inr (.inl ⟨_,rfl⟩)
   ·rcases List.mem_cons.mp he with rfl | he
    ·refine .inr (.inr ⟨_,rfl,by rw [List.length_map];omega,fun x hx=>?_⟩)
     obtain ⟨i,_,rfl⟩:=List.mem_map.mp hx
     exact .inl ⟨_,rfl⟩
    ·rw [List.mem_singleton.mp he]
     exact .inr (.inr ⟨_,rfl,by omega,fun x hx=>zAW n x (hk x hx)⟩)
theorem uC:∀ (n:Nat) (d:D),dOK n d->noL d=true
 | 0,d,h=>h.elim
 | n+1,d,h=>by
  rcases h with ⟨i,rfl⟩ | ⟨x,rfl⟩ | ⟨ds,rfl,hl,he⟩
  ·simp [noL]
  ·simp [noL]
  ·rw [noL]
   clear hl
   induction ds with
   | nil=>rfl
   | cons a r ih=>rw [noLs,uC n a (he a List.mem_cons_self),ih fun e h=>he e (List.mem_cons_of_mem _ h)];rfl
theorem dN:∀ {n m:Nat} {d:D},IsC n d->n<=m->IsC m d
 | 0,_,_,h,_=>h.elim
 | n+1,0,_,_,l=>absurd l (by omega)
 | n+1,m+1,d,h,l=>by
  rcases h with h | ⟨w,ws,ks,rfl,hw,k0,k1,w1,hy,hk⟩
  ·exact .inl h
  ·exact .inr ⟨w,ws,ks,rfl,hw,k0,k1,w1,hy,fun k h=>dN (hk k h) (by omega)⟩
theorem dE:∀ {n m:Nat} {d:D},IsC n d->n<=m->clm m d=clm n d
 | 0,_,_,h,_=>h.elim
 | n+1,0,_,_,l=>absurd l (by omega)
 | n+1,m+1,d,h,l=>by
  rcases h with ⟨c,rfl⟩ | ⟨w,ws,ks,rfl,hw,k0,k1,w1,hy,hk⟩
  ·rfl
  ·show ks.flatMap (clm m)=ks.flatMap (clm n)
   rw [List.flatMap_def,List.flatMap_def]
   congr 1
   exact List.map_congr_left fun k h=>dE (hk k h) (by omega)
theorem wA:∀ {n m:Nat} {d:D},IsC n d->n<=m->dpt m d=dpt n d
 | 0,_,_,h,_=>h.elim
 | n+1,0,_,_,l=>absurd l (by omega)
 | n+1,m+1,d,h,l=>by
  rcases h with ⟨c,rfl⟩ | ⟨w,ws,ks,rfl,hw,k0,k1,w1,hy,hk⟩
  ·rfl
  ·show 1+mx0 (ks.map (dpt m))=1+mx0 (ks.map (dpt n))
   rw [List.map_congr_left fun k h=>wA (hk k h) (by omega)]
theorem zHf:∀ {l:List Int} {b:Int},0<=b->(∀ x∈l,x<=b)->mx0 l<=b
 | [],b,h,_=>h
 | a::r,b,_,h=>by
  have key:∀ (r:List Int) (a:Int),a<=b->(∀ x∈r,x<=b)->qC a r<=b:=by
   intro r
   induction r with
   | nil=>intro a ha _;exact ha
   | cons c r ih=>
    intro a ha hr
    rw [qC]
    refine ih _ ?_ fun x hx=>hr x (List.mem_cons_of_mem _ hx)
    split
    ·exact hr c List.mem_cons_self
    ·exact ha
  exact key r a (h a List.mem_cons_self) fun x hx=>h x (List.mem_cons_of_mem _ hx)
theorem zHx:∀ {l:List Int} {x:Int},x∈l->x<=mx0 l
 | [],_,h=>by cases h
 | a::r,x,h=>by
  have key:∀ (r:List Int) (a:Int),a<=qC a r/\∀ x∈r,x<=qC a r:=by
   intro r
   induction r with
   | nil=>intro a;exact ⟨Int.le_refl _,fun x h=>by cases h⟩
   | cons c r ih=>
    intro a
    rw [qC]
    have h1:=ih (if c > a then c else a)
    refine ⟨Int.le_trans ?_ h1.1,fun x hx=>?_⟩
    ·split<;>omega
    ·rcases List.mem_cons.mp hx with rfl | hx
     ·refine Int.le_trans ?_ h1.1;split<;>omega
     ·exact h1.2 x hx
  rcases List.mem_cons.mp h with rfl | h
  ·exact (key r x).1
  ·exact (key r a).2 x h
theorem yZ:∀ {n:Nat} {d:D},IsC n d->1<=dpt n d/\dpt n d<=n
 | 0,_,h=>h.elim
 | n+1,d,h=>by
  rcases h with ⟨c,rfl⟩ | ⟨w,ws,ks,rfl,hw,k0,k1,w1,hy,hk⟩
  ·exact ⟨by show (1:Int)<=1;omega,by show (1:Int)<=_;omega⟩
  ·have h1:mx0 (ks.map (dpt n))<=n:=zHf (by omega) fun x hx=>by
    obtain ⟨k,hk',rfl⟩:=List.mem_map.mp hx
    exact (yZ (hk k hk')).2
   have h2:0<=mx0 (ks.map (dpt n)):=by
    cases ks with
    | nil=>cases k0
    | cons k r=>exact Int.le_trans (by have:=(yZ (hk k List.mem_cons_self)).1;omega) (zHx (x:=dpt n k) (by simp))
   exact ⟨by show 1<=1+mx0 (ks.map (dpt n));omega,by show 1+mx0 (ks.map (dpt n))<=((n+1:Nat):Int);omega⟩
theorem zAv {w:Str} (h:w∈wys):(cE.lookup w).isSome=true/\(w == "boat")=false:=by
 simp only [wys,List.mem_cons,List.not_mem_nil,or_false] at h
 rcases h with rfl | rfl | rfl | rfl | rfl | rfl<;>decide
theorem rH {w:Str} (h:w∈wys):dI [.str w]=.ok (.v .non):=by
 unfold dI
 walk_at "ev"
 rw [(zAv h).1]
 walk_at "ev"
theorem zFs {w:Str}:oIn (.str w) (.tup [.str "even", .str "lack"])=.ok (.bl (decide (w = "even" ∨ w = "lack"))):=by
 show (if depS [D.str "even", D.str "lack"]<=50 then Res.ok (D.bl (((Str.ofString "even")==w) || (((Str.ofString "lack")==w) || false))) else .no)=_
 rw [if_pos (by decide),Bool.or_false]
 congr 2
 by_cases h1:w = "even"
 ·subst h1;decide
 ·by_cases h2:w = "lack"
  ·subst h2;decide
  ·rw [decide_eq_false (fun h=>h.elim h1 h2),beq_eq_false_iff_ne.mpr (Ne.symm h1),beq_eq_false_iff_ne.mpr (Ne.symm h2)];rfl
theorem kY {w:Str} {ws:List Int} {m:Nat} {d:D} (hd:d=.lst (ws.map D.int)∨d=.tup (ws.map D.int)) (h:wOK w ws m):bV [.str w,d,.int m]=.ok (.v .non):=by
 have sq:zIw d=.ok (ws.map D.int):=by rcases hd with rfl | rfl<;>rfl
 have ln:iD [d]=.ok (.int (ws.length:Int)):=by rcases hd with rfl | rfl<;>simp [bLen_l,bLen_t]
 have fine:∀ x∈ws,1<=x/\x<=10^6:=by
  rcases h with ⟨_,_,h⟩ | ⟨_,rfl⟩
  ·exact h
  ·intro x hx;cases hx
 have rest:∀ a:Sl,(cQ [.val (.str w),.val d,.val (.int m),a,.un]).bind fin=.ok (.v .non):=by
  intro a
  walk_at "ev"
  rw [sq]
  walk_at "ev"
  refine zAS (Q:=fun r:Res Rt=>r=.ok (.v .non)) (fun ρ=>∃ b,ρ=[.val (.str w),.val d,.val (.int m),a,b]) ⟨_,rfl⟩ ?_ ?_
  ·rintro e ρ he ⟨b,rfl⟩
   obtain ⟨x,hx,rfl⟩:=List.mem_map.mp he
   have hf:=fine x hx
   walk_at "ev"
   rw [decide_eq_false (by omega)]
   walk_at "ev"
   rw [oPow_i (by decide)]
   walk_at "ev"
   rw [decide_eq_false (by omega)]
   walk_at "ev"
   exact ⟨_,rfl,_,rfl⟩
  ·rintro ρ' ⟨b,rfl⟩
   rfl
 unfold bV
 walk_at "ev"
 rw [zFs]
 unfold eR
 generalize (cQ:Sv)=K at rest ⊢
 rcases h with ⟨hw,hl,_⟩ | ⟨hw,rfl⟩
 ·rw [decide_eq_true hw]
  walk_at "ev"
  rw [ln]
  walk_at "ev"
  rw [hl]
  walk_at "ev"
  exact rest _
 ·rw [decide_eq_false hw]
  walk_at "ev"
  rw [ln]
  walk_at "ev"
  rw [show decide (((0:Nat):Int)=0)=true from rfl]
  walk_at "ev"
  exact rest _
theorem zHk {c:Int} (h0:0<=c) (h1:c<=10^9):rP [.int c]=.ok (.v (.tup [.str "boat", .int c])):=by
 unfold rP
 walk_at "ev"
 rw [decide_eq_false (by omega)]
 walk_at "ev"
 rw [decide_eq_false (by omega)]
 walk_at "ev"
theorem zGM {w:Str} {ws:List Int} {ks:List D} {n:Nat} {wd:D} (hd:wd=.lst (ws.map D.int)∨wd=.tup (ws.map D.int)) (hw:w∈wys) (hs:wOK w ws ks.length) (l1:ws.length<=100) (k0:0 < ks.length) (k1:ks.length<=100) (hn:n<=7) (hk:∀ k∈ks,IsC n k) (hc:(ks.flatMap (clm n)).length<=12):
  tQ [.str w,wd,.lst ks]=.ok (.v (.tup [.str w,.tup (ws.map D.int),.tup ks]))/\IsC (n+1) (.tup [.str w,.tup (ws.map D.int),.tup ks]):=by
 have bt:zCe [wd]=.ok (.tup (ws.map D.int)):=by rcases hd with rfl | rfl<;>rfl
 have ic:IsC (n+1) (.tup [.str w,.tup (ws.map D.int),.tup ks]):=.inr ⟨w,ws,ks,rfl,(zAv hw).2,k0,k1,l1,⟨hw,hs⟩,hk⟩
 have ic':=dN ic (show n+1<=10 by omega)
 have ec:=dE ic (show n+1<=10 by omega)
 have lc:(clm 10 (.tup [.str w,.tup (ws.map D.int),.tup ks])).length<=12:=by rw [ec];exact hc
 have dd:dpt 10 (.tup [.str w,.tup (ws.map D.int),.tup ks])<=8:=by
  rw [wA ic (show n+1<=10 by omega)]
  have:=(yZ ic).2
  omega
 refine ⟨?_,ic⟩
 unfold tQ
 walk_at "ev"
 rw [rH hw]
 walk_at "ev"
 rw [kY hd hs]
 walk_at "ev"
 rw [bt]
 walk_at "ev"
 rw [decide_eq_false (by omega)]
 walk_at "ev"
 rw [eG 10 _ ic' (by omega)]
 walk_at "ev"
 rw [decide_eq_false (by omega)]
 walk_at "ev"
 rw [tR 10 _ ic']
 walk_at "ev"
 rw [decide_eq_false (by omega)]
 walk_at "ev"
structure Pl (L:List (D×Int)) (boats:Int):Prop where
 each:∀ p∈L,1<=p.2/\p.2<=7/\IsC p.2.toNat p.1
 few:((L.flatMap fun p=>clm 7 p.1).length:Int)<=boats
 most:boats<=12
theorem zBL:∀ {l:List D},(∀ d∈l,noL d=true)->noLs l=true
 | [],_=>rfl
 | a::r,h=>by rw [noLs,h a List.mem_cons_self,zBL fun d hd=>h d (List.mem_cons_of_mem _ hd)];rfl
theorem Pl.noL {L:List (D×Int)} {b:Int} (h:Pl L b):∀ d∈L.map Prod.fst,noL d=true:=fun d hd=>by
 obtain ⟨p,hp,rfl⟩:=List.mem_map.mp hd
 exact uC _ _ (zAW _ _ (h.each p hp).2.2)
theorem zDN:∀ {n:Nat} {d:D},dOK n d->dep d<=n
 | 0,_,h=>h.elim
 | n+1,d,h=>by
  rcases h with ⟨i,rfl⟩ | ⟨x,rfl⟩ | ⟨ds,rfl,hl,he⟩
  ·simp [dep]
  ·simp [dep]
  ·rw [dep]
   clear hl
   have:depS ds<=n:=by
    induction ds with
    | nil=>simp [depS]
    | cons a r ih=>
     rw [depS]
     exact Nat.max_le.mpr ⟨zDN (he a List.mem_cons_self),ih fun e h=>he e (List.mem_cons_of_mem _ h)⟩
   omega
theorem zEr {n:Nat}:∀ {ds:List D},(∀ d∈ds,dOK n d)->depS ds<=n
 | [],_=>by simp [depS]
 | a::r,h=>by rw [depS];exact Nat.max_le.mpr ⟨zDN (h a List.mem_cons_self),zEr fun e he=>h e (List.mem_cons_of_mem _ he)⟩
def ctr (w:Str):Str:=(cE.lookup w).getD w
theorem zEG {w:Str} (h:w∈wys):ctr w∈wys/\ctr (ctr w)=w/\((ctr w = "even" ∨ ctr w = "lack") ↔ (w = "even" ∨ w = "lack"))/\cE.lookup w=some (ctr w):=by
 simp only [wys,List.mem_cons,List.not_mem_nil,or_false] at h
 rcases h with rfl | rfl | rfl | rfl | rfl | rfl<;>decide
theorem wL {a:D} {l:List D}:fS [.tup (a::l)]=.ok (.v a):=by
 unfold fS
 walk_at "ev"
theorem sT {a b:D} {l:List D}:cN [.tup (a::b::l)]=.ok (.v b):=by
 unfold cN
 walk_at "ev"
def con:Nat->D->D
 | 0,d=>d
 | n+1,d=>match d with
  | .tup [.str w,ws,.tup ks]=>.tup [.str (ctr w),ws,.tup (ks.map (con n))]
  | d=>d
theorem zEi:∀ (n:Nat) (d:D),IsC n d->con n (con n d)=d
 | 0,_,h=>h.elim
 | n+1,d,h=>by
  rcases h with ⟨c,rfl⟩ | ⟨w,ws,ks,rfl,hw,k0,k1,w1,hy,hk⟩
  ·rfl
  ·show D.tup [.str (ctr (ctr w)),.tup (ws.map D.int),.tup ((ks.map (con n)).map (con n))]=_
   rw [(zEG hy.1).2.1,List.map_map]
   rw [List.map_congr_left (f:=con n ∘ con n) (g:=id) fun k h=>zEi n k (hk k h),List.map_id]
theorem cS (ns:List Int) (k:Int) (h:0<=k):aX [.lst (ns.map D.int),.int k]=.ok (.v (.int (ns.getD k.toNat 0))):=by
 unfold aX
 walk_at "ev"
 by_cases c:k < (ns.length:Int)
 ·rw [decide_eq_true c]
  walk_at "ev"
  have hk:k.toNat < ns.length:=by omega
  rw [mD h (List.getElem?_eq_getElem hk),List.getD_eq_getElem?_getD,List.getElem?_eq_getElem hk]
  rfl
 ·rw [decide_eq_false c]
  walk_at "ev"
  rw [List.getD_eq_getElem?_getD,List.getElem?_eq_none (by omega)]
  rfl
theorem uB {x y:Str} (hl:y.length<=1000):eH [.str x,.str y]=.ok (.v (.bl (y.cps.toList.all fun c=>inS ⟨#[c]⟩ x))):=by
 unfold eH
 walk_at "ev"
 rw [vR (u:=fun c=>.str ⟨#[c]⟩) (g:=fun c=>.bl (inS ⟨#[c]⟩ x)) (by rw [Array.length_toList];show y.length<=16777215;omega) (fun c _=>by walk_at "ev")]
 walk_at "ev"
 rw [zCm]
 walk_at "ev"
abbrev abc:Str:=Str.ofString "abcdefghijklmnopqrstuvwxyz"
def lts (x:Str):Bool:=x.cps.toList.all fun c=>inS ⟨#[c]⟩ abc
def isN (x:Str):Bool:=decide (1<=x.length/\x.length<=12) && lts x
theorem zM {x:Str} (hl:x.length<=1000):fY [.str x]=.ok (.v (.bl (isN x))):=by
 have hz:x.length<=sizeLine:=Nat.le_trans hl (by decide)
 unfold fY isN
 walk_at "ev"
 rw [if_pos hz]
 walk_at "ev"
 by_cases c1:(1:Int)<=(x.length:Int)
 ·rw [decide_eq_true c1]
  walk_at "ev"
  by_cases c2:(x.length:Int)<=12
  ·rw [decide_eq_true c2,decide_eq_true (show 1<=x.length/\x.length<=12 by omega)]
   walk_at "ev"
   rw [uB hl]
   walk_at "ev"
   rfl
  ·rw [decide_eq_false c2,decide_eq_false (show ¬ (1<=x.length/\x.length<=12) by omega)]
   walk_at "ev"
 ·rw [decide_eq_false c1,decide_eq_false (show ¬ (1<=x.length/\x.length<=12) by omega)]
  walk_at "ev"
def sG (ns:List Str) (k:Nat):Bool:=!isN (ns.getD k Str.empty) || (ns.take k).any fun y=>y==ns.getD k Str.empty
theorem lX {g:Gv} {b:Sv} {r0:Res Fl} (hr:(∃ c,r0=.err c)∨∃ r,r0=.ok (.ret r)) (P:Rho->Prop):∀ (ds:List D) (j:Nat) (bad:Nat->Bool) (ρ:Rho),P ρ->
  (∀ i d ρ,ds[i]?=some d->P ρ->(bad (j+i)=false->∃ ρ1 ρ2,g d ρ=.ok ρ1/\b ρ1=.ok (.nx ρ2)/\P ρ2)/\(bad (j+i)=true->∃ ρ1,g d ρ=.ok ρ1/\b ρ1=r0))->
  ((∃ i,i < ds.length/\bad (j+i)=true)->loop g b ds ρ=r0)/\((∀ i,i < ds.length->bad (j+i)=false)->∃ ρ',loop g b ds ρ=.ok (.nx ρ')/\P ρ')
 | [],j,bad,ρ,h0,st=>⟨fun ⟨i,h,_⟩=>absurd h (Nat.not_lt_zero _),fun _=>⟨ρ,rfl,h0⟩⟩
 | d::ds,j,bad,ρ,h0,st=>by
  obtain ⟨s1,s2⟩:=st 0 d ρ rfl h0
  rw [Nat.add_zero] at s1 s2
  cases hb:bad j with
  | true=>
   obtain ⟨ρ1,e1,e2⟩:=s2 hb
   refine ⟨fun _=>?_,fun h=>?_⟩
   ·rw [loop]
    simp only [e1,Res.bind,e2]
    rcases hr with ⟨c,rfl⟩ | ⟨r,rfl⟩<;>rfl
   ·have:=h 0 (Nat.succ_pos _)
    rw [Nat.add_zero,hb] at this;cases this
  | false=>
   obtain ⟨ρ1,ρ2,e1,e2,p2⟩:=s1 hb
   have ih:=lX hr P ds (j+1) bad ρ2 p2 (fun i d ρ hd hp=>by
    have:=st (i+1) d ρ hd hp
    rw [show j+1+i=j+(i+1) by omega]
    exact this)
   rw [gF e1 e2]
   refine ⟨fun ⟨i,hi,hbi⟩=>ih.1 ?_,fun h=>ih.2 fun i hi=>?_⟩
   ·cases i with
    | zero=>rw [Nat.add_zero,hb] at hbi;cases hbi
    | succ i=>exact ⟨i,Nat.lt_of_succ_lt_succ hi,by rw [show j+1+i=j+(i+1) by omega];exact hbi⟩
   ·rw [show j+1+i=j+(i+1) by omega]
    exact h (i+1) (Nat.succ_lt_succ hi)
theorem wH:∀ {ds:List D} {n i:Nat} {d:D},(gI n ds)[i]?=some d->∃ a,ds[i]?=some a/\d=.tup [.int ((n+i:Nat):Int),a]
 | a::r,n,0,d,h=>by cases h;exact ⟨a,rfl,rfl⟩
 | a::r,n,i+1,d,h=>by
  obtain ⟨b,h1,h2⟩:=wH (ds:=r) (n:=n+1) (i:=i) h
  exact ⟨b,h1,by rw [h2];congr 4;omega⟩
 | [],n,i,d,h=>by cases i<;>cases h
theorem wO:∀ (ds:List D) (n:Nat),(gI n ds).length=ds.length
 | a::r,n=>by simp only [gI,List.length_cons,wO r (n+1)]
 | [],n=>rfl
def Nms (ns:List Str):Prop:=ns.length<=100/\∀ x∈ns,x.length<=1000
theorem vX:∀ ns:List Str,depS (ns.map D.str)<=0
 | []=>Nat.le_refl _
 | a::l=>by rw [List.map_cons];show max 0 (depS (l.map D.str))<=0;have:=vX l;omega
theorem zFI {x:Str} {ns:List Str} {d:D} (hd:d=.lst (ns.map D.str)∨d=.tup (ns.map D.str)):oIn (.str x) d=.ok (.bl (ns.any fun y=>y==x)):=by
 have e:depS (ns.map D.str)<=50:=Nat.le_trans (vX ns) (by decide)
 rcases hd with rfl | rfl
 ·show (if depS (ns.map D.str)<=50 then Res.ok (D.bl ((ns.map D.str).any fun e=>eqD e (.str x))) else .no)=_
  rw [if_pos e,List.any_map]
  congr 2
 ·show (if depS (ns.map D.str)<=50 then Res.ok (D.bl ((ns.map D.str).any fun e=>eqD e (.str x))) else .no)=_
  rw [if_pos e,List.any_map]
  congr 2
def mI (ns:List Str):Prop:=∃ i,i < ns.length/\sG ns i=true
theorem zDA {ns:List Str} (h:¬ mI ns):∀ i,i < ns.length->sG ns i=false:=fun i hi=>by
 cases q:sG ns i with
 | false=>rfl
 | true=>exact absurd ⟨i,hi,q⟩ h
theorem zAp {ns:List Str} {i:Nat} {x:Str} (h:ns[i]?=some x):ns.getD i Str.empty=x:=by rw [List.getD_eq_getElem?_getD,h];rfl
theorem nR {d nd:D} {ns:List Str} (hd:nd=.lst (ns.map D.str)∨nd=.tup (ns.map D.str)) (hn:Nms ns) (ic:IsC 10 d) (hl:(clm 10 d).length<=1000):
  (ns.length≠(clm 10 d).length->aP [d,nd]=.err "Unlike")/\(ns.length=(clm 10 d).length->mI ns->aP [d,nd]=.err "NoText")/\(ns.length=(clm 10 d).length->¬ mI ns->aP [d,nd]=.ok (.v .non)):=by
 have ln:iD [nd]=.ok (.int ns.length):=by rcases hd with rfl | rfl<;>(walk_at "ev")
 have en:zDr nd=.ok (gI 0 (ns.map D.str)):=by rcases hd with rfl | rfl<;>rfl
 have sl:∀ k:Nat,k < ns.length->∃ sd,zFk nd none (some (k:Int))=.ok sd/\(sd=.lst ((ns.take k).map D.str)∨sd=.tup ((ns.take k).map D.str)):=by
  intro k hk
  have e:bW (ns.map D.str) none (some (k:Int))=(ns.take k).map D.str:=by rw [wT (by omega),<-List.map_take];rfl
  rcases hd with rfl | rfl
  ·exact ⟨_,by rw [slQG_l,e],.inl rfl⟩
  ·exact ⟨_,by rw [slQG_t,e],.inr rfl⟩
 have key:=lX (g:=zCb (jA (gName 2) (jA (gName 3) zBV))) (b:=cI) (r0:=.err "NoText") (.inl ⟨_,rfl⟩) (fun ρ=>∃ a b,ρ=[.val d,.val nd,a,b]) (gI 0 (ns.map D.str)) 0 (sG ns) [.val d,.val nd,.un,.un] ⟨_,_,rfl⟩ (by
  rintro i e ρ he ⟨a,b,rfl⟩
  obtain ⟨x,hx,rfl⟩:=wH he
  rw [List.getElem?_map] at hx
  cases q:ns[i]? with
  | none=>rw [q] at hx;cases hx
  | some y=>
   rw [q] at hx
   cases hx
   have hi:=(List.getElem?_eq_some_iff.mp q).1
   have hy:=hn.2 y (List.mem_of_getElem? q)
   obtain ⟨sd,e1,e2⟩:=sl i hi
   rw [Nat.zero_add]
   have bd:sG ns i=(!isN y || (ns.take i).any fun z=>z==y):=by unfold sG;rw [zAp q]
   have run:cI [.val d,.val nd,.val (.int (i:Int)),.val (.str y)]=if sG ns i=true then .err "NoText" else .ok (.nx [.val d,.val nd,.val (.int (i:Int)),.val (.str y)]):=by
    rw [bd]
    walk_at "ev"
    rw [zM hy]
    walk_at "ev"
    cases z:isN y with
    | false=>walk_at "ev"
    | true=>
     walk_at "ev"
     rw [e1]
     walk_at "ev"
     rw [zFI e2]
     walk_at "ev"
     cases z2:(ns.take i).any fun z=>z==y with
     | true=>walk_at "ev"
     | false=>walk_at "ev"
   refine ⟨fun h=>⟨[.val d,.val nd,.val (.int (i:Int)),.val (.str y)],_,rfl,by rw [run,h];rfl,_,_,rfl⟩,fun h=>⟨[.val d,.val nd,.val (.int (i:Int)),.val (.str y)],rfl,by rw [run,h];rfl⟩⟩)
 simp only [Nat.zero_add,wO,List.length_map] at key
 have start:aP [d,nd]=if ns.length≠(clm 10 d).length then .err "Unlike" else ((loop (zCb (jA (gName 2) (jA (gName 3) zBV))) cI (gI 0 (ns.map D.str)) [.val d,.val nd,.un,.un]).bind fin):=by
  unfold aP
  walk_at "ev"
  rw [ln]
  walk_at "ev"
  rw [eG 10 d ic hl]
  walk_at "ev"
  by_cases c:ns.length=(clm 10 d).length
  ·rw [decide_eq_true (by omega),if_neg (fun z=>z c)]
   walk_at "ev"
   rw [en]
   walk_at "ev"
  ·rw [decide_eq_false (by omega),if_pos c]
   walk_at "ev"
 refine ⟨fun h=>by rw [start,if_pos h],fun h hb=>?_,fun h hb=>?_⟩
 ·rw [start,if_neg (fun z=>z h),key.1 hb];rfl
 ·obtain ⟨ρ',e,a,b,rfl⟩:=key.2 (zDA hb)
  rw [start,if_neg (fun z=>z h),e];rfl
theorem zEq (x:Str):Str.empty++x=x:=by
 show (⟨#[]++x.cps⟩:Str)=x
 rw [Array.empty_append]
abbrev glu (l:List Str):Str:=Builtin.Str.glued (Str.ofString ", ") l
theorem zIo {l:List Str} (x:Str) (h:l≠[]):glu (l++[x])=glu l++Str.ofString ", " ++ x:=by
 cases l with
 | nil=>exact absurd rfl h
 | cons a r=>
  show (⟨(r++[x]).foldl (fun acc p=>acc++(Str.ofString ", ").cps++p.cps) a.cps⟩:Str)=⟨r.foldl (fun acc p=>acc++(Str.ofString ", ").cps++p.cps) a.cps++(Str.ofString ", ").cps++x.cps⟩
  rw [List.foldl_append]
  rfl
def nM (l:List Str):Nat:=(l.map fun x=>x.length+2).sum
theorem zIl (l m:List Str):nM (l++m)=nM l+nM m:=by unfold nM;rw [List.map_append,List.sum_append]
theorem wW:∀ (l:List Str) (n:Nat),l.foldl (fun n x=>n+x.length+(Str.ofString ", ").length) n=n+nM l
 | [],n=>rfl
 | x::l,n=>by
  rw [List.foldl_cons,wW l]
  show n+x.length+2+nM l=n+((x.length+2)+nM l)
  omega
theorem zAZ:∀ l:List Str,(glu l).length<=nM l:=by
 intro l
 suffices h:∀ (r:List Str) (a:Array Nat),(r.foldl (fun acc p=>acc++(Str.ofString ", ").cps++p.cps) a).size<=a.size+nM r by
  cases l with
  | nil=>exact Nat.zero_le _
  | cons a r=>
   have:=h r a.cps
   show (r.foldl _ a.cps).size<=(a.cps.size+2)+nM r
   omega
 intro r
 induction r with
 | nil=>intro a;exact Nat.le_refl _
 | cons x r ih=>
  intro a
  refine Nat.le_trans (ih _) ?_
  rw [Array.size_append,Array.size_append]
  show a.size+2+x.length+nM r<=a.size+((x.length+2)+nM r)
  omega
def nK (f:D->List Str->Str) (m:D->Nat):List D->List Str->List Str
 | [],_=>[]
 | k::r,ns=>f k ns::nK f m r (ns.drop (m k))
theorem qA (f:D->List Str->Str) (m:D->Nat):∀ (ks:List D) (ns:List Str),(nK f m ks ns).length=ks.length
 | [],_=>rfl
 | k::r,ns=>by simp only [nK,List.length_cons,qA f m r]
def ofs (m:D->Nat) (ks:List D) (i:Nat):Nat:=((ks.take i).map m).sum
theorem zEX {f:D->List Str->Str} {m:D->Nat}:∀ {ks:List D} {ns:List Str} {i:Nat} {k:D},ks[i]?=some k->(nK f m ks ns)[i]?=some (f k (ns.drop (ofs m ks i)))
 | [],ns,i,k,h=>by cases i<;>cases h
 | a::r,ns,0,k,h=>by cases h;rfl
 | a::r,ns,i+1,k,h=>by
  have:=zEX (f:=f) (m:=m) (ks:=r) (ns:=ns.drop (m a)) (i:=i) h
  show (nK f m r (ns.drop (m a)))[i]?=some (f k (ns.drop (m a+ofs m r i)))
  rw [this,List.drop_drop]
def zGm:D->Str
 | .int i=>toString i
 | _=>Str.empty
def isW (w:Str):Prop:=w = "even" ∨ w = "lack"
instance (w:Str):Decidable (isW w):=inferInstanceAs (Decidable (_∨_))
def pts (w:Str) (ws:List D) (ts:List Str):List Str:=if isW w then List.zipWith (fun x t=>zGm x++Str.ofString " " ++ t) ws ts else ts
def txt:Nat->D->List Str->Str
 | 0,_,_=>Str.empty
 | n+1,d,ns=>match d with
  | .tup [_,.int c]=>ns.headD Str.empty++Str.ofString ":" ++ toString c
  | .tup [.str w,.tup ws,.tup ks]=>w++Str.ofString "(" ++ glu (pts w ws (nK (txt n) (fun k=>(clm n k).length) ks ns))++Str.ofString ")"
  | _=>Str.empty
theorem pZ:∀ {n:Nat} {d:D},IsC n d->1<=(clm n d).length
 | 0,d,h=>h.elim
 | n+1,d,h=>by
  rcases h with ⟨c,rfl⟩ | ⟨w,ws,ks,rfl,hw,k0,k1,w1,hy,hk⟩
  ·exact Nat.le_refl 1
  ·show 1<=(ks.flatMap (clm n)).length
   cases ks with
   | nil=>cases k0
   | cons k r=>
    have:=pZ (hk k List.mem_cons_self)
    rw [List.flatMap_cons,List.length_append]
    omega
theorem jO:∀ {n:Nat} {ks:List D},(∀ k∈ks,IsC n k)->ks.length<=(ks.flatMap (clm n)).length
 | n,[],_=>Nat.le_refl _
 | n,k::r,h=>by
  have a:=pZ (h k List.mem_cons_self)
  have b:=jO (ks:=r) fun x hx=>h x (List.mem_cons_of_mem _ hx)
  rw [List.flatMap_cons,List.length_append,List.length_cons]
  omega
def Clm (cs:List Int):Prop:=∀ c∈cs,0<=c/\c<=10^9
theorem qF {c:Int} {k:Nat} (h0:0<=c) (hk:0 < k) (h:c < 10^k):(Str.ofString (toString c)).length<=k:=PyProof.Rows.toString_length_le h0 hk h
theorem zAM {c:Int} (h0:0<=c) (h:c<=10^9):c.natAbs.log2 < 1920:=by
 by_cases z:c.natAbs=0
 ·rw [z];decide
 ·refine (Nat.log2_lt z).mpr ?_
  have:c.natAbs < 2^64:=by omega
  exact Nat.lt_of_lt_of_le this (Nat.pow_le_pow_right (by decide) (by decide))
theorem zFi {ws:List Int}:∀ {ts:List Str},(∀ x∈ws,1<=x/\x<=10^6)->ws.length=ts.length->nM (List.zipWith (fun x t=>zGm x++Str.ofString " " ++ t) (ws.map D.int) ts)<=(ts.map (·.length)).sum+10 * ts.length:=by
 induction ws with
 | nil=>intro ts _ _;exact Nat.zero_le _
 | cons w ws ih=>
  intro ts h hl
  cases ts with
  | nil=>exact Nat.zero_le _
  | cons t ts=>
   have a:=ih (ts:=ts) (fun x hx=>h x (List.mem_cons_of_mem _ hx)) (by simpa using hl)
   have b:=h w List.mem_cons_self
   have c:(Str.ofString (toString w)).length<=7:=qF (by omega) (by decide) (by omega)
   show (zGm (.int w)++Str.ofString " " ++ t).length+2+nM _<=(t.length+(ts.map (·.length)).sum)+10 * (ts.length+1)
   rw [strLen_append,strLen_append]
   show (Str.ofString (toString w)).length+1+t.length+2+nM _<=_
   omega
theorem zAK {w:Str} {ws:List Int} {ts:List Str} (h:wOK w ws ts.length):nM (pts w (ws.map D.int) ts)<=(ts.map (·.length)).sum+10 * ts.length:=by
 unfold pts
 rcases h with ⟨h1,h2,h3⟩ | ⟨h1,h2⟩
 ·rw [if_pos (show isW w from h1)];exact zFi h3 h2
 ·rw [if_neg (show ¬ isW w from h1)]
  have:∀ l:List Str,nM l=(l.map (·.length)).sum+2 * l.length:=by
   intro l
   induction l with
   | nil=>rfl
   | cons a l ih=>show a.length+2+nM l=_;rw [ih,List.map_cons,List.sum_cons,List.length_cons];omega
  rw [this];omega
theorem zL {w:Str} (h:w∈wys):w.length<=4:=by
 simp only [wys,List.mem_cons,List.not_mem_nil,or_false] at h
 rcases h with rfl | rfl | rfl | rfl | rfl | rfl<;>decide
theorem zAn:∀ (n:Nat) (d:D) (ns:List Str),IsC n d->Clm (clm n d)->(∀ x∈ns,x.length<=12)->(txt n d ns).length<=60 * n * (clm n d).length
 | 0,d,ns,h,_,_=>h.elim
 | n+1,d,ns,h,hc,hn=>by
  rcases h with ⟨c,rfl⟩ | ⟨w,ws,ks,rfl,hw,k0,k1,w1,⟨hy,hok⟩,hk⟩
  ·have b:=hc c (List.mem_singleton.mpr rfl)
   have l:=qF (c:=c) (k:=10) b.1 (by decide) (by omega)
   have hd:(ns.headD Str.empty).length<=12:=by
    cases ns with
    | nil=>exact Nat.zero_le _
    | cons a r=>exact hn a List.mem_cons_self
   show (ns.headD Str.empty++Str.ofString ":" ++ Str.ofString (toString c)).length<=60 * (n+1) * 1
   rw [strLen_append,strLen_append]
   have:(Str.ofString ":").length=1:=by decide
   omega
  ·have kl:=qA (txt n) (fun k=>(clm n k).length) ks ns
   have sp:=zAK (w:=w) (ws:=ws) (ts:=nK (txt n) (fun k=>(clm n k).length) ks ns) (by rw [kl];exact hok)
   have ll:=jO hk
   have go:∀ (ks:List D) (ns:List Str),(∀ k∈ks,IsC n k)->Clm (ks.flatMap (clm n))->(∀ x∈ns,x.length<=12)->((nK (txt n) (fun k=>(clm n k).length) ks ns).map (·.length)).sum<=60 * n * (ks.flatMap (clm n)).length:=by
    intro ks
    induction ks with
    | nil=>intro ns _ _ _;exact Nat.zero_le _
    | cons k r ih=>
     intro ns h1 h2 h3
     have a:=zAn n k ns (h1 k List.mem_cons_self) (fun c hc=>h2 c (by rw [List.flatMap_cons];exact List.mem_append_left _ hc)) h3
     have b:=ih (ns.drop (clm n k).length) (fun x hx=>h1 x (List.mem_cons_of_mem _ hx)) (fun c hc=>h2 c (by rw [List.flatMap_cons];exact List.mem_append_right _ hc)) (fun x hx=>h3 x (List.mem_of_mem_drop hx))
     rw [nK,List.map_cons,List.sum_cons,List.flatMap_cons,List.length_append,Nat.mul_add]
     omega
   have g:=go ks ns hk hc hn
   have gl:=zAZ (pts w (ws.map D.int) (nK (txt n) (fun k=>(clm n k).length) ks ns))
   have wl:=zL hy
   show (w++Str.ofString "(" ++ glu (pts w (ws.map D.int) (nK (txt n) (fun k=>(clm n k).length) ks ns))++Str.ofString ")").length<=60 * (n+1) * (ks.flatMap (clm n)).length
   rw [strLen_append,strLen_append,strLen_append]
   have e1:(Str.ofString "(").length=1:=by decide
   have e2:(Str.ofString ")").length=1:=by decide
   rw [kl] at sp
   have e3:60 * (n+1) * (ks.flatMap (clm n)).length=60 * n * (ks.flatMap (clm n)).length+60 * (ks.flatMap (clm n)).length:=by rw [Nat.mul_add,Nat.add_mul]
   omega
theorem zBB {n:Nat} (pre:∀ (d:D) (ns:List Str) (m:Nat),IsC n d->(clm n d).length<=m->txt n d (ns.take m)=txt n d ns):∀ (ks:List D) (ns:List Str) (m:Nat),(∀ k∈ks,IsC n k)->(ks.flatMap (clm n)).length<=m->
  nK (txt n) (fun k=>(clm n k).length) ks (ns.take m)=nK (txt n) (fun k=>(clm n k).length) ks ns
 | [],ns,m,_,_=>rfl
 | k::r,ns,m,h,hl=>by
  rw [List.flatMap_cons,List.length_append] at hl
  show txt n k (ns.take m)::nK _ _ r ((ns.take m).drop (clm n k).length)=txt n k ns::nK _ _ r (ns.drop (clm n k).length)
  rw [pre k ns m (h k List.mem_cons_self) (by omega),List.drop_take,zBB pre r _ _ (fun x hx=>h x (List.mem_cons_of_mem _ hx)) (by omega)]
theorem zG:∀ (n:Nat) (d:D) (ns:List Str) (m:Nat),IsC n d->(clm n d).length<=m->txt n d (ns.take m)=txt n d ns
 | 0,d,ns,m,h,_=>h.elim
 | n+1,d,ns,m,h,hl=>by
  rcases h with ⟨c,rfl⟩ | ⟨w,ws,ks,rfl,hw,k0,k1,w1,⟨hy,hok⟩,hk⟩
  ·have hm:1<=m:=hl
   show (ns.take m).headD Str.empty++_++_=ns.headD Str.empty++_++_
   cases ns with
   | nil=>rw [List.take_nil]
   | cons a r=>
    cases m with
    | zero=>omega
    | succ m=>rfl
  ·show w++_++glu (pts w (ws.map D.int) (nK (txt n) (fun k=>(clm n k).length) ks (ns.take m)))++_=_
   rw [zBB (fun d ns m h hl=>zG n d ns m h hl) ks ns m hk hl]
   rfl
theorem zHs {l:List Str} {i:Nat} {x:Str} (h:l[i]?=some x):l.take (i+1)=l.take i++[x]:=by
 rw [List.take_add_one,h];rfl
theorem zJI {a b:Nat} (ha:a<=30000) (hb:b<=30000):a+b<=sizeLine:=Nat.le_trans (Nat.add_le_add ha hb) (by decide)
theorem lap {x y:Str} {a b:Nat} (c:Nat) (hx:x.length<=a) (hy:y.length<=b) (h:a+b<=c):(x++y).length<=c:=by rw [strLen_append];exact Nat.le_trans (Nat.add_le_add hx hy) h
theorem fit {a b:Nat} (h:a+b<=100000):a+b<=sizeLine:=Nat.le_trans h (by decide)
theorem zV {n:Nat}:∀ (ks:List D) (ns:List Str),(∀ k∈ks,IsC n k)->Clm (ks.flatMap (clm n))->(∀ x∈ns,x.length<=12)->((nK (txt n) (fun k=>(clm n k).length) ks ns).map (·.length)).sum<=60 * n * (ks.flatMap (clm n)).length
 | [],ns,_,_,_=>Nat.zero_le _
 | k::r,ns,h1,h2,h3=>by
  have a:=zAn n k ns (h1 k List.mem_cons_self) (fun c hc=>h2 c (by rw [List.flatMap_cons];exact List.mem_append_left _ hc)) h3
  have b:=zV r (ns.drop (clm n k).length) (fun x hx=>h1 x (List.mem_cons_of_mem _ hx)) (fun c hc=>h2 c (by rw [List.flatMap_cons];exact List.mem_append_right _ hc)) (fun x hx=>h3 x (List.mem_of_mem_drop hx))
  rw [nK,List.map_cons,List.sum_cons,List.flatMap_cons,List.length_append,Nat.mul_add]
  omega
def mkN (kd:Bool) (l:List Str):D:=if kd then .lst (l.map D.str) else .tup (l.map D.str)
def zBY (m:D->Nat):List D->List Str->List (List Str)
 | [],_=>[]
 | k::r,ns=>ns.take (m k)::zBY m r (ns.drop (m k))
theorem zIN {kd:Bool} {ns:List Str} {a b:Nat}:zFk (mkN kd ns) (some (a:Int)) (some ((a+b:Nat):Int))=.ok (mkN kd ((ns.drop a).take b)):=by
 have e:bW (ns.map D.str) (some (a:Int)) (some ((a+b:Nat):Int))=((ns.drop a).take b).map D.str:=by
  rw [zN (by omega) (by omega),<-List.map_drop,<-List.map_take,Int.toNat_natCast,Int.toNat_natCast,Nat.add_sub_cancel_left]
 cases kd
 ·show zFk (.tup (ns.map D.str)) _ _=.ok (.tup _)
  rw [slQG_t,e]
 ·show zFk (.lst (ns.map D.str)) _ _=.ok (.lst _)
  rw [slQG_l,e]
theorem zX {n:Nat} {d:D} {kd:Bool} {ns:List Str} (hn:n<=8):∀ (ks:List D) (st:Nat) (acc:List D) (a b:Sl),(∀ k∈ks,IsC n k)->(ks.flatMap (clm n)).length<=12->acc.length+ks.length<=1000->
  ∃ s' a' b',loop (gName 4) oJ ks [.val d,.val (mkN kd ns),.own acc,.val (.int (st:Int)),a,b]=.ok (.nx [.val d,.val (mkN kd ns),.own (acc++(zBY (fun k=>(clm n k).length) ks (ns.drop st)).map (mkN kd)),s',a',b'])
 | [],st,acc,a,b,_,_,_=>⟨.val (.int (st:Int)),a,b,by rw [loop];simp [zBY]⟩
 | k::r,st,acc,a,b,h,hl,hz=>by
  rw [List.flatMap_cons,List.length_append] at hl
  rw [List.length_cons] at hz
  have ick:=h k List.mem_cons_self
  have cl:=eG 10 k (dN ick (by omega)) (by rw [dE ick (show n<=10 by omega)];omega)
  rw [dE ick (show n<=10 by omega)] at cl
  obtain ⟨s',a',b',e⟩:=zX (d:=d) (kd:=kd) (ns:=ns) hn r (st+(clm n k).length) (acc++[mkN kd ((ns.drop st).take (clm n k).length)]) (.val k) (.val (.int ((st+(clm n k).length:Nat):Int))) (fun x hx=>h x (List.mem_cons_of_mem _ hx)) (by omega) (by rw [List.length_append,List.length_singleton];omega)
  refine ⟨s',a',b',?_⟩
  rw [gF (ρ1:=[.val d,.val (mkN kd ns),.own acc,.val (.int (st:Int)),.val k,b]) (ρ2:=[.val d,.val (mkN kd ns),.own (acc++[mkN kd ((ns.drop st).take (clm n k).length)]),.val (.int ((st+(clm n k).length:Nat):Int)),.val k,.val (.int ((st+(clm n k).length:Nat):Int))]) rfl,e]
  ·rw [zBY,List.map_cons,List.append_assoc,List.drop_drop];rfl
  ·walk_at "ev"
   rw [cl]
   walk_at "ev"
   rw [<-Int.natCast_add,zIN]
   walk_at "ev"
   rw [if_pos (by omega)]
   walk_at "ev"
theorem zCK {n:Nat} {w:Str} {x:D} {ks:List D} {kd:Bool} {ns:List Str} (hw:(w == "boat")=false) (hn:n<=8) (hk:∀ k∈ks,IsC n k) (hl:(ks.flatMap (clm n)).length<=12):
  gO [.tup [.str w,x,.tup ks],mkN kd ns]=.ok (.f ((zBY (fun k=>(clm n k).length) ks ns).map (mkN kd))):=by
 have kl:=jO hk
 obtain ⟨s',a',b',e⟩:=zX (d:=.tup [.str w,x,.tup ks]) (kd:=kd) (ns:=ns) hn ks 0 [] .un .un hk hl (by rw [List.length_nil];omega)
 unfold gO
 walk_at "ev"
 rw [gQ hw]
 walk_at "ev"
 rw [show (0:Int)=((0:Nat):Int) from rfl,e]
 rfl
theorem xK {d:D} (h:IsC 10 d) (hl:(clm 10 d).length<=1000):dR [d]=.ok (.v (.int (clm 10 d).sum)):=by
 unfold dR
 walk_at "ev"
 rw [eG 10 d h hl]
 walk_at "ev"
theorem zAO {m:D->Nat}:∀ {ks:List D} {ns:List Str} {p:D×List Str},(ks.map m).sum<=ns.length->p∈ks.zip (zBY m ks ns)->p.1∈ks/\p.2.length=m p.1/\∀ x∈p.2,x∈ns
 | [],ns,p,_,h=>by cases h
 | k::r,ns,p,hl,h=>by
  rw [List.map_cons,List.sum_cons] at hl
  rw [zBY,List.zip_cons_cons] at h
  rcases List.mem_cons.mp h with rfl | h
  ·exact ⟨List.mem_cons_self,by show (ns.take (m k)).length=m k;rw [List.length_take];omega,fun x hx=>List.mem_of_mem_take hx⟩
  ·have:=zAO (ks:=r) (by rw [List.length_drop];omega) h
   exact ⟨List.mem_cons_of_mem _ this.1,this.2.1,fun x hx=>List.mem_of_mem_drop (this.2.2 x hx)⟩
theorem zAt {n:Nat}:∀ {ks:List D} {ns:List Str},(∀ k∈ks,IsC n k)->(ks.zip (zBY (fun k=>(clm n k).length) ks ns)).map (fun p=>D.str (txt n p.1 p.2))=(nK (txt n) (fun k=>(clm n k).length) ks ns).map D.str
 | [],ns,_=>rfl
 | k::r,ns,h=>by
  rw [zBY,List.zip_cons_cons,List.map_cons,nK,List.map_cons,zAt fun x hx=>h x (List.mem_cons_of_mem _ hx),zG n k ns _ (h k List.mem_cons_self) (Nat.le_refl _)]
theorem zAU:∀ {ws:List Int} {ts:List Str},(ws.zip ts).map (fun p=>D.str (toString p.1++Str.ofString " " ++ p.2))=(List.zipWith (fun x t=>zGm x++Str.ofString " " ++ t) (ws.map D.int) ts).map D.str
 | [],ts=>by cases ts<;>rfl
 | w::ws,[]=>rfl
 | w::ws,t::ts=>by
  rw [List.zip_cons_cons,List.map_cons,List.map_cons,List.zipWith_cons_cons,List.map_cons,zAU]
  rfl
theorem vO:∀ l:List Str,kW (l.map D.str)=some l
 | []=>rfl
 | x::l=>by rw [List.map_cons,kW,vO l];rfl
theorem zCo {sep:Str} {ds:List D} {l:List Str} (h:kW ds=some l) (hz:l.foldl (fun n x=>n+x.length+sep.length) 0<=sizeLine):sP sep (.lst ds)=.ok (.str (Builtin.Str.glued sep l)):=by
 unfold sP
 simp only [h]
 rw [if_pos hz]
theorem zCL {l:List Str} (h:nM l<=100000):sP (Str.ofString ", ") (.lst (l.map D.str))=.ok (.str (glu l)):=
 zCo (vO l) (by rw [wW];exact Nat.le_trans (show 0+nM l<=100000 by omega) (by decide))
theorem kJ {a x:Str} {r:List D} {m:Nat} (ha:a.length<=30000) (hx:x.length<=m) (hm:m<=30000):rC a (.str x::r)=rC (a++x) r:=by
 have z:(30000:Nat)<=sizeLine:=by decide
 show (if x.length<=sizeLine/\(a++x).length<=sizeLine then rC (a++x) r else none)=_
 rw [if_pos ⟨Nat.le_trans hx (Nat.le_trans hm z),by rw [strLen_append];exact zJI ha (Nat.le_trans hx hm)⟩]
theorem zGG {a:Str} {i:Int} {r:List D} (hl:i.natAbs.log2 < 1920) (ha:a.length<=30000) (hi:(Str.ofString (toString i)).length<=10):rC a (.int i::r)=rC (a++toString i) r:=by
 rw [rC]
 simp only [zEd,hl,if_true]
 rw [if_pos]
 refine ⟨Nat.le_trans hi (by decide),?_⟩
 show (a++Str.ofString (toString i)).length<=sizeLine
 rw [strLen_append]
 exact zJI ha (Nat.le_trans hi (by decide))
theorem zBl {ds:List D} {x:Str} (h:rC Str.empty ds=some x):zGF ds=.ok (.str x):=by unfold zGF;rw [h]
theorem zBD {t:Str}:∀ {ts:List Str},t∈ts->t.length<=(ts.map (·.length)).sum
 | [],h=>by cases h
 | a::r,h=>by
  rw [List.map_cons,List.sum_cons]
  rcases List.mem_cons.mp h with rfl | h
  ·omega
  ·have:=zBD h;omega
theorem tI:∀ (n m:Nat) (d:D) (kd:Bool) (ns:List Str),IsC n d->n<=m->n<=8->Clm (clm n d)->(clm n d).length<=12->(∀ x∈ns,x.length<=12)->ns.length=(clm n d).length->
  cH m [d,mkN kd ns]=.ok (.v (.str (txt n d ns)))
 | 0,m,d,kd,ns,h,_,_,_,_,_,_=>h.elim
 | n+1,0,d,kd,ns,h,hm,_,_,_,_,_=>absurd hm (Nat.not_succ_le_zero n)
 | n+1,m+1,d,kd,ns,h,hm,h8,hc,hl,hn,ha=>by
  have n8:n<=8:=Nat.le_of_succ_le h8
  have nm:n<=m:=Nat.le_of_succ_le_succ hm
  have ic10:=dN h (Nat.le_trans h8 (show 8<=10 by decide))
  rcases h with ⟨c,rfl⟩ | ⟨w,ws,ks,rfl,hw,k0,k1,w1,⟨hy,hok⟩,hk⟩
  ·have b:=hc c (List.mem_singleton.mpr rfl)
   have l:=qF (c:=c) (k:=10) b.1 (by decide) (Int.lt_of_le_of_lt b.2 (by decide))
   have co:=xK ic10 (by show 1<=1000;decide)
   rw [show (clm 10 (.tup [.str "boat", .int c])).sum=c from Int.add_zero c] at co
   cases ns with
   | nil=>cases ha
   | cons x r=>
    have lx:=hn x List.mem_cons_self
    have ix:oIx (mkN kd (x::r)) (.int 0)=.ok (.str x):=by cases kd<;>rfl
    have e1:(Str.ofString ":").length<=1:=by decide
    have e0:Str.empty.length<=30000:=by decide
    show fE (cH m) _=_
    unfold fE
    walk_at "ev"
    rw [jW]
    walk_at "ev"
    rw [ix]
    walk_at "ev"
    rw [co]
    walk_at "ev"
    rw [zBl (x:=x++Str.ofString ":" ++ toString c) (by rw [kJ e0 lx (by decide),zEq,kJ (Nat.le_trans lx (by decide)) e1 (by decide),zGG (zAM b.1 b.2) (lap 30000 lx e1 (by decide)) l];rfl)]
    walk_at "ev"
    rfl
  ·have cl:(clm (n+1) (.tup [.str w,.tup (ws.map D.int),.tup ks])).length=(ks.flatMap (clm n)).length:=rfl
   rw [cl] at ha hl
   have kl:=qA (txt n) (fun k=>(clm n k).length) ks ns
   have ksum:=zV ks ns hk hc hn
   have zc:=zAt (n:=n) (ks:=ks) (ns:=ns) hk
   have te:txt (n+1) (.tup [.str w,.tup (ws.map D.int),.tup ks]) ns=w++Str.ofString "(" ++ glu (pts w (ws.map D.int) (nK (txt n) (fun k=>(clm n k).length) ks ns))++Str.ofString ")" := rfl
   rw [te]
   generalize nK (txt n) (fun k=>(clm n k).length) ks ns=ts at kl ksum zc
   have hok':wOK w ws ts.length:=by rw [kl];exact hok
   have ll:=jO hk
   have gsum:nM (pts w (ws.map D.int) ts)<=6000:=by
    have a:=zAK hok'
    have:60 * n * (ks.flatMap (clm n)).length<=60 * 8 * 12:=Nat.mul_le_mul (Nat.mul_le_mul_left 60 n8) hl
    omega
   have tsl:∀ t∈ts,t.length<=6000:=fun t ht=>by
    have a:t.length<=(ts.map (·.length)).sum:=zBD ht
    have:60 * n * (ks.flatMap (clm n)).length<=60 * 8 * 12:=Nat.mul_le_mul (Nat.mul_le_mul_left 60 n8) hl
    omega
   have sml:(ks.map fun k=>(clm n k).length).sum=(ks.flatMap (clm n)).length:=by rw [List.length_flatMap]
   have c1:=rF (u:=fun k:D=>k) (v:=mkN kd) (l:=ks) (m:=zBY (fun k=>(clm n k).length) ks ns) (f:=bK (cH m) (aD (aG 7) (aD (aG 8) aNil))) (ρ:=[.val (.tup [.str w,.tup (ws.map D.int),.tup ks]),.val (mkN kd ns),.un,.un,.un,.un,.un]) (g:=fun k o=>.str (txt n k o)) (Nat.le_trans k1 (by decide)) (fun p hp=>by
    obtain ⟨p1,p2,p3⟩:=zAO (by rw [sml];exact Nat.le_of_eq ha.symm) hp
    have ih:=tI n m p.1 kd p.2 (hk _ p1) nm n8 (fun c h=>hc c (List.mem_flatMap.mpr ⟨p.1,p1,h⟩)) (Nat.le_trans (zFK (n:=n) p1) hl) (fun x hx=>hn x (p3 x hx)) p2
    walk_at "ev"
    rw [ih]
    walk_at "ev")
   rw [zc,List.map_id'] at c1
   have wl:=zL hy
   have gl:=Nat.le_trans (zAZ (pts w (ws.map D.int) ts)) gsum
   have e1:(Str.ofString "(").length<=1:=by decide
   have e2:(Str.ofString ")").length<=1:=by decide
   have e3:(Str.ofString " ").length<=1:=by decide
   have e0:Str.empty.length<=30000:=by decide
   have last:∀ a:Sl,hZ (cH m) [.val (.tup [.str w,.tup (ws.map D.int),.tup ks]),.val (mkN kd ns),.un,.un,.val (.lst ((pts w (ws.map D.int) ts).map D.str)),.un,.un]=.ok (.ret (.v (.str (w++Str.ofString "(" ++ glu (pts w (ws.map D.int) ts)++Str.ofString ")")))):=by
    intro a
    walk_at "ev"
    rw [wL]
    walk_at "ev"
    rw [zCL (Nat.le_trans gsum (by decide))]
    walk_at "ev"
    rw [zBl (x:=w++Str.ofString "(" ++ glu (pts w (ws.map D.int) ts)++Str.ofString ")") (by rw [kJ e0 wl (by decide),zEq,kJ (Nat.le_trans wl (by decide)) e1 (by decide),kJ (lap 30000 wl e1 (by decide)) gl (by decide),kJ (lap 30000 (lap 5 wl e1 (by decide)) gl (by decide)) e2 (by decide)];rfl)]
    walk_at "ev"
   show fE (cH m) _=_
   unfold fE mK nG
   generalize hK:(hZ (cH m):Sv)=K at last
   walk_at "ev"
   rw [jM hw]
   walk_at "ev"
   rw [gQ hw]
   walk_at "ev"
   rw [zCK hw n8 hk hl]
   walk_at "ev"
   rw [zBo rfl rfl]
   walk_at "ev"
   rw [c1]
   walk_at "ev"
   rw [wL]
   walk_at "ev"
   rw [zFs]
   by_cases iw:w = "even" ∨ w = "lack"
   ·have iw':isW w:=iw
    have wk:∀ x∈ws,1<=x/\x<=10^6:=by
     rcases hok' with ⟨_,_,h3⟩ | ⟨h1,_⟩
     ·exact h3
     ·exact absurd iw h1
    have c2:=rF (u:=D.int) (v:=D.str) (l:=ws) (m:=ts) (f:=zFN (aD (aG 7) (aD (eC (.str " ")) (aD (aG 8) aNil)))) (ρ:=[.val (.tup [.str w,.tup (ws.map D.int),.tup ks]),.val (mkN kd ns),.un,.un,.val (.lst (ts.map D.str)),.un,.un]) (g:=fun x t=>.str (toString x++Str.ofString " " ++ t)) (Nat.le_trans w1 (by decide)) (fun p hp=>by
     have b:=wk _ (List.of_mem_zip hp).1
     have tl:=tsl _ (List.of_mem_zip hp).2
     have p0:(0:Int)<=p.1:=Int.le_trans (by decide) b.1
     have lx:(Str.ofString (toString p.1)).length<=7:=qF p0 (by decide) (Int.lt_of_le_of_lt b.2 (by decide))
     walk_at "ev"
     rw [zBl (x:=toString p.1++Str.ofString " " ++ p.2) (by
      rw [zGG (zAM p0 (Int.le_trans b.2 (by decide))) e0 (Nat.le_trans lx (by decide)),zEq,kJ (show (Str.ofString (toString p.1)).length<=30000 from Nat.le_trans lx (by decide)) e3 (by decide),kJ (lap (x:=Str.ofString (toString p.1)) 30000 lx e3 (by decide)) tl (by decide)];rfl)])
    rw [zAU] at c2
    have ep:pts w (ws.map D.int) ts=List.zipWith (fun x t=>zGm x++Str.ofString " " ++ t) (ws.map D.int) ts:=by unfold pts;rw [if_pos iw']
    rw [decide_eq_true iw]
    walk_at "ev"
    rw [sT]
    walk_at "ev"
    rw [zBo rfl rfl]
    walk_at "ev"
    rw [c2,<-ep]
    walk_at "ev"
    rw [last .un]
    walk_at "ev"
   ·have ep:pts w (ws.map D.int) ts=ts:=by unfold pts;rw [if_neg (show ¬ isW w from iw)]
    rw [decide_eq_false iw]
    walk_at "ev"
    rw [ep] at last ⊢
    rw [last .un]
    walk_at "ev"
theorem zHg {ns:List Str} (hb:¬ mI ns):∀ x∈ns,x.length<=12:=fun x hx=>by
 obtain ⟨i,hi,rfl⟩:=List.getElem_of_mem hx
 have:=zDA hb i hi
 unfold sG at this
 rw [zAp (List.getElem?_eq_getElem hi),Bool.or_eq_false_iff] at this
 have h1:=this.1
 unfold isN at h1
 simp only [Bool.not_eq_false',Bool.and_eq_true,decide_eq_true_eq] at h1
 exact h1.1.2
theorem zHL {i:Int} (h0:0<=i) (h1:i < 26):∃ c,zCi (.str (Str.ofString "abcdefghijklmnopqrstuvwxyz")) (.int i)=.ok (.str ⟨#[c]⟩):=by
 have hs:abc.cps.size=26:=by decide
 have hi:i.toNat < abc.cps.size:=by rw [hs];omega
 exact ⟨abc.cps[i.toNat],by rw [zDL,if_pos ⟨h0,by omega⟩,Array.getElem?_eq_getElem hi,chO_s]⟩
def zIf:List Str:=[Str.ofString "even", Str.ofString "ask", Str.ofString "row", Str.ofString "gets", Str.ofString "lack", Str.ofString "kept", Str.ofString "half", Str.ofString "land", Str.ofString "part", Str.ofString "custom", Str.ofString "basket", Str.ofString "refused"]
theorem zHb {k:Int} (h0:0<=k) (h1:k < 12):∃ x:Str,oIx (.lst [.str "even", .str "ask", .str "row", .str "gets", .str "lack", .str "kept", .str "half", .str "land", .str "part", .str "custom", .str "basket", .str "refused"]) (.int k)=.ok (.str x)/\x.length<=100:=by
 have hk:k.toNat < zIf.length:=(Int.toNat_lt h0).mpr h1
 have all:∀ x∈zIf,x.length<=100:=by decide
 exact ⟨zIf[k.toNat],mD (f:=D.str) (l:=zIf) h0 (List.getElem?_eq_getElem hk),all _ (List.getElem_mem hk)⟩
theorem vC (ns:List Int) (m:Nat) (hm:m<=12):∃ xs:List Str,dX [.lst (ns.map D.int),.int (m:Int)]=.ok (.f (xs.map D.str))/\xs.length=m/\∀ x∈xs,x.length<=100:=by
 have c0:0<=ns.getD 13 0 % 10^30:=Int.emod_nonneg _ (by decide)
 have c1:ns.getD 13 0 % 10^30 < 10^30:=Int.emod_lt_of_pos _ (by decide)
 have turn:∀ (cell:Int) (k:Nat) (xs:List Str) (a6 a7 a8 a9:Sl),0<=cell->k < 12->xs.length<=100->∃ (x:Str) (b6 b7 b8 b9:Sl),x.length<=100/\dO [.val (.lst (ns.map D.int)),.val (.int (m:Int)),.val (.str (Str.ofString "abcdefghijklmnopqrstuvwxyz")),.val (.int cell),.own (xs.map D.str),.val (.int (k:Int)),a6,a7,a8,a9]
   = .ok (.nx [.val (.lst (ns.map D.int)),.val (.int (m:Int)),.val (.str (Str.ofString "abcdefghijklmnopqrstuvwxyz")),.val (.int cell),.own ((xs++[x]).map D.str),.val (.int (k:Int)),b6,b7,b8,b9]):=by
  intro cell k xs a6 a7 a8 a9 hc hk hx
  obtain ⟨c,ec⟩:=zHL (i:=(cell+(k:Int)) % 26) (Int.emod_nonneg _ (by decide)) (Int.emod_lt_of_pos _ (by decide))
  have r0:0<=cell / ((k:Int)+1):=Int.ediv_nonneg hc (by omega)
  have s0:0<=cell / 26 % 12:=Int.emod_nonneg _ (by decide)
  have s1:cell / 26 % 12 < 12:=Int.emod_lt_of_pos _ (by decide)
  have last:∀ (x:Str) (b6 b8 b9:Sl),x.length<=100->∃ (x':Str) (c6 c7 c8 c9:Sl),x'.length<=100/\dF [.val (.lst (ns.map D.int)),.val (.int (m:Int)),.val (.str (Str.ofString "abcdefghijklmnopqrstuvwxyz")),.val (.int cell),.own (xs.map D.str),.val (.int (k:Int)),b6,.val (.str x),b8,b9]
    = .ok (.nx [.val (.lst (ns.map D.int)),.val (.int (m:Int)),.val (.str (Str.ofString "abcdefghijklmnopqrstuvwxyz")),.val (.int cell),.own ((xs++[x']).map D.str),.val (.int (k:Int)),c6,c7,c8,c9]):=by
   intro x b6 b8 b9 hx'
   have app:∀ (y:Str) (b6 b8 b9:Sl),eX [.val (.lst (ns.map D.int)),.val (.int (m:Int)),.val (.str (Str.ofString "abcdefghijklmnopqrstuvwxyz")),.val (.int cell),.own (xs.map D.str),.val (.int (k:Int)),b6,.val (.str y),b8,b9]
     = .ok (.nx [.val (.lst (ns.map D.int)),.val (.int (m:Int)),.val (.str (Str.ofString "abcdefghijklmnopqrstuvwxyz")),.val (.int cell),.own ((xs++[y]).map D.str),.val (.int (k:Int)),b6,.val (.str y),b8,b9]):=by
    intro y b6 b8 b9
    walk_at "ev"
    rw [if_pos (by omega),List.map_append]
    rfl
   unfold dF
   generalize hK:(eX:Sv)=K at app
   walk_at "ev"
   by_cases z:cell / 286 % 5=(k:Int)
   ·rw [decide_eq_true z]
    obtain ⟨y,ey,ly⟩:=zHb (k:=cell / 1430 % 12) (Int.emod_nonneg _ (by decide)) (Int.emod_lt_of_pos _ (by decide))
    walk_at "ev"
    rw [ey]
    walk_at "ev"
    exact ⟨y,_,_,_,_,ly,app y _ _ _⟩
   ·rw [decide_eq_false z]
    walk_at "ev"
    exact ⟨x,_,_,_,_,hx',app x _ _ _⟩
  unfold dO iN iQ
  generalize hK:(dF:Sv)=K at last
  walk_at "ev"
  rw [oDiv_i (okDiv_lit (by omega) (by omega)),fdiv_pos _ (by omega)]
  walk_at "ev"
  rw [ec]
  walk_at "ev"
  rw [nE (by omega) (by omega)]
  walk_at "ev"
  refine jT (Q:=fun r=>∃ (x:Str) (b6 b7 b8 b9:Sl),x.length<=100/\r=.ok (.nx [.val (.lst (ns.map D.int)),.val (.int (m:Int)),.val (.str (Str.ofString "abcdefghijklmnopqrstuvwxyz")),.val (.int cell),.own ((xs++[x]).map D.str),.val (.int (k:Int)),b6,b7,b8,b9])) (k:=zDS K)
   (fun i ρ=>∃ (rest:Int) (x:Str) (b8 b9:Sl),ρ=[.val (.lst (ns.map D.int)),.val (.int (m:Int)),.val (.str (Str.ofString "abcdefghijklmnopqrstuvwxyz")),.val (.int cell),.own (xs.map D.str),.val (.int (k:Int)),.val (.int rest),.val (.str x),b8,b9]/\0<=rest/\x.length=1+i) ⟨_,_,_,_,rfl,r0,rfl⟩ ?_ ?_
  ·rintro i d ρ hd ⟨rest,x,b8,b9,rfl,h0,hl⟩
   obtain ⟨hi,rfl⟩:=vK hd
   obtain ⟨c',ec'⟩:=zHL (i:=rest % 26) (Int.emod_nonneg _ (by decide)) (Int.emod_lt_of_pos _ (by decide))
   have l1:(⟨#[c']⟩:Str).length=1:=rfl
   refine ⟨_,?_,rest / 26,x++⟨#[c']⟩,.val (.int (0+(i:Int) * 1)),b9,rfl,Int.ediv_nonneg h0 (by decide),by rw [strLen_append,l1,hl];omega⟩
   walk_at "ev"
   rw [ec']
   walk_at "ev"
   rw [if_pos (fit (by omega))]
   walk_at "ev"
  ·rintro ρ ⟨rest,x,b8,b9,rfl,h0,hl⟩
   rw [zAf] at hl
   obtain ⟨x',b6,b7,b8',b9',h1,h2⟩:=last x (.val (.int rest)) b8 b9 (by omega)
   exact ⟨x',b6,b7,b8',b9',h1,h2⟩
 unfold dX jF iS jB
 generalize hK:(dO:Sv)=K at turn
 walk_at "ev"
 rw [cS ns 13 (by decide)]
 walk_at "ev"
 rw [nE (by omega) (by omega)]
 walk_at "ev"
 generalize hcl:ns.getD 13 0 % 10^30=cell at c0 c1 ⊢
 refine jT (Q:=fun r=>∃ xs:List Str,r.bind fin=.ok (.f (xs.map D.str))/\xs.length=m/\∀ x∈xs,x.length<=100) (k:=zDS gZ)
  (fun i ρ=>∃ (xs:List Str) (a5 a6 a7 a8 a9:Sl),ρ=[.val (.lst (ns.map D.int)),.val (.int (m:Int)),.val (.str (Str.ofString "abcdefghijklmnopqrstuvwxyz")),.val (.int cell),.own (xs.map D.str),a5,a6,a7,a8,a9]/\xs.length=i/\∀ x∈xs,x.length<=100) ⟨[],_,_,_,_,_,rfl,rfl,fun x h=>by cases h⟩ ?_ ?_
 ·rintro i d ρ hd ⟨xs,a5,a6,a7,a8,a9,rfl,hl,hx⟩
  obtain ⟨hi,rfl⟩:=vK hd
  rw [show (0+(i:Int) * 1)=(i:Int) by omega]
  obtain ⟨x,b6,b7,b8,b9,lx,e⟩:=turn cell i xs a6 a7 a8 a9 c0 (by omega) (by omega)
  refine ⟨_,e,xs++[x],_,_,_,_,_,rfl,by rw [List.length_append,hl];rfl,fun y hy=>?_⟩
  rcases List.mem_append.mp hy with h | h
  ·exact hx y h
  ·rw [List.mem_singleton.mp h];exact lx
 ·rintro ρ ⟨xs,a5,a6,a7,a8,a9,rfl,hl,hx⟩
  rw [zAf,Int.toNat_natCast] at hl
  exact ⟨xs,rfl,hl,hx⟩
theorem xI {ds:List D} {m:Nat} (h0:0 < m) (h:m<=ds.length):bW ds none (some (-(m:Int)))=ds.take (ds.length - m):=by
 unfold bW cut
 simp only [show ¬ (0<=-(m:Int)) by omega,if_false,List.drop_zero,Nat.sub_zero]
 rw [show ((ds.length:Int)+-(m:Int)).toNat=ds.length - m by omega]
theorem xM {ds:List D} {m:Nat} (h0:0 < m) (h:m<=ds.length):bW ds (some (-(m:Int))) none=ds.drop (ds.length - m):=by
 unfold bW cut
 simp only [show ¬ (0<=-(m:Int)) by omega,if_false]
 rw [show ((ds.length:Int)+-(m:Int)).toNat=ds.length - m by omega,List.take_of_length_le (by rw [List.length_drop];omega)]
theorem zFl {x m:Int} (h:0 < m) (hm:m<=10^9+1):0<=x % m/\x % m<=10^9:=by
 have a:=Int.emod_nonneg x (Int.ne_of_gt h)
 have b:=Int.emod_lt_of_pos x h
 omega
theorem uH {cell kind:Int} (h:0<=cell) (hk:0<=kind):∃ c:Int,dZ [.int cell,.int kind]=.ok (.v (.int c))/\0<=c/\c<=10^9:=by
 have d0:0<=cell / 91 % 60 * 10^6/\cell / 91 % 60 * 10^6<=10^9:=by
  have a:=Int.emod_nonneg (cell / 91) (show (60:Int)≠0 by decide)
  have b:=Int.emod_lt_of_pos (cell / 91) (show (0:Int) < 60 by decide)
  omega
 have i0:0<=(kind+cell % 7 / 5) % 4:=Int.emod_nonneg _ (by decide)
 have i1:(kind+cell % 7 / 5) % 4 < 4:=Int.emod_lt_of_pos _ (by decide)
 have hi:((kind+cell % 7 / 5) % 4).toNat < [cell / 7 % 13,cell / 7 % 4,cell / 7 % (10^9+1),cell / 91 % 60 * 10^6].length:=(Int.toNat_lt i0).mpr i1
 have all:∀ x∈[cell / 7 % 13,cell / 7 % 4,cell / 7 % (10^9+1),cell / 91 % 60 * 10^6],0<=x/\x<=10^9:=fun x hx=>by
  simp only [List.mem_cons,List.not_mem_nil,or_false] at hx
  rcases hx with rfl | rfl | rfl | rfl
  ·exact zFl (by decide) (by decide)
  ·exact zFl (by decide) (by decide)
  ·exact zFl (by decide) (by decide)
  ·exact d0
 have ix:=mD (f:=D.int) i0 (List.getElem?_eq_getElem hi)
 have bd:=all _ (List.getElem_mem hi)
 generalize ([cell / 7 % 13,cell / 7 % 4,cell / 7 % (10^9+1),cell / 91 % 60 * 10^6])[((kind+cell % 7 / 5) % 4).toNat]=c at ix bd
 unfold dZ
 walk_at "ev"
 rw [oMod_i (by decide),fmod_pos _ (by decide)]
 walk_at "ev"
 rw [oPow_i (by decide)]
 walk_at "ev"
 rw [oMul_i (okMul_litr (by decide) (by decide))]
 walk_at "ev"
 refine ⟨c,?_,bd⟩
 rw [show oIx (.lst [.int (cell / 7 % 13),.int (cell / 7 % 4),.int (cell / 7 % (10^9+1)),.int (cell / 91 % 60 * 10^6)]) (.int ((kind+cell % 7 / 5) % 4))=.ok (.int c) from ix]
 walk_at "ev"
def zIe:List Str:=[Str.ofString "even", Str.ofString "row", Str.ofString "lack", Str.ofString "half", Str.ofString "part", Str.ofString "back"]
theorem zHB {k:Int} (h0:0<=k) (h1:k < 6):∃ w∈wys,oIx (.lst [.str "even", .str "row", .str "lack", .str "half", .str "part", .str "back"]) (.int k)=.ok (.str w):=by
 have hk:k.toNat < zIe.length:=(Int.toNat_lt h0).mpr h1
 have all:∀ x∈zIe,x∈wys:=by decide
 exact ⟨zIe[k.toNat],all _ (List.getElem_mem hk),mD (f:=D.str) (l:=zIe) h0 (List.getElem?_eq_getElem hk)⟩
theorem fm8 {n:Nat} {ks:List D} (hk:∀ k∈ks,IsC n k) (hn:n<=8):ks.flatMap (clm 8)=ks.flatMap (clm n):=by
 rw [List.flatMap_def,List.map_congr_left fun p hp=>dE (hk p hp) hn,<-List.flatMap_def]
theorem oT {cell:Int} {ks:List D} {n:Nat} (h0:0<=cell) (k0:0 < ks.length) (hn:n<=7) (hk:∀ k∈ks,IsC n k) (hc:(ks.flatMap (clm 8)).length<=12):
  ∃ d,dA [.int cell,.lst ks]=.ok (.v d)/\IsC (n+1) d/\clm 8 d=ks.flatMap (clm 8):=by
 rw [fm8 hk (by omega)] at hc ⊢
 have kl:=jO hk
 obtain ⟨w,hw,ew⟩:=zHB (k:=cell % 6) (Int.emod_nonneg _ (by decide)) (Int.emod_lt_of_pos _ (by decide))
 have fin':∀ (ws:List Int) (a4 a5 a6:Sl),wOK w ws ks.length->ws.length<=100->∃ d,(gJ [.val (.int cell),.val (.lst ks),.val (.str w),.own (ws.map D.int),a4,a5,a6]).bind fin=.ok (.v d)/\IsC (n+1) d/\clm 8 d=ks.flatMap (clm n):=by
  intro ws a4 a5 a6 hs hl
  obtain ⟨e,ic⟩:=zGM (wd:=.lst (ws.map D.int)) (.inl rfl) hw hs hl k0 (by omega) hn hk hc
  refine ⟨_,?_,ic,?_⟩
  rotate_left
  ·rw [dE ic (by omega)];rfl
  ·walk_at "ev"
   rw [e]
   walk_at "ev"
 unfold dA kL kO
 generalize hK:(gJ:Sv)=K at fin'
 walk_at "ev"
 rw [ew]
 walk_at "ev"
 rw [zFs]
 by_cases iw:w = "even" ∨ w = "lack"
 ·rw [decide_eq_true iw]
  walk_at "ev"
  have q0:0<=cell / 6 % 4:=Int.emod_nonneg _ (by decide)
  have q1:cell / 6 % 4 < 4:=Int.emod_lt_of_pos _ (by decide)
  rw [oPow_i (by decide)]
  walk_at "ev"
  obtain ⟨most,em,m0,m1⟩:∃ most:Int,oIx (.lst [.int 3,.int 3,.int 3,.int (10^6)]) (.int (cell / 6 % 4))=.ok (.int most)/\1<=most/\most<=10^6:=by
   generalize cell / 6 % 4=k at q0 q1
   rcases (show k=0∨k=1∨k=2∨k=3 by omega) with rfl | rfl | rfl | rfl<;>exact ⟨_,rfl,by decide,by decide⟩
  rw [em]
  walk_at "ev"
  refine jT (Q:=fun r=>∃ d,r.bind fin=.ok (.v d)/\IsC (n+1) d/\clm 8 d=ks.flatMap (clm n)) (k:=zDS K)
   (fun i ρ=>∃ (ws:List Int) (rest:Int) (a:Sl),ρ=[.val (.int cell),.val (.lst ks),.val (.str w),.own (ws.map D.int),.val (.int most),.val (.int rest),a]/\ws.length=i/\(∀ x∈ws,1<=x/\x<=10^6)/\0<=rest) ⟨[],cell / 24,.un,rfl,rfl,(fun x h=>by cases h),Int.ediv_nonneg h0 (by decide)⟩ ?_ ?_
  ·rintro i d ρ hd ⟨ws,rest,a,rfl,hl,hx,r0⟩
   have hi:=(List.getElem?_eq_some_iff.mp hd).1
   have b0:=Int.emod_nonneg rest (show most≠0 by omega)
   have b1:=Int.emod_lt_of_pos rest (show 0 < most by omega)
   refine ⟨_,?_,ws++[1+rest % most],rest / 3,.val d,rfl,by rw [List.length_append,hl];rfl,fun x hx'=>?_,Int.ediv_nonneg r0 (by decide)⟩
   ·walk_at "ev"
    rw [oMod_i (show most≠0 by omega),fmod_pos _ (show 0 < most by omega)]
    walk_at "ev"
    rw [if_pos (by omega)]
    walk_at "ev"
    rw [List.map_append]
    rfl
   ·rcases List.mem_append.mp hx' with h | h
    ·exact hx x h
    ·rw [List.mem_singleton.mp h];omega
  ·rintro ρ ⟨ws,rest,a,rfl,hl,hx,r0⟩
   exact fin' ws _ _ _ (.inl ⟨iw,hl,hx⟩) (by omega)
 ·rw [decide_eq_false iw]
  walk_at "ev"
  exact fin' [] _ _ _ (.inr ⟨iw,rfl⟩) (by decide)
theorem zFe {q:Nat} {c:Int} (h:0<=c/\c<=10^9):IsC (q+1) (.tup [.str "boat", .int c])/\Clm (clm 8 (.tup [.str "boat", .int c])):=⟨.inl ⟨c,rfl⟩,fun x hx=>by rw [List.mem_singleton.mp (show x∈[c] from hx)];exact h⟩
def xP (L:List D) (q i:Nat):Prop:=q<=5/\(∀ d∈L,IsC (q+1) d/\Clm (clm 8 d))/\(L.flatMap (clm 8)).length=i
theorem xP.len {L:List D} {q i:Nat} (h:xP L q i):L.length<=i:=by
 have:=jO (n:=q+1) (fun d hd=>(h.2.1 d hd).1)
 rw [<-fm8 (fun d hd=>(h.2.1 d hd).1) (by have:=h.1;omega),h.2.2] at this
 exact this
theorem xP.boat {L:List D} {q i:Nat} {c:Int} (h:xP L q i) (hc:0<=c/\c<=10^9):xP (L++[.tup [.str "boat", .int c]]) q (i+1):=by
 refine ⟨h.1,fun d hd=>?_,?_⟩
 ·rcases List.mem_append.mp hd with hd | hd
  ·exact h.2.1 d hd
  ·rw [List.mem_singleton.mp hd];exact zFe hc
 ·rw [List.flatMap_append,List.length_append,h.2.2];rfl
theorem xP.noL {L:List D} {q i:Nat} (h:xP L q i):∀ d∈L,noL d=true:=fun d hd=>uC _ _ (zAW _ _ (h.2.1 d hd).1)
theorem xP.knot {L:List D} {q i m:Nat} {d:D} (h:xP L q i) (hq:q < 5) (hd:IsC (q+2) d) (hc:clm 8 d=(L.drop m).flatMap (clm 8)):xP (L.take m++[d]) (q+1) i:=by
 refine ⟨by omega,fun e he=>?_,?_⟩
 ·rcases List.mem_append.mp he with he | he
  ·have:=h.2.1 e (List.mem_of_mem_take he)
   exact ⟨dN this.1 (by omega),this.2⟩
  ·rw [List.mem_singleton.mp he]
   refine ⟨hd,fun c hx=>?_⟩
   rw [hc] at hx
   obtain ⟨k,hk,hx⟩:=List.mem_flatMap.mp hx
   exact (h.2.1 k (List.mem_of_mem_drop hk)).2 c hx
 ·have e:=h.2.2
  rw [<-List.take_append_drop m L,List.flatMap_append,List.length_append] at e
  rw [List.flatMap_append,List.length_append,show [d].flatMap (clm 8)=clm 8 d by simp [List.flatMap],hc]
  exact e
theorem zDh {n:Nat} (h:0 < n):(0:Int) < min 4 (n:Int):=by omega
theorem zEF {n:Nat} {x:Int} (mp:(0:Int) < min 4 (n:Int)):∃ m:Nat,1+x % min 4 (n:Int)=(m:Int)/\0 < m/\m<=n:=by
 have a:=Int.emod_nonneg x (Int.ne_of_gt mp)
 have b:=Int.emod_lt_of_pos x mp
 exact ⟨(1+x % min 4 (n:Int)).toNat,by omega,by omega,by omega⟩
theorem rD (ns:List Int):∃ d:D,dJ [.lst (ns.map D.int)]=.ok (.v d)/\IsC 8 d/\Clm (clm 8 d)/\(clm 8 d).length<=12:=by
 have h0:0<=ns.getD 0 0 % 10^30:=Int.emod_nonneg _ (by decide)
 have turn:∀ (head boats:Int) (L:List D) (q i:Nat) (a6 a7 a8:Sl),0<=head->i < 12->xP L q i->∃ (L':List D) (q':Nat) (b6 b7 b8:Sl),xP L' q' (i+1)/\
   eV [.val (.lst (ns.map D.int)),.val (.int head),.own L,.val (.int (q:Int)),.val (.int boats),.val (.int (i:Int)),a6,a7,a8]=.ok (.nx [.val (.lst (ns.map D.int)),.val (.int head),.own L',.val (.int (q':Int)),.val (.int boats),.val (.int (i:Int)),b6,b7,b8]):=by
  intro head boats L q i a6 a7 a8 hh hi pl
  have c0:0<=ns.getD (1+(i:Int)).toNat 0 % 10^30:=Int.emod_nonneg _ (by decide)
  have t0:0<=ns.getD (7+(i:Int)).toNat 0 % 10^30:=Int.emod_nonneg _ (by decide)
  obtain ⟨c,ec,c1⟩:=uH (cell:=ns.getD (1+(i:Int)).toNat 0 % 10^30) (kind:=head / 6 % 3) c0 (Int.emod_nonneg _ (by decide))
  have pb:=pl.boat c1
  have ll:=pl.len
  have lb:=pb.len
  have ln:(L++[D.tup [.str "boat", .int c]]).length=L.length+1:=by rw [List.length_append];rfl
  walk_at "ev"
  rw [cS ns (1+(i:Int)) (Int.add_nonneg (by decide) (Int.natCast_nonneg _))]
  walk_at "ev"
  rw [ec]
  walk_at "ev"
  rw [zHk c1.1 c1.2]
  walk_at "ev"
  rw [if_pos (Nat.lt_of_le_of_lt ll (Nat.lt_trans hi (by decide)))]
  walk_at "ev"
  rw [cS ns (7+(i:Int)) (Int.add_nonneg (by decide) (Int.natCast_nonneg _))]
  walk_at "ev"
  generalize ns.getD (7+(i:Int)).toNat 0 % 10^30=tn at t0
  generalize hL:L++[D.tup [.str "boat", .int c]]=L1 at pb lb ln
  by_cases z1:tn % 3=1
  ·rw [decide_eq_true z1]
   walk_at "ev"
   by_cases z2:(q:Int) < 5
   ·rw [decide_eq_true z2]
    walk_at "ev"
    have mp:=zDh (n:=L1.length) (by rw [ln];exact Nat.succ_pos _)
    rw [oMod_i (Int.ne_of_gt mp),fmod_pos _ mp]
    walk_at "ev"
    obtain ⟨m,em,k0,k1⟩:=zEF (x:=tn / 3) mp
    rw [em]
    have q4:q < 5:=Int.ofNat_lt.mp z2
    obtain ⟨d,ed,icd,ecd⟩:=oT (cell:=tn / 12) (ks:=L1.drop (L1.length - m)) (n:=q+1) (Int.ediv_nonneg t0 (by decide)) (by rw [List.length_drop,Nat.sub_sub_self k1];exact k0) (Nat.le_trans (Nat.succ_le_of_lt q4) (show 5<=7 by decide)) (fun k hk=>(pb.2.1 k (List.mem_of_mem_drop hk)).1) (by
     have e:=pb.2.2
     rw [<-List.take_append_drop (L1.length - m) L1,List.flatMap_append,List.length_append] at e
     exact Nat.le_trans (Nat.le_add_left _ _) (Nat.le_trans (Nat.le_of_eq e) hi))
    have pk:=pb.knot q4 icd ecd
    have nl:noLs (L1.take (L1.length - m)++[d])=true:=zBL pk.noL
    rw [xI k0 k1,xM k0 k1,ed]
    walk_at "ev"
    rw [if_pos (Nat.le_trans (by rw [List.length_take];exact Nat.min_le_right _ _) (Nat.le_trans lb (Nat.le_trans hi (show 12<=16777215 by decide))))]
    walk_at "ev"
    rw [nl]
    walk_at "ev"
    exact ⟨_,q+1,_,_,_,pk,rfl⟩
   ·rw [decide_eq_false z2]
    walk_at "ev"
    exact ⟨L1,q,_,_,_,pb,rfl⟩
  ·rw [decide_eq_false z1]
   walk_at "ev"
   exact ⟨L1,q,_,_,_,pb,rfl⟩
 have rest:∀ (head:Int) (b:Nat),0<=head->0 < b->b<=12->∃ d:D,(dG [.val (.lst (ns.map D.int)),.val (.int head),.own [],.val (.int 0),.val (.int (b:Int)),.un,.un,.un,.un]).bind fin=.ok (.v d)/\IsC 8 d/\Clm (clm 8 d)/\(clm 8 d).length<=12:=by
  intro head b hh b0 b1
  unfold dG
  generalize hK:(eV:Sv)=K at turn
  walk_at "ev"
  rw [nE (Int.le_trans (by decide) (Int.natCast_nonneg b)) (Int.lt_of_le_of_lt (Int.ofNat_le.mpr b1) (by decide))]
  walk_at "ev"
  refine jT (Q:=fun r=>∃ d:D,r.bind fin=.ok (.v d)/\IsC 8 d/\Clm (clm 8 d)/\(clm 8 d).length<=12) (k:=zDS gE)
   (fun i ρ=>∃ (L:List D) (q:Nat) (a5 a6 a7 a8:Sl),ρ=[.val (.lst (ns.map D.int)),.val (.int head),.own L,.val (.int (q:Int)),.val (.int (b:Int)),a5,a6,a7,a8]/\xP L q i) ⟨[],0,_,_,_,_,rfl,Nat.zero_le _,(fun d hd=>by cases hd),rfl⟩ ?_ ?_
  ·rintro i d ρ hd ⟨L,q,a5,a6,a7,a8,rfl,pl⟩
   obtain ⟨hi,rfl⟩:=vK hd
   rw [show (0+(i:Int) * 1)=(i:Int) by rw [Int.zero_add,Int.mul_one]]
   obtain ⟨L',q',b6,b7,b8,pl',e⟩:=turn head b L q i a6 a7 a8 hh (by rw [Int.toNat_natCast] at hi;exact Nat.lt_of_lt_of_le hi b1) pl
   exact ⟨_,e,L',q',_,_,_,_,rfl,pl'⟩
  ·rintro ρ ⟨L,q,a5,a6,a7,a8,rfl,pl⟩
   rw [zAf,Int.toNat_natCast] at pl
   have q5:=pl.1
   have lf:=pl.2.2
   have cs:Clm (L.flatMap (clm 8)):=fun c hc=>by
    obtain ⟨k,hk,hx⟩:=List.mem_flatMap.mp hc
    exact (pl.2.1 k hk).2 c hx
   have L0:0 < L.length:=by
    cases L with
    | nil=>simp at lf;omega
    | cons a r=>exact Nat.succ_pos _
   obtain ⟨d,ed,icd,ecd⟩:=oT (cell:=head / 72) (ks:=L) (n:=q+1) (Int.ediv_nonneg hh (by decide)) L0 (Nat.le_trans (Nat.succ_le_succ q5) (by decide)) (fun k hk=>(pl.2.1 k hk).1) (Nat.le_trans (Nat.le_of_eq lf) b1)
   have isk:∃ d:D,((dA [.int (head / 72),.lst L]).bind rtF).bind retF=.ok (.ret (.v d))/\IsC 8 d/\Clm (clm 8 d)/\(clm 8 d).length<=12:=⟨d,by rw [ed];rfl,dN icd (Nat.le_trans (Nat.succ_le_succ (Nat.succ_le_succ q5)) (by decide)),by rw [ecd];exact cs,by rw [ecd];exact Nat.le_trans (Nat.le_of_eq lf) b1⟩
   obtain ⟨d',ed',r'⟩:=isk
   walk_at "ev"
   by_cases z1:(1:Int) < (L.length:Int)
   ·rw [decide_eq_true z1]
    walk_at "ev"
    rw [ed']
    walk_at "ev"
    exact ⟨d',rfl,r'⟩
   ·rw [decide_eq_false z1]
    walk_at "ev"
    by_cases z2:(0:Int) < head / 18 % 4
    ·rw [decide_eq_true z2]
     walk_at "ev"
     rw [ed']
     walk_at "ev"
     exact ⟨d',rfl,r'⟩
    ·rw [decide_eq_false z2]
     walk_at "ev"
     match L,L0,z1,pl,lf with
     | [p],_,_,pl,lf=>
      rw [show oIx (.lst [p]) (.int 0)=.ok p from rfl]
      walk_at "ev"
      have h:=pl.2.1 p List.mem_cons_self
      refine ⟨p,rfl,dN h.1 (Nat.le_trans (Nat.succ_le_succ q5) (by decide)),h.2,?_⟩
      simp [List.flatMap] at lf
      omega
     | p::p'::r,_,z1,_,_=>exact absurd (by simp only [List.length_cons];omega) z1
 unfold dJ hU hJ gW gY
 generalize hK:(dG:Sv)=K at rest
 walk_at "ev"
 rw [cS ns 0 (by decide)]
 walk_at "ev"
 generalize ns.getD 0 0 % 10^30=head at h0
 have e0:0<=head % 6:=Int.emod_nonneg _ (by decide)
 have e1:head % 6 < 6:=Int.emod_lt_of_pos _ (by decide)
 obtain ⟨b,eb⟩:∃ b:Nat,1+head % 6=(b:Int):=⟨(1+head % 6).toNat,by omega⟩
 rw [eb]
 by_cases z:head / 90 % 8=1
 ·rw [decide_eq_true z]
  walk_at "ev"
  have:=rest head (b+6) h0 (by omega) (by omega)
  rw [Int.natCast_add] at this
  exact this
 ·rw [decide_eq_false z]
  walk_at "ev"
  exact rest head b h0 (by omega) (by omega)
theorem qT {N:Nat} (a:Int):aL (N+1) [.int a,.int a]=.ok (.v (.bl true)):=by
 show bJ (aL N) _=_
 unfold bJ
 walk_at "ev"
 unfold eE
 walk_at "ev"
theorem uX {N:Nat} (a:Str):aL (N+1) [.str a,.str a]=.ok (.v (.bl true)):=by
 show bJ (aL N) _=_
 unfold bJ
 walk_at "ev"
theorem oV {N:Nat} {x:D} {xs:List D} (hl:xs.length<=1000) (ix:∀ (i:Nat) (d:D),xs[i]?=some d->oIx x (.int (i:Int))=.ok d) (h:∀ d∈xs,aL N [d,d]=.ok (.v (.bl true))):∃ a,loop (gName 2) (eT (aL N)) (rng 0 xs.length 1) [.val x,.val x,.un]=.ok (.nx [.val x,.val x,a]):=by
 obtain ⟨ρ',e,b',rfl⟩:=zCU (g:=gName 2) (b:=eT (aL N)) (ds:=rng 0 xs.length 1) (ρ:=[.val x,.val x,.un]) (fun ρ=>∃ b:Sl,ρ=[.val x,.val x,b]) ⟨_,rfl⟩ (by
  rintro d ρ hd ⟨b,rfl⟩
  obtain ⟨j,hjd⟩:=List.mem_iff_getElem?.mp hd
  obtain ⟨hj,rfl⟩:=vK hjd
  rw [show (0:Int)+(j:Int) * 1=(j:Int) by omega]
  have e:=ix j _ (List.getElem?_eq_getElem hj)
  have hh:=h _ (List.getElem_mem hj)
  generalize aL N=r at hh ⊢
  refine ⟨_,_,rfl,.inl ?_,.val (.int (j:Int)),rfl⟩
  walk_at "ev"
  rw [e]
  walk_at "ev"
  rw [e]
  walk_at "ev"
  rw [hh]
  walk_at "ev")
 exact ⟨b',e⟩
theorem pQ {N:Nat} {xs:List D} (hl:xs.length<=1000) (h:∀ d∈xs,aL N [d,d]=.ok (.v (.bl true))):aL (N+1) [.tup xs,.tup xs]=.ok (.v (.bl true)):=by
 obtain ⟨a,e⟩:=oV (x:=.tup xs) hl (fun i d hd=>by
  have:=zEK (f:=fun d:D=>d) (l:=xs) (i:=(i:Int)) (a:=d) (Int.natCast_nonneg i) (by rw [Int.toNat_natCast];exact hd)
  rwa [List.map_id'] at this) h
 show bJ (aL N) _=_
 unfold bJ
 generalize aL N=r at e ⊢
 walk_at "ev"
 rw [nE (by omega) (by omega),Int.toNat_natCast]
 walk_at "ev"
 rw [e]
 rfl
theorem qP {N:Nat} {xs:List D} (hl:xs.length<=1000) (h:∀ d∈xs,aL N [d,d]=.ok (.v (.bl true))):aL (N+1) [.lst xs,.lst xs]=.ok (.v (.bl true)):=by
 obtain ⟨a,e⟩:=oV (x:=.lst xs) hl (fun i d hd=>by
  have:=mD (f:=fun d:D=>d) (l:=xs) (i:=(i:Int)) (a:=d) (Int.natCast_nonneg i) (by rw [Int.toNat_natCast];exact hd)
  rwa [List.map_id'] at this) h
 show bJ (aL N) _=_
 unfold bJ
 generalize aL N=r at e ⊢
 walk_at "ev"
 rw [nE (by omega) (by omega),Int.toNat_natCast]
 walk_at "ev"
 rw [e]
 rfl
theorem zBJ:∀ (n N:Nat) (d:D),IsC n d->2 * n<=N->aL N [d,d]=.ok (.v (.bl true))
 | 0,_,_,h,_=>h.elim
 | n+1,N,d,h,hN=>by
  obtain ⟨M,rfl⟩:∃ M,N=M+1+1:=⟨N - 2,by omega⟩
  rcases h with ⟨c,rfl⟩ | ⟨w,ws,ks,rfl,hw,k0,k1,w1,hy,hk⟩
  ·refine pQ (Nat.le_of_ble_eq_true rfl) fun x hx=>?_
   rcases List.mem_cons.mp hx with rfl | hx
   ·exact uX _
   ·rw [List.mem_singleton.mp hx];exact qT _
  ·refine pQ (Nat.le_of_ble_eq_true rfl) fun x hx=>?_
   rcases List.mem_cons.mp hx with rfl | hx
   ·exact uX _
   ·rcases List.mem_cons.mp hx with rfl | hx
    ·refine pQ (by rw [List.length_map];omega) fun y hy=>?_
     obtain ⟨i,_,rfl⟩:=List.mem_map.mp hy
     cases M with
     | zero=>cases n with
      | zero=>exact absurd (hk _ (List.getElem_mem k0)) id
      | succ n=>omega
     | succ M=>exact qT _
    ·rw [List.mem_singleton.mp hx]
     exact pQ (by omega) fun y hy=>zBJ n M y (hk y hy) (by omega)
def kD (d:D) (ns:List Str):List (Str×D):=[("standing", d),("called", .lst (ns.map D.str)),("had", .lst (List.replicate ns.length (.int 0))),("spare", .int 0),("facts", .lst [])]
theorem zFF (kd:Bool) (l:List Str):iD [mkN kd l]=.ok (.int (l.length:Int)):=by
 cases kd
 ·show iD [.tup (l.map D.str)]=_;rw [bLen_t,List.length_map]
 ·show iD [.lst (l.map D.str)]=_;rw [bLen_l,List.length_map]
theorem zCC (kd:Bool) (l:List Str):vJ [mkN kd l]=.ok (l.map D.str):=by cases kd<;>rfl
theorem zCP {d:D} {kd:Bool} {ns:List Str} (hl:ns.length<=1000) (h:aP [d,mkN kd ns]=.ok (.v .non)):bM [d,mkN kd ns]=.ok (kD d ns):=by
 have l1:=zFF kd ns
 have l2:=zCC kd ns
 generalize mkN kd ns=nd at h l1 l2
 unfold bM yL
 rw [if_pos (show [d,nd].length=2 from rfl)]
 simp only [uF]
 walk_at "ev"
 rw [h]
 walk_at "ev"
 rw [l2]
 walk_at "ev"
 rw [l1]
 walk_at "ev"
 rw [zDB (by omega)]
 walk_at "ev"
 rfl
theorem rR {d nd:D} {c:Str} (h:aP [d,nd]=.err c):bM [d,nd]=.err c:=by
 unfold bM yL
 rw [if_pos (show [d,nd].length=2 from rfl)]
 walk_at "ev"
 rw [h]
 walk_at "ev"
theorem uE {d:D} {kd:Bool} {ns:List Str} (hn:Nms ns) (ic:IsC 8 d) (hc:Clm (clm 8 d)) (hl:(clm 8 d).length<=12):
  (ns.length≠(clm 8 d).length->cC [d,mkN kd ns]=.err "Unlike" /\ bM [d,mkN kd ns]=.err "Unlike")/\(ns.length=(clm 8 d).length->mI ns->cC [d,mkN kd ns]=.err "NoText" /\ bM [d,mkN kd ns]=.err "NoText")/\
   (ns.length=(clm 8 d).length->¬ mI ns->cC [d,mkN kd ns]=.ok (.v (.str (txt 8 d ns)))/\bM [d,mkN kd ns]=.ok (kD d ns)):=by
 have rn:=nR (d:=d) (nd:=mkN kd ns) (ns:=ns) (by cases kd;exact .inr rfl;exact .inl rfl) hn (dN ic (by decide)) (by rw [dE ic (by decide)];omega)
 rw [dE ic (show 8<=10 by decide)] at rn
 have l100:=hn.1
 refine ⟨fun h=>⟨?_,rR (rn.1 h)⟩,fun h hb=>⟨?_,rR (rn.2.1 h hb)⟩,fun h hb=>⟨?_,zCP (by omega) (rn.2.2 h hb)⟩⟩
 ·unfold cC
  walk_at "ev"
  rw [rn.1 h]
  walk_at "ev"
 ·unfold cC
  walk_at "ev"
  rw [rn.2.1 h hb]
  walk_at "ev"
 ·unfold cC
  walk_at "ev"
  rw [rn.2.2 h hb]
  walk_at "ev"
  rw [tI 8 10 d kd ns ic (by decide) (by decide) hc hl (zHg hb) h]
  walk_at "ev"
theorem zBC (d nd w x:D):zCl 3 (Str.ofString "Ledger") bM (aD (aG 0) (aD (aG 1) aNil)) [.val d,.val nd,.val w,.val x,.un]=(bM [d,nd]).bind fun fs=>.ok (.nx [.val d,.val nd,.val w,.ins (Str.ofString "Ledger") fs,.un]):=by
 show (noErr (Res.ok [d,nd])).bind (fun ds=>(bM ds).bind fun fs=>Res.ok (Fl.nx (([Sl.val d,.val nd,.val w,.val x,.un]:Rho).set 3 (.ins (Str.ofString "Ledger") fs))))=_
 rfl
theorem lG {d nd:D} {w:Int} (c:Str) (hc:c=Str.ofString "Unlike" ∨ c=Str.ofString "NoText") (hw:w=0∨w=1) (h0:w=0->cC [d,nd]=.err c) (h1:w=1->bM [d,nd]=.err c):aT [d,nd,.int w]=.ok (.v (.lst [.bl (decide (c=Str.ofString "Unlike")),.bl (decide (c=Str.ofString "NoText"))])):=by
 have tb:tbT.contains c=true:=by rcases hc with rfl | rfl<;>rfl
 have i1:zIj zFT [Str.ofString "Unlike"] (some (Sl.exc c))=.ok (.bl (decide (c=Str.ofString "Unlike"))):=by rcases hc with rfl | rfl<;>rfl
 have i2:zIj zFT [Str.ofString "NoText"] (some (Sl.exc c))=.ok (.bl (decide (c=Str.ofString "NoText"))):=by rcases hc with rfl | rfl<;>rfl
 unfold aT kVo
 rw [if_pos (show [d,nd,D.int w].length=3 from rfl)]
 have e:eN (L3.start 5 [d,nd,.int w])=.ok (.nx [.val d,.val nd,.val (.int w),.val (.lst [.bl (decide (c=Str.ofString "Unlike")),.bl (decide (c=Str.ofString "NoText"))]),.un]):=by
  rcases hw with rfl | rfl
  ·have h:=h0 rfl
   walk_at "ev"
   rw [h]
   walk_at "ev"
   rw [tb]
   walk_at "ev"
   rw [i1]
   walk_at "ev"
   rw [i2]
   walk_at "ev"
  ·have h:=h1 rfl
   have mk:=zBC d nd (.int 1) .non
   walk_at "ev"
   rw [mk,h]
   walk_at "ev"
   rw [tb]
   walk_at "ev"
   rw [i1]
   walk_at "ev"
   rw [i2]
   walk_at "ev"
 rw [e]
 rfl
theorem zBH {d nd:D} {t:Str} (h:cC [d,nd]=.ok (.v (.str t))):aT [d,nd,.int 0]=.ok (.v (.str t)):=by
 unfold aT kVo
 rw [if_pos (show [d,nd,D.int 0].length=3 from rfl)]
 have e:eN (L3.start 5 [d,nd,.int 0])=.ok (.nx [.val d,.val nd,.val (.int 0),.val (.str t),.un]):=by
  walk_at "ev"
  rw [h]
  walk_at "ev"
 rw [e]
 rfl
theorem zCX {d nd:D} {fs:List (Str×D)} (h:bM [d,nd]=.ok fs):aT [d,nd,.int 1]=.ok (.o (Str.ofString "Ledger") fs):=by
 unfold aT kVo
 rw [if_pos (show [d,nd,D.int 1].length=3 from rfl)]
 have mk:=zBC d nd (.int 1) .non
 have e:eN (L3.start 5 [d,nd,.int 1])=.ok (.nx [.val d,.val nd,.val (.int 1),.ins (Str.ofString "Ledger") fs,.un]):=by
  walk_at "ev"
  rw [mk,h]
  walk_at "ev"
 rw [e]
 rfl
theorem zFD {d:D} {ns:List Str} (hn:Nms ns) (ic:IsC 8 d) (hc:Clm (clm 8 d)) (hl:(clm 8 d).length<=12):
  (∃ b:Bool,aT [d,mkN true ns,.int 0]=.ok (.v (.lst [.bl b,.bl (!b)]))/\aT [d,mkN false ns,.int 1]=.ok (.v (.lst [.bl b,.bl (!b)])))∨
  ((∃ t,aT [d,mkN true ns,.int 0]=.ok (.v (.str t)))/\aT [d,mkN false ns,.int 1]=.ok (.o (Str.ofString "Ledger") (kD d ns))):=by
 have a:=fun kd=>uE (d:=d) (kd:=kd) hn ic hc hl
 by_cases h:ns.length=(clm 8 d).length
 ·by_cases hb:mI ns
  ·exact .inl ⟨false,lG _ (.inr rfl) (.inl rfl) (fun _=>((a true).2.1 h hb).1) (fun z=>absurd z (by decide)),lG _ (.inr rfl) (.inr rfl) (fun z=>absurd z (by decide)) (fun _=>((a false).2.1 h hb).2)⟩
  ·exact .inr ⟨⟨_,zBH ((a true).2.2 h hb).1⟩,zCX ((a false).2.2 h hb).2⟩
 ·exact .inl ⟨true,lG _ (.inl rfl) (.inl rfl) (fun _=>((a true).1 h).1) (fun z=>absurd z (by decide)),lG _ (.inl rfl) (.inr rfl) (fun z=>absurd z (by decide)) (fun _=>((a false).1 h).2)⟩
theorem zDq {j:Nat} {fs:Fv} {kf:List D->Res Vo} {ρ:Rho} {ds:List D} {r:Vo} (h1:fs ρ=.ok ds) (h2:kf ds=.ok r):sVo j fs kf ρ=.ok (.nx (ρ.set j (voS r))):=by
 unfold sVo
 rw [h1]
 show (noErr (kf ds)).bind _=_
 rw [h2]
 rfl
theorem tW {i:Nat} {c n:Str} {m:List (Str×D)->Res Rt} {ρ:Rho} {fs:List (Str×D)} {r:Rt} (h:ρ[i]?=some (.ins c fs)) (hn:(fs.lookup n).isNone=true) (hm:m fs=.ok r):zCk i c n m ρ=.ok r.d:=by
 unfold zCk
 rw [h]
 show (if c=c/\(fs.lookup n).isNone=true then (noErr (m fs)).bind fun r=>.ok r.d else .no)=_
 rw [if_pos ⟨rfl,hn⟩,hm]
 rfl
theorem zBh {i:Nat} {c f:Str} {ρ:Rho} {fs:List (Str×D)} {d:D} (h:ρ[i]?=some (.ins c fs)) (hl:fs.lookup f=some d):zBW i c f ρ=.ok d:=by
 unfold zBW
 rw [h]
 show (if c=c then zJg (fs.lookup f) else .no)=_
 rw [if_pos rfl,hl]
 rfl
theorem yJ (d:D) (ns:List Str):cB (kD d ns)=.ok (.v d):=by
 have e:=zBh (i:=0) (c:=Str.ofString "Ledger") (f:=Str.ofString "standing") (ρ:=[.ins (Str.ofString "Ledger") (kD d ns)]) (fs:=kD d ns) (d:=d) rfl rfl
 unfold cB fnO
 show (fF _ [.ins (Str.ofString "Ledger") (kD d ns)]).bind fin=_
 unfold fF
 rw [show ([Sl.ins (Str.ofString "Ledger") (kD d ns)]:Rho).map Sl.frz=[.ins (Str.ofString "Ledger") (kD d ns)] from rfl,e]
 rfl
theorem zDb (d:D) (ns:List Str):cV (kD d ns)=.ok (.v (.int 0)):=by
 have e:=zBh (i:=0) (c:=Str.ofString "Ledger") (f:=Str.ofString "spare") (ρ:=[.ins (Str.ofString "Ledger") (kD d ns)]) (fs:=kD d ns) (d:=.int 0) rfl rfl
 unfold cV fnO
 show (fF _ [.ins (Str.ofString "Ledger") (kD d ns)]).bind fin=_
 unfold fF
 rw [show ([Sl.ins (Str.ofString "Ledger") (kD d ns)]:Rho).map Sl.frz=[.ins (Str.ofString "Ledger") (kD d ns)] from rfl,e]
 rfl
theorem pD {f:Str} {d:D} {ns:List Str} {xs:List D} (hl:(kD d ns).lookup f=some (.lst xs)):fnO (Str.ofString "Ledger") 1 (qR (qO (aD (zBW 0 (Str.ofString "Ledger") f) aNil))) (kD d ns)=.ok (.f xs):=by
 have e:=zBh (i:=0) (c:=Str.ofString "Ledger") (f:=f) (ρ:=[.ins (Str.ofString "Ledger") (kD d ns)]) (fs:=kD d ns) (d:=.lst xs) rfl hl
 unfold fnO
 show (qR _ [.ins (Str.ofString "Ledger") (kD d ns)]).bind fin=_
 unfold qR
 rw [show ([Sl.ins (Str.ofString "Ledger") (kD d ns)]:Rho).map Sl.frz=[.ins (Str.ofString "Ledger") (kD d ns)] from rfl]
 walk_at "ev"
 rw [e]
 walk_at "ev"
theorem zJh {d s:D} {ns ms:List Str} {at':Int} {o:Str} {a6 a7 a8:Sl} (hn:Nms ms) (ic:IsC 8 d) (hc:Clm (clm 8 d)) (hl:(clm 8 d).length<=12):
  ∃ b6 b7 b8,pT [.val s,.val d,.val (.lst (ns.map D.str)),.val (.int at'),.val (.str o),.val (.lst (ms.map D.str)),a6,a7,a8]=.ok (.nx [.val s,.val d,.val (.lst (ns.map D.str)),.val (.int at'),.val (.str o),.val (.lst (ms.map D.str)),b6,b7,b8]):=by
 have l100:=hn.1
 unfold pT zAR
 generalize hK:(mJ:Sv)=K
 rcases zFD hn ic hc hl with ⟨b,e1,e2⟩ | ⟨⟨t,e1⟩,e2⟩
 ·have e1':aT [d,.lst (ms.map D.str),.int 0]=.ok (.v (.lst [.bl b,.bl (!b)])):=e1
  have e2':aT [d,.tup (ms.map D.str),.int 1]=.ok (.v (.lst [.bl b,.bl (!b)])):=e2
  have ni:oO (.lst [.bl b,.bl (!b)]) (.tup [.lst [.bl true,.bl false],.lst [.bl false,.bl true]])=.ok (.bl false):=by cases b<;>rfl
  refine ⟨.val (.lst [.bl b,.bl (!b)]),.val (.lst [.bl b,.bl (!b)]),a8,?_⟩
  rw [sSeq_at,zDq (ds:=[d,.lst (ms.map D.str),.int 0]) rfl e1',okb,seqF_nx,sSeq_at,zDq (ds:=[d,.tup (ms.map D.str),.int 1]) rfl e2',okb,seqF_nx]
  subst hK
  show mJ [.val s,.val d,.val (.lst (ns.map D.str)),.val (.int at'),.val (.str o),.val (.lst (ms.map D.str)),.val (.lst [.bl b,.bl (!b)]),.val (.lst [.bl b,.bl (!b)]),a8]=_
  walk_at "ev"
  rw [zEa (by cases b<;>decide)]
  walk_at "ev"
  rw [ni]
  walk_at "ev"
 ·have e1':aT [d,.lst (ms.map D.str),.int 0]=.ok (.v (.str t)):=e1
  have e2':aT [d,.tup (ms.map D.str),.int 1]=.ok (.o (Str.ofString "Ledger") (kD d ms)):=e2
  refine ⟨.val (.str t),.ins (Str.ofString "Ledger") (kD d ms),.val (.lst [d,.lst (ms.map D.str),.lst (List.replicate ms.length (.int 0)),.int 0,.lst []]),?_⟩
  rw [sSeq_at,zDq (ds:=[d,.lst (ms.map D.str),.int 0]) rfl e1',okb,seqF_nx,sSeq_at,zDq (ds:=[d,.tup (ms.map D.str),.int 1]) rfl e2',okb,seqF_nx]
  subst hK
  have al:aL 20 [.lst [d,.lst (ms.map D.str),.lst (List.replicate ms.length (.int 0)),.int 0,.lst []],.lst [d,.lst (ms.map D.str),.lst (List.replicate ms.length (.int 0)),.int 0,.lst []]]=.ok (.v (.bl true)):=by
   refine qP (N:=19) (Nat.le_of_ble_eq_true rfl) fun x hx=>?_
   simp only [List.mem_cons,List.not_mem_nil,or_false] at hx
   rcases hx with rfl | rfl | rfl | rfl | rfl
   ·exact zBJ 8 19 _ ic (by decide)
   ·exact qP (N:=18) (by rw [List.length_map];omega) fun y hy=>by
     obtain ⟨z,_,rfl⟩:=List.mem_map.mp hy
     exact uX (N:=17) _
   ·exact qP (N:=18) (by rw [List.length_replicate];omega) fun y hy=>by
     rw [(List.mem_replicate.mp hy).2]
     exact qT (N:=17) _
   ·exact qT (N:=18) _
   ·exact qP (N:=18) (by decide) fun y hy=>by cases hy
  generalize hR:([.val s,.val d,.val (.lst (ns.map D.str)),.val (.int at'),.val (.str o),.val (.lst (ms.map D.str)),.val (.str t),.ins (Str.ofString "Ledger") (kD d ms),a8]:Rho)=R
  have r7:R[7]?=some (.ins (Str.ofString "Ledger") (kD d ms)):=by rw [<-hR];rfl
  have m1:=tW (n:=Str.ofString "custom") r7 rfl (yJ d ms)
  have m2:=tW (n:=Str.ofString "names") (m:=dH) r7 rfl (pD (f:=Str.ofString "called") rfl)
  have m3:=tW (n:=Str.ofString "got") (m:=eK) r7 rfl (pD (f:=Str.ofString "had") rfl)
  have m4:=tW (n:=Str.ofString "kept") r7 rfl (zDb d ms)
  have m5:=tW (n:=Str.ofString "tape") (m:=dQ) r7 rfl (pD (f:=Str.ofString "facts") rfl)
  rw [<-hR] at m1 m2 m3 m4 m5
  show mJ [.val s,.val d,.val (.lst (ns.map D.str)),.val (.int at'),.val (.str o),.val (.lst (ms.map D.str)),.val (.str t),.ins (Str.ofString "Ledger") (kD d ms),a8]=_
  unfold mJ
  generalize hK:(vW:Sv)=K
  walk_at "ev"
  rw [m1]
  walk_at "ev"
  rw [m2]
  walk_at "ev"
  rw [m3]
  walk_at "ev"
  rw [m4]
  walk_at "ev"
  rw [m5]
  walk_at "ev"
  subst hK
  walk_at "ev"
  rw [zDB (by omega)]
  walk_at "ev"
  rw [al]
  walk_at "ev"
theorem law_true:∀ ns:List Int,ns.length<=63->zFG [.lst (ns.map D.int)]=.ok (.v (.bl true)):=by
 intro ns hl
 obtain ⟨d,ed,ic,hc,h12⟩:=rD ns
 have pos:=pZ ic
 have lc:=kF 10 d (dN ic (by decide)) (by rw [dE ic (by decide)];omega)
 rw [dE ic (show 8<=10 by decide)] at lc
 obtain ⟨xs,ex,lx,hx⟩:=vC ns (clm 8 d).length h12
 have a0:0<=ns.getD 14 0 % (xs.length:Int):=Int.emod_nonneg _ (by omega)
 have a1:ns.getD 14 0 % (xs.length:Int) < (xs.length:Int):=Int.emod_lt_of_pos _ (by omega)
 have turn:∀ (at':Nat) (o:Str) (a5 a6 a7 a8:Sl),at' < xs.length->o.length<=100->∃ b5 b6 b7 b8,pL [.val (.lst (ns.map D.int)),.val d,.val (.lst (xs.map D.str)),.val (.int (at':Int)),.val (.str o),a5,a6,a7,a8]=.ok (.nx [.val (.lst (ns.map D.int)),.val d,.val (.lst (xs.map D.str)),.val (.int (at':Int)),.val (.str o),b5,b6,b7,b8]):=by
  intro at' o a5 a6 a7 a8 hat ho
  have h1000:∀ {a:Nat},a<=100->a<=1000:=fun h=>Nat.le_trans h (by decide)
  have x12:xs.length<=12:=by rw [lx];exact h12
  have n1:Nms (xs.take at'++[o]++xs.drop (at'+1)):=by
   refine ⟨by simp only [List.length_append,List.length_take,List.length_drop,List.length_singleton];omega,fun x h=>?_⟩
   rcases List.mem_append.mp h with h | h
   ·rcases List.mem_append.mp h with h | h
    ·exact h1000 (hx x (List.mem_of_mem_take h))
    ·rw [List.mem_singleton.mp h];exact h1000 ho
   ·exact h1000 (hx x (List.mem_of_mem_drop h))
  have n2:Nms (xs++[o]):=by
   refine ⟨by simp only [List.length_append,List.length_singleton];omega,fun x h=>?_⟩
   rcases List.mem_append.mp h with h | h
   ·exact h1000 (hx x h)
   ·rw [List.mem_singleton.mp h];exact h1000 ho
  have n3:Nms (xs.drop 1):=⟨by rw [List.length_drop];omega,fun x h=>h1000 (hx x (List.mem_of_mem_drop h))⟩
  have s1:bW (xs.map D.str) none (some (at':Int))=(xs.take at').map D.str:=by rw [wT (Int.natCast_nonneg _),<-List.map_take];rfl
  have s2:bW (xs.map D.str) (some ((at':Int)+1)) none=(xs.drop (at'+1)).map D.str:=by rw [oX (Int.add_nonneg (Int.natCast_nonneg _) (by decide)),<-List.map_drop];rfl
  have s3:bW (xs.map D.str) (some 1) none=(xs.drop 1).map D.str:=by rw [oX (by decide),<-List.map_drop];rfl
  have ask:=fun (ms:List Str) (hn:Nms ms) (a6 a7 a8:Sl)=>zJh (s:=.lst (ns.map D.int)) (ns:=xs) (at':=at') (o:=o) (a6:=a6) (a7:=a7) (a8:=a8) hn ic hc h12
  unfold pL
  generalize hK:(pT:Sv)=K at ask
  walk_at "ev"
  rw [s1]
  walk_at "ev"
  rw [if_pos (by rw [List.length_take];omega)]
  walk_at "ev"
  rw [s2]
  walk_at "ev"
  rw [if_pos (by simp only [List.length_append,List.length_map,List.length_take,List.length_drop,List.length_singleton];omega)]
  walk_at "ev"
  rw [if_pos (by omega)]
  walk_at "ev"
  rw [s3]
  have e1:(xs.take at').map D.str++.str o::(xs.drop (at'+1)).map D.str=(xs.take at'++[o]++xs.drop (at'+1)).map D.str:=by simp only [List.map_append,List.map_cons,List.map_nil,List.append_assoc,List.cons_append,List.nil_append]
  have e2:xs.map D.str++[.str o]=(xs++[o]).map D.str:=by rw [List.map_append];rfl
  obtain ⟨p6,p7,p8,q1⟩:=ask _ n1 a6 a7 a8
  obtain ⟨r6,r7,r8,q2⟩:=ask _ n2 p6 p7 p8
  obtain ⟨t6,t7,t8,q3⟩:=ask _ n3 r6 r7 r8
  simp only [List.append_assoc,List.cons_append,List.nil_append]
  simp only [List.append_assoc,List.cons_append,List.nil_append] at e1 q1
  rw [e1,e2,gF rfl q1,gF rfl q2,gF rfl q3]
  exact ⟨_,_,_,_,rfl⟩
 unfold zFG zD zAz zAI
 generalize hK:(pL:Sv)=K at turn
 walk_at "ev"
 rw [ed]
 walk_at "ev"
 rw [lc]
 walk_at "ev"
 rw [ex]
 walk_at "ev"
 rw [cS ns 14 (by decide)]
 walk_at "ev"
 rw [oMod_i (show (xs.length:Int)≠0 by omega),fmod_pos _ (show 0 < (xs.length:Int) by omega)]
 walk_at "ev"
 obtain ⟨at',eat⟩:∃ a:Nat,ns.getD 14 0 % (xs.length:Int)=(a:Int):=⟨(ns.getD 14 0 % (xs.length:Int)).toNat,by omega⟩
 have hat:at' < xs.length:=by omega
 have o1:=hx _ (List.getElem_mem hat)
 have o2:=hx _ (List.getElem_mem (show 0 < xs.length by omega))
 rw [eat,mD (f:=D.str) (a:=xs[at']) (by omega) (by rw [Int.toNat_natCast];exact List.getElem?_eq_getElem hat)]
 walk_at "ev"
 rw [mD (f:=D.str) (a:=xs[0]) (by omega) (List.getElem?_eq_getElem (show 0 < xs.length by omega))]
 walk_at "ev"
 refine zAS (Q:=fun r=>r.bind fin=.ok (.v (.bl true))) (k:=zDS wM) (fun ρ=>∃ a4 a5 a6 a7 a8,ρ=[.val (.lst (ns.map D.int)),.val d,.val (.lst (xs.map D.str)),.val (.int (at':Int)),a4,a5,a6,a7,a8]) ⟨_,_,_,_,_,rfl⟩ ?_ ?_
 ·rintro e ρ he ⟨a4,a5,a6,a7,a8,rfl⟩
  obtain ⟨o,rfl,ho⟩:∃ o:Str,e=.str o/\o.length<=100:=by
   simp only [List.mem_cons,List.not_mem_nil,or_false] at he
   rcases he with rfl | rfl | rfl | rfl | rfl | rfl | rfl | rfl
   ·exact ⟨_,rfl,o1⟩
   ·exact ⟨_,rfl,by decide⟩
   ·exact ⟨_,rfl,by decide⟩
   ·exact ⟨_,rfl,by decide⟩
   ·exact ⟨_,rfl,by decide⟩
   ·exact ⟨_,rfl,by decide⟩
   ·exact ⟨_,rfl,o2⟩
   ·exact ⟨_,rfl,by decide⟩
  obtain ⟨b5,b6,b7,b8,eb⟩:=turn at' o a5 a6 a7 a8 hat ho
  exact ⟨_,eb,_,_,_,_,_,rfl⟩
 ·rintro ρ ⟨a4,a5,a6,a7,a8,rfl⟩
  walk_at "ev"
end Lw
namespace Lw
open PySem PySem.Spec PyProof.Rows L2 L3
def top (i:Nat):Stmt:=PySem.Challenge.pw_catchhall_k61_ledgers_made.main.body.getD i (.Pass ⟨0,0,0,0⟩)
abbrev dP:Stmt:=top 26
theorem iP:FnScope ["some", "bottom", "each"] ["some"] (aE dP):=⟨rfl,rfl,rfl,by decide +kernel,rfl,by decide +kernel,by decide +kernel⟩
abbrev fX:Stmt:=top 32
theorem qQ:FnScope ["way"] ["way"] (aE fX):=⟨rfl,rfl,rfl,by decide +kernel,rfl,by decide +kernel,by decide +kernel⟩
abbrev dM:Stmt:=top 34
theorem cY:FnScope ["way", "weights", "many", "due", "weight"] ["way", "weights", "many"] (aE dM):=⟨rfl,rfl,rfl,by decide +kernel,rfl,by decide +kernel,by decide +kernel⟩
abbrev zAX:Stmt:=top 46
theorem zET:FnScope ["claim"] ["claim"] (aE zAX):=⟨rfl,rfl,rfl,by decide +kernel,rfl,by decide +kernel,by decide +kernel⟩
abbrev zAj:Stmt:=top 47
theorem zBf:FnScope ["way", "weights", "kids", "custom"] ["way", "weights", "kids"] (aE zAj):=⟨rfl,rfl,rfl,by decide +kernel,rfl,by decide +kernel,by decide +kernel⟩
abbrev mZ:Stmt:=top 48
theorem xX:FnScope ["custom"] ["custom"] (aE mZ):=⟨rfl,rfl,rfl,by decide +kernel,rfl,by decide +kernel,by decide +kernel⟩
abbrev pP:Stmt:=top 49
theorem zBT:FnScope ["custom"] ["custom"] (aE pP):=⟨rfl,rfl,rfl,by decide +kernel,rfl,by decide +kernel,by decide +kernel⟩
abbrev fV:Stmt:=top 50
theorem pI:FnScope ["custom"] ["custom"] (aE fV):=⟨rfl,rfl,rfl,by decide +kernel,rfl,by decide +kernel,by decide +kernel⟩
abbrev lI:Stmt:=top 51
theorem yE:FnScope ["custom"] ["custom"] (aE lI):=⟨rfl,rfl,rfl,by decide +kernel,rfl,by decide +kernel,by decide +kernel⟩
abbrev fJ:Stmt:=top 52
theorem eM:FnScope ["custom", "claims", "kid"] ["custom"] (aE fJ):=⟨rfl,rfl,rfl,by decide +kernel,rfl,by decide +kernel,by decide +kernel⟩
abbrev jV:Stmt:=top 53
theorem uI:FnScope ["custom"] ["custom"] (aE jV):=⟨rfl,rfl,rfl,by decide +kernel,rfl,by decide +kernel,by decide +kernel⟩
abbrev gD:Stmt:=top 55
theorem jZ:FnScope ["custom"] ["custom"] (aE gD):=⟨rfl,rfl,rfl,by decide +kernel,rfl,by decide +kernel,by decide +kernel⟩
abbrev qV:Stmt:=top 56
theorem fB:FnScope ["custom", "some", "pieces", "start", "kid", "end"] ["custom", "some"] (aE qV):=⟨rfl,rfl,rfl,by decide +kernel,rfl,by decide +kernel,by decide +kernel⟩
abbrev mV:Stmt:=top 63
theorem xA:FnScope ["custom", "names"] ["custom", "names"] (aE mV):=⟨rfl,rfl,rfl,by decide +kernel,rfl,by decide +kernel,by decide +kernel⟩
abbrev eW:Stmt:=top 64
theorem eD:FnScope ["custom", "names", "spot", "name"] ["custom", "names"] (aE eW):=⟨rfl,rfl,rfl,by decide +kernel,rfl,by decide +kernel,by decide +kernel⟩
abbrev mO:Stmt:=top 65
theorem xS:FnScope ["word"] ["word"] (aE mO):=⟨rfl,rfl,rfl,by decide +kernel,rfl,by decide +kernel,by decide +kernel⟩
abbrev fH:Stmt:=top 66
theorem kK:FnScope ["signs", "word"] ["signs", "word"] (aE fH):=⟨rfl,rfl,rfl,by decide +kernel,rfl,by decide +kernel,by decide +kernel⟩
abbrev eZ:Stmt:=top 67
theorem cL:FnScope ["custom", "names", "name", "claim", "texts", "way", "inside"] ["custom", "names"] (aE eZ):=⟨rfl,rfl,rfl,by decide +kernel,rfl,by decide +kernel,by decide +kernel⟩
abbrev fL:Stmt:=top 72
theorem nQ:FnScope ["script", "k"] ["script", "k"] (aE fL):=⟨rfl,rfl,rfl,by decide +kernel,rfl,by decide +kernel,by decide +kernel⟩
abbrev hW:Stmt:=top 73
theorem rW:FnScope ["found"] ["found"] (aE hW):=⟨rfl,rfl,rfl,by decide +kernel,rfl,by decide +kernel,by decide +kernel⟩
abbrev iB:Stmt:=top 74
theorem kM:FnScope ["cell", "kind", "some"] ["cell", "kind"] (aE iB):=⟨rfl,rfl,rfl,by decide +kernel,rfl,by decide +kernel,by decide +kernel⟩
abbrev jJ:Stmt:=top 75
theorem cJ:FnScope ["cell", "kids", "way", "weights", "most", "rest", "kid"] ["cell", "kids"] (aE jJ):=⟨rfl,rfl,rfl,by decide +kernel,rfl,by decide +kernel,by decide +kernel⟩
abbrev gH:Stmt:=top 76
theorem aU:FnScope ["script", "head", "pile", "knots", "boats", "k", "cell", "turn", "many"] ["script"] (aE gH):=⟨rfl,rfl,rfl,by decide +kernel,rfl,by decide +kernel,by decide +kernel⟩
abbrev eP:Stmt:=top 77
theorem cP:FnScope ["custom", "claims", "kid"] ["custom"] (aE eP):=⟨rfl,rfl,rfl,by decide +kernel,rfl,by decide +kernel,by decide +kernel⟩
abbrev iJ:Stmt:=top 78
theorem aY:FnScope ["script", "many", "letters", "cell", "names", "k", "rest", "name", "spot", "some"] ["script", "many"] (aE iJ):=⟨rfl,rfl,rfl,by decide +kernel,rfl,by decide +kernel,by decide +kernel⟩
abbrev fN:Stmt:=top 79
theorem gA:FnScope ["found", "due", "k"] ["found", "due"] (aE fN):=⟨rfl,rfl,rfl,by decide +kernel,rfl,by decide +kernel,by decide +kernel⟩
abbrev kB:Stmt:=top 80
theorem dD:FnScope ["custom", "names", "way", "told", "e"] ["custom", "names", "way"] (aE kB):=⟨rfl,rfl,rfl,by decide +kernel,rfl,by decide +kernel,by decide +kernel⟩
abbrev lH:Stmt:=top 81
theorem jG:FnScope ["script", "custom", "names", "at", "other", "some", "due", "found", "told"] ["script"] (aE lH):=⟨rfl,rfl,rfl,by decide +kernel,rfl,by decide +kernel,by decide +kernel⟩
abbrev dB:Stmt:=(L3.jQ (top 69)).getD 0 (.Pass ⟨0,0,0,0⟩)
theorem iV:FnScope ["self", "custom", "names"] ["self", "custom", "names"] (aE dB):=⟨rfl,rfl,rfl,by decide +kernel,rfl,by decide +kernel,by decide +kernel⟩
abbrev eA:Stmt:=(L3.jQ (top 69)).getD 4 (.Pass ⟨0,0,0,0⟩)
theorem lA:FnScope ["self"] ["self"] (aE eA):=⟨rfl,rfl,rfl,by decide +kernel,rfl,by decide +kernel,by decide +kernel⟩
abbrev eS:Stmt:=(L3.jQ (top 69)).getD 5 (.Pass ⟨0,0,0,0⟩)
theorem lN:FnScope ["self"] ["self"] (aE eS):=⟨rfl,rfl,rfl,by decide +kernel,rfl,by decide +kernel,by decide +kernel⟩
abbrev fZ:Stmt:=(L3.jQ (top 69)).getD 6 (.Pass ⟨0,0,0,0⟩)
theorem pM:FnScope ["self"] ["self"] (aE fZ):=⟨rfl,rfl,rfl,by decide +kernel,rfl,by decide +kernel,by decide +kernel⟩
abbrev fP:Stmt:=(L3.jQ (top 69)).getD 7 (.Pass ⟨0,0,0,0⟩)
theorem nU:FnScope ["self"] ["self"] (aE fP):=⟨rfl,rfl,rfl,by decide +kernel,rfl,by decide +kernel,by decide +kernel⟩
abbrev fU:Stmt:=(L3.jQ (top 69)).getD 8 (.Pass ⟨0,0,0,0⟩)
theorem oB:FnScope ["self"] ["self"] (aE fU):=⟨rfl,rfl,rfl,by decide +kernel,rfl,by decide +kernel,by decide +kernel⟩
structure Bt (mg:Str->Option Value):Prop where
 sorted:mg "sorted" = none
 range:mg "range" = none
 len:mg "len" = none
 tuple:mg "tuple" = none
 sum:mg "sum" = none
 max:mg "max" = none
 enumerate:mg "enumerate" = none
 all:mg "all" = none
 zip:mg "zip" = none
 isinstance:mg "isinstance" = none
 int:mg "int" = none
 bool:mg "bool" = none
 min:mg "min" = none
 str:mg "str" = none
 list:mg "list" = none
structure Kt (K:PySem.W.Frag):Prop where
 bool:Kit K "bool"
 int:Kit K "int"
 list:Kit K "list"
 str:Kit K "str"
 tuple:Kit K "tuple"
structure Ct (K:PySem.W.Frag) (mg:Str->Option Value):Prop where
 BOAT:∃ v u,mg "BOAT" = some u/\bU v u/\IsD K (fun _=>none) v d_BOAT
 DEEPEST:∃ v u,mg "DEEPEST" = some u/\bU v u/\IsD K (fun _=>none) v d_DEEPEST
 LETTERS:∃ v u,mg "LETTERS" = some u/\bU v u/\IsD K (fun _=>none) v d_LETTERS
 MOST_BOATS:∃ v u,mg "MOST_BOATS" = some u/\bU v u/\IsD K (fun _=>none) v d_MOST_BOATS
 WEIGHTED:∃ v u,mg "WEIGHTED" = some u/\bU v u/\IsD K (fun _=>none) v d_WEIGHTED
 CONTRARY:∃ a,IsTab K mg "CONTRARY" cE a
structure Rt (K:PySem.W.Frag) (mg:Str->Option Value):Prop where
 BadClaim:∃ C,Err K mg "BadClaim" C
 BadWay:∃ C,Err K mg "BadWay" C
 BadWeights:∃ C,Err K mg "BadWeights" C
 NoText:∃ C,Err K mg "NoText" C
 TooMany:∃ C,Err K mg "TooMany" C
 Unlike:∃ C,Err K mg "Unlike" C
structure Lt (K:PySem.W.Frag) (mg:Str->Option Value):Prop where
 fa:∀ C,mg "Ledger" = some (.ref C)->Cls K C/\∀ f∈(["standing", "called", "had", "spare", "facts"]:List Str),fW K C f
structure Et (K:PySem.W.Frag) (mg:Str->Option Value):Prop where
 cat:∀ c,tbT.contains c=true->Cat K mg "CatchError" c
 ek:EK K mg zFT ["NoText", "Unlike"]
theorem zIV {K:PySem.W.Frag} {h:Heap} {mg:Str->Option Value} {t0 t1 t2 t3 t4 t5:Tok} {pWEIGHTED0:Addr} {o_pWEIGHTED0:Option Addr} {n_pWEIGHTED0:Nat} {s_pWEIGHTED0:Array (Option Value)} {a_CONTRARY:Addr} (X:K.In h) (G:h.Ns mainGlobals mg) (n_BOAT:PySem.W.nsIn K mainGlobals "BOAT" = some (some (.str "boat" t0))) (n_DEEPEST:PySem.W.nsIn K mainGlobals "DEEPEST" = some (some (.int (8) t1))) (n_LETTERS:PySem.W.nsIn K mainGlobals "LETTERS" = some (some (.str "abcdefghijklmnopqrstuvwxyz" t2))) (n_MOST_BOATS:PySem.W.nsIn K mainGlobals "MOST_BOATS" = some (some (.int (12) t3))) (n_WEIGHTED:PySem.W.nsIn K mainGlobals "WEIGHTED" = some (some (.ref pWEIGHTED0))) (pWEIGHTED0_l:K.lookup pWEIGHTED0=some ⟨.type "tuple", o_pWEIGHTED0,.seq #[.str "even" t4,.str "lack" t5] n_pWEIGHTED0,s_pWEIGHTED0⟩) (n_CONTRARY:PySem.W.nsIn K mainGlobals "CONTRARY" = some (some (.ref a_CONTRARY))) (cE:PyProof.Rows.KTD.tabLook (PyProof.Rows.KTD.datLooks fun a=>K.lookup a) (fun a=>K.lookup a) a_CONTRARY (zGj Lw.cE)=true):Ct K mg:=⟨⟨.str "boat", _,PySem.W.mg_of X G n_BOAT,⟨_,rfl⟩,(.str _)⟩,⟨.int (8),_,PySem.W.mg_of X G n_DEEPEST,⟨_,rfl⟩,(.int _)⟩,⟨.str "abcdefghijklmnopqrstuvwxyz", _,PySem.W.mg_of X G n_LETTERS,⟨_,rfl⟩,(.str _)⟩,⟨.int (12),_,PySem.W.mg_of X G n_MOST_BOATS,⟨_,rfl⟩,(.int _)⟩,⟨.ref pWEIGHTED0,_,PySem.W.mg_of X G n_WEIGHTED,rfl,(.tup (.inr ⟨_,_,_,pWEIGHTED0_l,rfl,rfl,Nat.le_of_ble_eq_true rfl,(.cons (show bU (.str "even") _ from ⟨_,rfl⟩) (.cons (show bU (.str "lack") _ from ⟨_,rfl⟩) .nil))⟩) (.cons (.str _) (.cons (.str _) .nil)))⟩,⟨a_CONTRARY,PySem.W.mg_of X G n_CONTRARY,fun h X=>PyProof.Rows.KTD.text_of_look X cE⟩⟩
theorem zIU {K:PySem.W.Frag} {h:Heap} {mg:Str->Option Value} {C_BadClaim:Addr} {C_BadWay:Addr} {C_BadWeights:Addr} {C_NoText:Addr} {C_TooMany:Addr} {C_Unlike:Addr} (X:K.In h) (G:h.Ns mainGlobals mg) (n_BadClaim:PySem.W.nsIn K mainGlobals "BadClaim" = some (some (.ref C_BadClaim))) (x_BadClaim:PySem.W.excIn K C_BadClaim [.type "ValueError", .type "Exception", .type "BaseException", .type "object"] "ValueError.__new__" = true) (n_BadWay:PySem.W.nsIn K mainGlobals "BadWay" = some (some (.ref C_BadWay))) (x_BadWay:PySem.W.excIn K C_BadWay [.type "ValueError", .type "Exception", .type "BaseException", .type "object"] "ValueError.__new__" = true) (n_BadWeights:PySem.W.nsIn K mainGlobals "BadWeights" = some (some (.ref C_BadWeights))) (x_BadWeights:PySem.W.excIn K C_BadWeights [.type "ValueError", .type "Exception", .type "BaseException", .type "object"] "ValueError.__new__" = true) (n_NoText:PySem.W.nsIn K mainGlobals "NoText" = some (some (.ref C_NoText))) (x_NoText:PySem.W.excIn K C_NoText [.type "ValueError", .type "Exception", .type "BaseException", .type "object"] "ValueError.__new__" = true) (n_TooMany:PySem.W.nsIn K mainGlobals "TooMany" = some (some (.ref C_TooMany))) (x_TooMany:PySem.W.excIn K C_TooMany [.type "ValueError", .type "Exception", .type "BaseException", .type "object"] "ValueError.__new__" = true) (n_Unlike:PySem.W.nsIn K mainGlobals "Unlike" = some (some (.ref C_Unlike))) (x_Unlike:PySem.W.excIn K C_Unlike [.type "ValueError", .type "Exception", .type "BaseException", .type "object"] "ValueError.__new__" = true):Rt K mg:=⟨oP X G n_BadClaim x_BadClaim PySem.F.excBase_ValueError,oP X G n_BadWay x_BadWay PySem.F.excBase_ValueError,oP X G n_BadWeights x_BadWeights PySem.F.excBase_ValueError,oP X G n_NoText x_NoText PySem.F.excBase_ValueError,oP X G n_TooMany x_TooMany PySem.F.excBase_ValueError,oP X G n_Unlike x_Unlike PySem.F.excBase_ValueError⟩
theorem zIO {K:PySem.W.Frag} {h:Heap} {mg:Str->Option Value} {C_CatchError:Addr} {C_Unlike:Addr} {C_NoText:Addr} (X:K.In h) (G:h.Ns mainGlobals mg)
  (n_CatchError:PySem.W.nsIn K mainGlobals "CatchError" = some (some (.ref C_CatchError)))
  (n_Unlike:PySem.W.nsIn K mainGlobals "Unlike" = some (some (.ref C_Unlike)))
  (n_NoText:PySem.W.nsIn K mainGlobals "NoText" = some (some (.ref C_NoText)))
  (ce1:PySem.W.typeIn K (.ref C_CatchError)=some (.type "type"))
  (ce2:PySem.W.hasDictIn K C_CatchError=true)
  (ce3:PySem.W.mroIn K C_CatchError (.type "BaseException")=some true)
  (g5:PySem.W.specialIn K (.builtin "object.__class__") "__get__" = some (some (.builtin "getset_descriptor.__get__")))
  (g6:PySem.W.takesIn K (.builtin "object.__class__")=some true)
  (e1_Unlike:PySem.W.hasDictIn K C_Unlike=true)
  (e2_Unlike:PySem.W.findIn K (.ref C_Unlike) "__getattribute__" = some (some (.builtin "BaseException.__getattribute__")))
  (e3_Unlike:PySem.W.findIn K (.ref C_Unlike) "__getattr__" = some none)
  (e4_Unlike:PySem.W.findIn K (.ref C_Unlike) "__class__" = some (some (.builtin "object.__class__")))
  (e7_Unlike:PySem.W.mroIn K C_Unlike (.type "object")=some true)
  (e8_Unlike:PySem.W.mroIn K C_Unlike (.type "BaseException")=some true)
  (em_Unlike:PySem.W.mroIn K C_Unlike (.ref C_CatchError)=some true)
  (k_Unlike_NoText:PySem.W.kitOne K (.ref C_Unlike) (.ref C_NoText)=some false)
  (k_Unlike_Unlike:PySem.W.kitOne K (.ref C_Unlike) (.ref C_Unlike)=some true)
  (e1_NoText:PySem.W.hasDictIn K C_NoText=true)
  (e2_NoText:PySem.W.findIn K (.ref C_NoText) "__getattribute__" = some (some (.builtin "BaseException.__getattribute__")))
  (e3_NoText:PySem.W.findIn K (.ref C_NoText) "__getattr__" = some none)
  (e4_NoText:PySem.W.findIn K (.ref C_NoText) "__class__" = some (some (.builtin "object.__class__")))
  (e7_NoText:PySem.W.mroIn K C_NoText (.type "object")=some true)
  (e8_NoText:PySem.W.mroIn K C_NoText (.type "BaseException")=some true)
  (em_NoText:PySem.W.mroIn K C_NoText (.ref C_CatchError)=some true)
  (k_NoText_NoText:PySem.W.kitOne K (.ref C_NoText) (.ref C_NoText)=some true)
  (k_NoText_Unlike:PySem.W.kitOne K (.ref C_NoText) (.ref C_Unlike)=some false):Et K mg:=by
 refine ⟨fun c hc=>?_,fun c l hl=>?_⟩
 ·simp only [tbT,List.contains_cons,List.contains_nil,Bool.or_false,Bool.or_eq_true,beq_iff_eq] at hc
  rcases hc with rfl | rfl
  ·exact ⟨C_Unlike,C_CatchError,PySem.W.mg_of X G n_Unlike,PySem.W.mg_of X G n_CatchError,(wB e1_Unlike e2_Unlike e3_Unlike e4_Unlike g5 g6 e7_Unlike e8_Unlike),zDz ce1 ce2 ce3,em_Unlike⟩
  ·exact ⟨C_NoText,C_CatchError,PySem.W.mg_of X G n_NoText,PySem.W.mg_of X G n_CatchError,(wB e1_NoText e2_NoText e3_NoText e4_NoText g5 g6 e7_NoText e8_NoText),zDz ce1 ce2 ce3,em_NoText⟩
 ·have hm:=jX hl
  simp only [zFT,List.mem_cons,List.not_mem_nil,or_false,Prod.mk.injEq] at hm
  rcases hm with ⟨rfl,rfl⟩ | ⟨rfl,rfl⟩
  ·refine ⟨C_Unlike,PySem.W.mg_of X G n_Unlike,(wB e1_Unlike e2_Unlike e3_Unlike e4_Unlike g5 g6 e7_Unlike e8_Unlike),fun x hx=>?_⟩
   simp only [List.contains_cons,List.contains_nil,Bool.or_false,Bool.or_eq_true,beq_iff_eq] at hx
   rcases hx with rfl | rfl
   ·exact ⟨_,_,lC X G n_NoText,⟨_,.inl rfl⟩,k_Unlike_NoText⟩
   ·exact ⟨_,_,lC X G n_Unlike,⟨_,.inl rfl⟩,k_Unlike_Unlike⟩
  ·refine ⟨C_NoText,PySem.W.mg_of X G n_NoText,(wB e1_NoText e2_NoText e3_NoText e4_NoText g5 g6 e7_NoText e8_NoText),fun x hx=>?_⟩
   simp only [List.contains_cons,List.contains_nil,Bool.or_false,Bool.or_eq_true,beq_iff_eq] at hx
   rcases hx with rfl | rfl
   ·exact ⟨_,_,lC X G n_NoText,⟨_,.inl rfl⟩,k_NoText_NoText⟩
   ·exact ⟨_,_,lC X G n_Unlike,⟨_,.inl rfl⟩,k_NoText_Unlike⟩
section
variable {P:Program} {w:World} {K:PySem.W.Frag} {mg:Str->Option Value} {base:Heap} {k:Nat} {f:Addr} {fd:FuncData}
theorem zBd:RankDef dP:=⟨rfl,rfl,rfl,rfl,rfl,fun _ _ _=>⟨_,_,rfl,rfl,rfl⟩⟩
theorem zC (F:Fn K mg "ranked" dP ["some"] f fd) (B:Bt mg) (KT:Kt K) (C:Ct K mg) (R:Rt K mg) (ET:Et K mg) {T:Addr} (hT:iO K mg T) (hB:BMn base mg):CanR P w K mg base (k+1) zCu:=
 zEZ F iP zBd hT hB B.sorted B.range B.len rfl fun cdv A outer s H E G W WR=>⟨(s_z 1 iP.nd bI),(jP W.own W.calm (pE (aS 0)) (g_z 2 iP.nd) bY (aH (s_z 1 iP.nd (aR uG zHp (aS 1) (yU 2)))))⟩
theorem qJ (F:Fn K mg "refuse_way" fX ["way"] f fd) (B:Bt mg) (KT:Kt K) (C:Ct K mg) (R:Rt K mg) (ET:Et K mg)  : CanM P w K mg base (k+1) "refuse_way" ["way"] dI:=
 kZ F qQ fun W WR=>(aH (jK (zCh C.CONTRARY.choose_spec rfl (aS 0) (by with_unfolding_all rfl)) (aH (iC W WR R.BadWay rfl zAi)) bX))
theorem jU (F:Fn K mg "refuse_weights" dM ["way", "weights", "many"] f fd) (B:Bt mg) (KT:Kt K) (C:Ct K mg) (R:Rt K mg) (ET:Et K mg)  : CanM P w K mg base (k+1) "refuse_weights" ["way", "weights", "many"] bV:=
  kZ F cY fun W WR=>(aF (s_z 3 cY.nd (zGk (tst (inA W.u) zIu (aS 0) (iK rfl C.WEIGHTED) (by with_unfolding_all rfl)) (aS 2) bI))
 (aF (jK (tst (neA W.u) zHe (aV aK cU rfl B.len PySem.boot_len (cO 1)) (aS 3) (bQ _)) (aH (iC W WR R.BadWeights rfl zAi)) bX)
 (aH (jP W.own W.calm (pE (aS 1)) (g_z 4 cY.nd) bY (aH (jK (PWd.pt (zDj (tst zCn zIk (aS 4) bI (bQ _)) (sI (tst yB zFV (aS 4) (aR fQ pC bI bI) (bQ _))))) (aH (iC W WR R.BadWeights rfl zAi)) bX))))))
theorem zEg (F:Fn K mg "boat" zAX ["claim"] f fd) (B:Bt mg) (KT:Kt K) (C:Ct K mg) (R:Rt K mg) (ET:Et K mg)  : CanM P w K mg base (k+1) "boat" ["claim"] rP:=
  kZ F zET fun W WR=>(aF (jK (PWd.pt (zDj (tst zCn zIk (aS 0) bI (bQ _)) (sI (tst yB zFV (aS 0) (aR fQ pC bI bI) (bQ _))))) (aH (iC W WR R.BadClaim rfl zAi)) bX)
 (aH (cD (sH (aA (iK rfl C.BOAT) (cO 0) bC)))))
theorem xW (F:Fn K mg "is_boat" mZ ["custom"] f fd) (B:Bt mg) (KT:Kt K) (C:Ct K mg) (R:Rt K mg) (ET:Et K mg)  : CanM P w K mg base (k+1) "is_boat" ["custom"] bN:=
 kZ F xX fun W WR=>(aH (cD (vZ (eqA W.u) zCI (yU 0) (iK rfl C.BOAT) (bQ _))))
theorem zBa (F:Fn K mg "way_of" pP ["custom"] f fd) (B:Bt mg) (KT:Kt K) (C:Ct K mg) (R:Rt K mg) (ET:Et K mg)  : CanM P w K mg base (k+1) "way_of" ["custom"] fS:=
 kZ F zBT fun W WR=>(aH (cD (yU 0)))
theorem qW (F:Fn K mg "weights_of" fV ["custom"] f fd) (B:Bt mg) (KT:Kt K) (C:Ct K mg) (R:Rt K mg) (ET:Et K mg)  : CanM P w K mg base (k+1) "weights_of" ["custom"] cN:=
 kZ F pI fun W WR=>(aH (cD (yU 0)))
theorem sD (F:Fn K mg "is_all_of" fH ["signs", "word"] f fd) (B:Bt mg) (KT:Kt K) (C:Ct K mg) (R:Rt K mg) (ET:Et K mg)  : CanM P w K mg base (k+1) "is_all_of" ["signs", "word"] eH:=
 kZ F kK fun W WR=>(aH (cD (aV (zCM W.calm) zGH rfl B.all zBr (aA (PEf.d (wG W kK.nd rfl (sc:=aE fH) rfl rfl (by decide +kernel) (zJj (aS 1)) (fun C2 s2 H2 fp2 G W=>⟨zDK,(vZ yV zJm (aS 2) (aS 0) (by with_unfolding_all rfl))⟩))) aN))))
theorem nZ (F:Fn K mg "_law_cell_at" fL ["script", "k"] f fd) (B:Bt mg) (KT:Kt K) (C:Ct K mg) (R:Rt K mg) (ET:Et K mg)  : CanM P w K mg base (k+1) "_law_cell_at" ["script", "k"] aX:=
  kZ F nQ fun W WR=>(aF (jK (tst zCn zIk (aS 1) (aV aK cU rfl B.len PySem.boot_len (cO 0)) (bQ _)) (aH (cD (zIh (aS 0) 1))) bX)
 (aH (cD bI)))
theorem sA (F:Fn K mg "_law_whole" hW ["found"] f fd) (B:Bt mg) (KT:Kt K) (C:Ct K mg) (R:Rt K mg) (ET:Et K mg)  : CanM P w K mg base (k+1) "_law_whole" ["found"] eE:=
 kZ F rW fun W WR=>(aH (cD (vL (iU KT.int rfl B.isinstance (aS 0) (eU (v:=.ty "int") rfl B.int boot_int rfl)) (vN (zGX (iU KT.bool rfl B.isinstance (aS 0) (eU (v:=.ty "bool") rfl B.bool boot_bool rfl)))))))
theorem rX (F:Fn K mg "_law_claim" iB ["cell", "kind"] f fd) (B:Bt mg) (KT:Kt K) (C:Ct K mg) (R:Rt K mg) (ET:Et K mg)  : CanM P w K mg base (k+1) "_law_claim" ["cell", "kind"] dZ:=
  kZ F kM fun W WR=>(aF (s_z 2 kM.nd (PEf.d (bR (aA (aR bF dL (aR bO fM (aS 0) bI) bI) (aA (aR bF dL (aR bO fM (aS 0) bI) bI) (aA (aR bF dL (aR bO fM (aS 0) bI) (aR cT jE (aR fQ pC bI bI) bI)) (aA (aR uG zHp (aR bF dL (aR bO fM (aS 0) bI) bI) (aR fQ pC bI bI)) aN cA) cA) cA) cA))))
 (aH (cD (xZ eY zFU (aS 2) (aR bF dL (aR cT jE (aS 1) (aR bO fM (aR bF dL (aS 0) bI) bI)) bI) (fun _ _=>rfl)))))
theorem kR (F:FnM K "custom" "Ledger.custom" eA ["self"] f fd) (B:Bt mg) (KT:Kt K) (C:Ct K mg) (R:Rt K mg) (ET:Et K mg) (LC:Lt K mg) {CA:Addr} (hC:mg "Ledger" = some (.ref CA)) (M:Meth K CA "custom" f):CanO P w K mg base (k+1) "Ledger" "custom" cB:=
 rY F lA (by decide) hC (LC.fa CA hC).1 M fun cdv A outer s H E G W WR=>(aH (cD (sU (pv 0) (fun C h=>⟨(LC.fa C h).1,(LC.fa C h).2 _ (by decide +kernel)⟩))))
theorem nI (F:FnM K "names" "Ledger.names" eS ["self"] f fd) (B:Bt mg) (KT:Kt K) (C:Ct K mg) (R:Rt K mg) (ET:Et K mg) (LC:Lt K mg) {CA:Addr} (hC:mg "Ledger" = some (.ref CA)) (M:Meth K CA "names" f):CanO P w K mg base (k+1) "Ledger" "names" dH:=
 rY F lN (by decide) hC (LC.fa CA hC).1 M fun cdv A outer s H E G W WR=>(aH (wD (nD rfl B.list boot_list (aA (sU (pv 0) (fun C h=>⟨(LC.fa C h).1,(LC.fa C h).2 _ (by decide +kernel)⟩)) aN))))
theorem pG (F:FnM K "got" "Ledger.got" fZ ["self"] f fd) (B:Bt mg) (KT:Kt K) (C:Ct K mg) (R:Rt K mg) (ET:Et K mg) (LC:Lt K mg) {CA:Addr} (hC:mg "Ledger" = some (.ref CA)) (M:Meth K CA "got" f):CanO P w K mg base (k+1) "Ledger" "got" eK:=
 rY F pM (by decide) hC (LC.fa CA hC).1 M fun cdv A outer s H E G W WR=>(aH (wD (nD rfl B.list boot_list (aA (sU (pv 0) (fun C h=>⟨(LC.fa C h).1,(LC.fa C h).2 _ (by decide +kernel)⟩)) aN))))
theorem oF (F:FnM K "kept" "Ledger.kept" fP ["self"] f fd) (B:Bt mg) (KT:Kt K) (C:Ct K mg) (R:Rt K mg) (ET:Et K mg) (LC:Lt K mg) {CA:Addr} (hC:mg "Ledger" = some (.ref CA)) (M:Meth K CA "kept" f):CanO P w K mg base (k+1) "Ledger" "kept" cV:=
 rY F nU (by decide) hC (LC.fa CA hC).1 M fun cdv A outer s H E G W WR=>(aH (cD (sU (pv 0) (fun C h=>⟨(LC.fa C h).1,(LC.fa C h).2 _ (by decide +kernel)⟩))))
theorem nW (F:FnM K "tape" "Ledger.tape" fU ["self"] f fd) (B:Bt mg) (KT:Kt K) (C:Ct K mg) (R:Rt K mg) (ET:Et K mg) (LC:Lt K mg) {CA:Addr} (hC:mg "Ledger" = some (.ref CA)) (M:Meth K CA "tape" f):CanO P w K mg base (k+1) "Ledger" "tape" dQ:=
 rY F oB (by decide) hC (LC.fa CA hC).1 M fun cdv A outer s H E G W WR=>(aH (wD (nD rfl B.list boot_list (aA (sU (pv 0) (fun C h=>⟨(LC.fa C h).1,(LC.fa C h).2 _ (by decide +kernel)⟩)) aN))))
theorem xE (F:Fn K mg "kids_of" lI ["custom"] f fd) (B:Bt mg) (KT:Kt K) (C:Ct K mg) (R:Rt K mg) (ET:Et K mg) (c_is_boat:CanM P w K mg base k "is_boat" ["custom"] bN):CanM P w K mg base (k+1) "kids_of" ["custom"] bG:=
 kZ F yE fun W WR=>(aH (cD (zGk (yS (aQ W c_is_boat rfl (cO 0))) (sH aN) (yU 0))))
theorem xL (F:Fn K mg "is_name" mO ["word"] f fd) (B:Bt mg) (KT:Kt K) (C:Ct K mg) (R:Rt K mg) (ET:Et K mg) (c_is_all_of:CanM P w K mg base k "is_all_of" ["signs", "word"] eH):CanM P w K mg base (k+1) "is_name" ["word"] fY:=
 kZ F xS fun W WR=>(aH (cD (vL (zCw zGA zJK zGA zJK bI (aV zDm zEx rfl B.len PySem.boot_len (cO 0)) bI) (vN (aQ W c_is_all_of rfl (aA (iK rfl C.LETTERS) (cO 0) bC))))))
theorem rE (F:Fn K mg "_law_names" iJ ["script", "many"] f fd) (B:Bt mg) (KT:Kt K) (C:Ct K mg) (R:Rt K mg) (ET:Et K mg) (c_law_cell_at:CanM P w K mg base k "_law_cell_at" ["script", "k"] aX):CanM P w K mg base (k+1) "_law_names" ["script", "many"] dX:=
  kZ F aY fun W WR=>(aF (s_z 2 aY.nd (fK bP fun _=>.str _))
 (aF (s_z 3 aY.nd (aR bF dL (aQ W c_law_cell_at rfl (aA (aS 0) (aA bI aN aW) bC)) (aR fQ pC bI bI)))
 (aF (xQ (i:=4) aY.nd rfl (Or.inl rfl) (bR aN))
 (aF (jP W.own W.calm (wI rfl B.range (cO 1)) (g_z 5 aY.nd) bY (aF (s_z 6 aY.nd (aR bO fM (aS 3) (aR cT jE (aS 5) bI)))
 (aF (s_z 7 aY.nd (zDI (aS 2) (aR bF dL (aR cT jE (aS 3) (aS 5)) bI) (fun _ _=>rfl)))
 (aF (jP W.own W.calm (wI rfl B.range (aA (aR bF dL (aR bO fM (aS 3) bI) bI) aN cA)) (g_z 8 aY.nd) bY (aF (s_z 7 aY.nd (aR wX zGB (aS 7) (zDI (aS 2) (aR bF dL (aS 6) bI) (fun _ _=>rfl))))
 (aH (s_z 6 aY.nd (aR bO fM (aS 6) bI)))))
 (aF (jK (tst (eqA W.u) zCI (aR bF dL (aR bO fM (aS 3) bI) bI) (aS 5) (bQ _)) (aF (s_z 9 aY.nd (PEf.d (bR (aA (fK bP fun _=>.str _) (aA (fK bP fun _=>.str _) (aA (fK bP fun _=>.str _) (aA (fK bP fun _=>.str _) (aA (fK bP fun _=>.str _) (aA (fK bP fun _=>.str _) (aA (fK bP fun _=>.str _) (aA (fK bP fun _=>.str _) (aA (fK bP fun _=>.str _) (aA (fK bP fun _=>.str _) (aA (fK bP fun _=>.str _) zAi aW) aW) aW) aW) aW) aW) aW) aW) aW) aW) aW))))
 (aH (s_z 7 aY.nd (xZ eY zFU (aS 9) (aR bF dL (aR bO fM (aS 3) bI) bI) (fun _ _=>rfl))))) bX)
 (aH (zCQ (i:=4) (pv 4) (aS 7))))))))
 (aH (qK 4 (pv 4)))))))
theorem qB {r:Mir} (F:Fn K mg "_law_claims" eP ["custom"] f fd) (B:Bt mg) (KT:Kt K) (C:Ct K mg) (R:Rt K mg) (ET:Et K mg)  (c_law_claims:CanM P w K mg base k "_law_claims" ["custom"] r):CanM P w K mg base (k+1) "_law_claims" ["custom"] (eQ r):=
  kZ F cP fun W WR=>(aF (jK (tst (eqA W.u) zCI (yU 0) (fK bP fun _=>.str _) (bQ _)) (aH (cD (PEf.d (bR (aA (yU 0) aN eL))))) bX)
 (aF (s_z 1 cP.nd (PEf.d (bR aN)))
 (aF (jP W.own W.calm (pE (yU 0)) (g_z 2 cP.nd) bY (aH (s_z 1 cP.nd (PEf.d (rS (aS 1) (aQ W c_law_claims rfl (cO 2)))))))
 (aH (cD (aS 1))))))
theorem jH (F:Fn K mg "_law_claims" eP ["custom"] f fd) (B:Bt mg) (KT:Kt K) (C:Ct K mg) (R:Rt K mg) (ET:Et K mg)  : ∀ n:Nat,CanM P w K mg base (k+1+n) "_law_claims" ["custom"] (cK n)
 | 0=>jN F cP fun cdv A outer s H E G W WR=>zBq
 | n+1=>qB (k:=k+1+n) F B KT C R ET  (c_law_claims:=jH F B KT C R ET  n)
theorem rN {r:Mir} (F:Fn K mg "claims_of" fJ ["custom"] f fd) (B:Bt mg) (KT:Kt K) (C:Ct K mg) (R:Rt K mg) (ET:Et K mg) (c_is_boat:CanM P w K mg base k "is_boat" ["custom"] bN) (c_kids_of:CanM P w K mg base k "kids_of" ["custom"] bG) (c_claims_of:CanM P w K mg base k "claims_of" ["custom"] r):CanM P w K mg base (k+1) "claims_of" ["custom"] (fI r):=
  kZ F eM fun W WR=>(aF (jK (yS (aQ W c_is_boat rfl (cO 0))) (aH (wD (bR (aA (yU 0) aN eL)))) bX)
 (aF (xQ (i:=1) eM.nd rfl (Or.inl rfl) (bR aN))
 (aF (jP W.own W.calm (pE (aQ W c_kids_of rfl (cO 0))) (g_z 2 eM.nd) bY (aH (zIF (i:=1) (pv 1) (iE W c_claims_of rfl (cO 2)))))
 (aH (qK 1 (pv 1))))))
theorem kG (F:Fn K mg "claims_of" fJ ["custom"] f fd) (B:Bt mg) (KT:Kt K) (C:Ct K mg) (R:Rt K mg) (ET:Et K mg) (c_is_boat:CanM P w K mg base k "is_boat" ["custom"] bN) (c_kids_of:CanM P w K mg base k "kids_of" ["custom"] bG):∀ n:Nat,CanM P w K mg base (k+1+n) "claims_of" ["custom"] (bE n)
 | 0=>jN F eM fun cdv A outer s H E G W WR=>zBq
 | n+1=>rN (k:=k+1+n) F B KT C R ET (c_is_boat:=c_is_boat.mono (by omega)) (c_kids_of:=c_kids_of.mono (by omega)) (c_claims_of:=kG F B KT C R ET (c_is_boat:=c_is_boat) (c_kids_of:=c_kids_of) n)
theorem yF {r:Mir} (F:Fn K mg "deep_of" gD ["custom"] f fd) (B:Bt mg) (KT:Kt K) (C:Ct K mg) (R:Rt K mg) (ET:Et K mg) (c_kids_of:CanM P w K mg base k "kids_of" ["custom"] bG) (c_deep_of:CanM P w K mg base k "deep_of" ["custom"] r):CanM P w K mg base (k+1) "deep_of" ["custom"] (jC r):=
 kZ F jZ fun W WR=>(aH (cD (aR cT jE bI (zFJ W.calm rfl B.max (PEf.d (wG W jZ.nd rfl (sc:=aE gD) rfl rfl (by decide +kernel) (pE (aQ W c_kids_of rfl (cO 0))) (fun C2 s2 H2 fp2 G W=>⟨zDK,(aQ W c_deep_of rfl (cO 1))⟩))) bI))))
theorem oW (F:Fn K mg "deep_of" gD ["custom"] f fd) (B:Bt mg) (KT:Kt K) (C:Ct K mg) (R:Rt K mg) (ET:Et K mg) (c_kids_of:CanM P w K mg base k "kids_of" ["custom"] bG):∀ n:Nat,CanM P w K mg base (k+1+n) "deep_of" ["custom"] (dW n)
 | 0=>jN F jZ fun cdv A outer s H E G W WR=>zBq
 | n+1=>yF (k:=k+1+n) F B KT C R ET (c_kids_of:=c_kids_of.mono (by omega)) (c_deep_of:=oW F B KT C R ET (c_kids_of:=c_kids_of) n)
theorem zEw (F:Fn K mg "knot" zAj ["way", "weights", "kids"] f fd) (B:Bt mg) (KT:Kt K) (C:Ct K mg) (R:Rt K mg) (ET:Et K mg) (c_refuse_way:CanM P w K mg base k "refuse_way" ["way"] dI) (c_refuse_weights:CanM P w K mg base k "refuse_weights" ["way", "weights", "many"] bV) (c_deep_of:CanM P w K mg base k "deep_of" ["custom"] (dW 10)) (c_claims_of:CanM P w K mg base k "claims_of" ["custom"] (bE 10)):CanM P w K mg base (k+1) "knot" ["way", "weights", "kids"] tQ:=
  kZ F zBf fun W WR=>(aF (zBP (aQ W c_refuse_way rfl (cO 0)))
 (aF (zBP (aQ W c_refuse_weights rfl (aA (aS 0) (aA (aS 1) (aA (aV aK cU rfl B.len PySem.boot_len (cO 2)) aN aO) bC) bC)))
 (aF (s_z 3 zBf.nd (sH (aA (aS 0) (aA (lY fR zF rfl B.tuple boot_tuple (cO 1)) (aA (lY fR zF rfl B.tuple boot_tuple (cO 2)) aN aO) aO) bC)))
 (aF (jK (PWd.pt (zDj (tst (eqA W.u) zCI (aV aK cU rfl B.len PySem.boot_len (cO 2)) bI (bQ _)) (zDj (tst yB zFV (aV aK cU rfl B.len PySem.boot_len (aA (PEf.d (iE W c_claims_of rfl (cO 3))) aN aO)) (iK rfl C.MOST_BOATS) (bQ _)) (sI (tst yB zFV (aQ W c_deep_of rfl (cO 3)) (iK rfl C.DEEPEST) (bQ _)))))) (aH (iC W WR R.TooMany rfl zAi)) bX)
 (aH (cD (aS 3)))))))
theorem vF (F:Fn K mg "claim_of" jV ["custom"] f fd) (B:Bt mg) (KT:Kt K) (C:Ct K mg) (R:Rt K mg) (ET:Et K mg) (c_claims_of:CanM P w K mg base k "claims_of" ["custom"] (bE 10)):CanM P w K mg base (k+1) "claim_of" ["custom"] dR:=
 kZ F uI fun W WR=>(aH (cD (aV (zDp W.calm) zGD rfl B.sum zAG (aA (PEf.d (iE W c_claims_of rfl (cO 0))) aN aO))))
theorem zAm (F:Fn K mg "by_kid" qV ["custom", "some"] f fd) (B:Bt mg) (KT:Kt K) (C:Ct K mg) (R:Rt K mg) (ET:Et K mg) (c_kids_of:CanM P w K mg base k "kids_of" ["custom"] bG) (c_claims_of:CanM P w K mg base k "claims_of" ["custom"] (bE 10)):CanM P w K mg base (k+1) "by_kid" ["custom", "some"] gO:=
  kZ F fB fun W WR=>(aF (xQ (i:=2) fB.nd rfl (Or.inl rfl) (bR aN))
 (aF (s_z 3 fB.nd bI)
 (aF (jP W.own W.calm (pE (aQ W c_kids_of rfl (cO 0))) (g_z 4 fB.nd) bY (aF (s_z 5 fB.nd (aR cT jE (aS 3) (aV aK cU rfl B.len PySem.boot_len (aA (PEf.d (iE W c_claims_of rfl (cO 4))) aN aO))))
 (aF (zCQ (i:=2) (pv 2) (sQ (aS 1) (gC (aS 3)) (gC (aS 5))))
 (aH (s_z 3 fB.nd (aS 5))))))
 (aH (qK 2 (pv 2))))))
theorem mH (F:Fn K mg "refuse_names" eW ["custom", "names"] f fd) (B:Bt mg) (KT:Kt K) (C:Ct K mg) (R:Rt K mg) (ET:Et K mg) (c_claims_of:CanM P w K mg base k "claims_of" ["custom"] (bE 10)) (c_is_name:CanM P w K mg base k "is_name" ["word"] fY):CanM P w K mg base (k+1) "refuse_names" ["custom", "names"] aP:=
  kZ F eD fun W WR=>(aF (jK (tst (neA W.u) zHe (aV aK cU rfl B.len PySem.boot_len (cO 1)) (aV aK cU rfl B.len PySem.boot_len (aA (PEf.d (iE W c_claims_of rfl (cO 0))) aN aO)) (bQ _)) (aH (iC W WR R.Unlike rfl zAi)) bX)
 (aH (jP W.own W.calm (zHt rfl B.enumerate (aS 1)) (zIG W.calm (zAg (g_z 2 eD.nd) (zAg (g_z 3 eD.nd) zIc)) (zI (zI zHS))) (zEz (wC bY (wC bY zEQ))) (aH (jK (PWd.pt (zDj (zGs (yS (aQ W c_is_name rfl (cO 3)))) (sI (tst (inA W.u) zIu (aS 3) (sQ (aS 1) kE (gC (aS 2))) (by with_unfolding_all rfl))))) (aH (iC W WR R.NoText rfl zAi)) bX)))))
theorem uO (F:Fn K mg "_law_knot" jJ ["cell", "kids"] f fd) (B:Bt mg) (KT:Kt K) (C:Ct K mg) (R:Rt K mg) (ET:Et K mg) (c_knot:CanM P w K mg base k "knot" ["way", "weights", "kids"] tQ):CanM P w K mg base (k+1) "_law_knot" ["cell", "kids"] dA:=
  kZ F cJ fun W WR=>(aF (s_z 2 cJ.nd (xZ eY zFU (PEf.d (bR (aA (fK bP fun _=>.str _) (aA (fK bP fun _=>.str _) (aA (fK bP fun _=>.str _) (aA (fK bP fun _=>.str _) (aA (fK bP fun _=>.str _) zAi aW) aW) aW) aW) aW))) (aR bF dL (aS 0) bI) (fun _ _=>rfl)))
 (aF (xQ (i:=3) cJ.nd rfl (Or.inl rfl) (bR aN))
 (aF (jK (tst (inA W.u) zIu (aS 2) (sH (aA (fK bP fun _=>.str _) zAi aW)) (by with_unfolding_all rfl)) (aF (s_z 4 cJ.nd (xZ eY zFU (PEf.d (bR (aA bI (aA bI (aA bI (aA (aR fQ pC bI bI) aN cA) aW) aW) aW))) (aR bF dL (aR bO fM (aS 0) bI) bI) (fun _ _=>rfl)))
 (aF (s_z 5 cJ.nd (aR bO fM (aS 0) bI))
 (aH (jP W.own W.calm (pE (aS 1)) (g_z 6 cJ.nd) bY (aF (zCQ (i:=3) (pv 3) (aR cT jE bI (aR bF dL (aS 5) (aS 4))))
 (aH (s_z 5 cJ.nd (aR bO fM (aS 5) bI)))))))) bX)
 (bZ.frzAt 3 (aH (cD (aQ W c_knot rfl (aA (aS 2) (aA (aS 3) (cO 1) bC) bC))))))))
theorem jD (F:FnM K "__init__" "Ledger.__init__" dB ["self", "custom", "names"] f fd) (B:Bt mg) (KT:Kt K) (C:Ct K mg) (R:Rt K mg) (ET:Et K mg) (LC:Lt K mg) {CA:Addr} (hC:mg "Ledger" = some (.ref CA)) (M:Mk K CA f) (c_refuse_names:CanM P w K mg base k "refuse_names" ["custom", "names"] aP):CanI P w K mg base (k+1) "Ledger" 2 bM:=
 ⟨⟨f,fd,CA,["self", "custom", "names"],zFf (e0:=(bK aP (aD (aG 1) (aD (aG 2) aNil)))) (fs:=[("standing", (aG 1)),("called", (eF (qO (aD (aG 2) aNil)))),("had", (eF (zFX (iL (aD (eC (.int 0)) aNil)) (eB iD (aD (aG 2) aNil))))),("spare", (eC (.int 0))),("facts", (eF (iL aNil)))]) F iV rfl (by decide) ⟨by decide,by decide +kernel⟩ hC (LC.fa CA hC).1 (LC.fa CA hC).2 fun cdv A outer s H E G W=>(zEp (aQ W c_refuse_names rfl (aA (aS 1) (cO 2) bC)) (rK (pv 0) (aS 1) (rK (pv 0) (PEf.d (nD rfl B.list boot_list (cO 2))) (rK (pv 0) (PEf.d (zDJ (bR (aA bI aN aW)) (aV aK cU rfl B.len PySem.boot_len (cO 2)))) (rK (pv 0) bI (rK (pv 0) (PEf.d (bR aN)) yY)))))),F.bd,hC,M,rfl⟩,fun ds h=>by unfold bM yL at h;split at h;assumption;exact absurd rfl h⟩
theorem qZ (F:Fn K mg "_law_custom" gH ["script"] f fd) (B:Bt mg) (KT:Kt K) (C:Ct K mg) (R:Rt K mg) (ET:Et K mg) (c_law_cell_at:CanM P w K mg base k "_law_cell_at" ["script", "k"] aX) (c_law_knot:CanM P w K mg base k "_law_knot" ["cell", "kids"] dA) (c_boat:CanM P w K mg base k "boat" ["claim"] rP) (c_law_claim:CanM P w K mg base k "_law_claim" ["cell", "kind"] dZ):CanM P w K mg base (k+1) "_law_custom" ["script"] dJ:=
  kZ F aU fun W WR=>(aF (s_z 1 aU.nd (aR bF dL (aQ W c_law_cell_at rfl (aA (aS 0) (aA bI aN aW) bC)) (aR fQ pC bI bI)))
 (aF (xQ (i:=2) aU.nd rfl (Or.inl rfl) (bR aN))
 (aF (s_z 3 aU.nd bI)
 (aF (s_z 4 aU.nd (aR cT jE bI (aR bF dL (aS 1) bI)))
 (aF (jK (tst (eqA W.u) zCI (aR bF dL (aR bO fM (aS 1) bI) bI) bI (bQ _)) (aH (s_z 4 aU.nd (aR cT jE (aS 4) bI))) bX)
 (aF (jP W.own W.calm (wI rfl B.range (cO 4)) (g_z 5 aU.nd) bY (aF (s_z 6 aU.nd (aR bF dL (aQ W c_law_cell_at rfl (aA (aS 0) (aA (aR cT jE bI (aS 5)) aN cA) bC)) (aR fQ pC bI bI)))
 (aF (zCQ (i:=2) (pv 2) (aQ W c_boat rfl (aA (aQ W c_law_claim rfl (aA (aS 6) (aA (aR bF dL (aR bO fM (aS 1) bI) bI) aN cA) bC)) aN aO)))
 (aF (s_z 7 aU.nd (aR bF dL (aQ W c_law_cell_at rfl (aA (aS 0) (aA (aR cT jE bI (aS 5)) aN cA) bC)) (aR fQ pC bI bI)))
 (aH (jK (PWd.pt (zJd (tst (eqA W.u) zCI (aR bF dL (aS 7) bI) bI (bQ _)) (zHw (tst zCn zIk (aS 3) bI (bQ _))))) (aF (s_z 3 aU.nd (aR cT jE (aS 3) bI))
 (aF (s_z 8 aU.nd (PEd.frz (aR cT jE bI (aR bF dL (aR bO fM (aS 7) bI) (aV (zAh W.calm) zGo rfl B.min boot_min (aA bI (aA (aV aK cU rfl B.len PySem.boot_len (cO 2)) aN aO) aW))))))
 (aH (xQ (i:=2) aU.nd rfl (Or.inl rfl) (PEf.frz (rS (PEf.d (iW (aS 2) kE (gC (zDC (aS 8))))) (PEf.d (bR (aA (aQ W c_law_knot rfl (aA (aR bO fM (aS 7) bI) (aA (PEf.d (iW (aS 2) (gC (zDC (aS 8))) kE)) aN eL) cA)) aN aO))))))))) bX))))))
 (bZ.frzAt 2 (aF (jK (PWd.pt (zDj (tst yB zFV (aV aK cU rfl B.len PySem.boot_len (cO 2)) bI (bQ _)) (sI (tst yB zFV (aR bF dL (aR bO fM (aS 1) bI) bI) bI (bQ _))))) (aH (cD (aQ W c_law_knot rfl (aA (aR bO fM (aS 1) bI) (cO 2) cA)))) bX)
 (aH (cD (yU 2)))))))))))
theorem sC {r:Mir} (F:Fn K mg "_law_alike" fN ["found", "due"] f fd) (B:Bt mg) (KT:Kt K) (C:Ct K mg) (R:Rt K mg) (ET:Et K mg) (c_law_whole:CanM P w K mg base k "_law_whole" ["found"] eE) (c_law_alike:CanM P w K mg base k "_law_alike" ["found", "due"] r):CanM P w K mg base (k+1) "_law_alike" ["found", "due"] (bJ r):=
  kZ F gA fun W WR=>(aF (jK (zFn (aS 1) zAA (bQ _)) (aH (cD (zHn (aS 0) zAA (bQ _)))) bX)
 (aF (jK (yS (iU KT.str rfl B.isinstance (aS 1) (eU (v:=.ty "str") rfl B.str boot_str rfl))) (aH (cD (vL (iU KT.str rfl B.isinstance (aS 0) (eU (v:=.ty "str") rfl B.str boot_str rfl)) (vN (vZ (eqA W.u) zCI (aS 0) (aS 1) (bQ _)))))) bX)
 (aF (jK (yS (iU KT.int rfl B.isinstance (aS 1) (eU (v:=.ty "int") rfl B.int boot_int rfl))) (aH (cD (vL (aQ W c_law_whole rfl (cO 0)) (vN (vZ (eqA W.u) zCI (aS 0) (aS 1) (bQ _)))))) bX)
 (aF (jK (yS (iU KT.list rfl B.isinstance (aS 1) (eU (v:=.ty "list") rfl B.list boot_list rfl))) (aH (jK (PWd.pt (zDj (zGs (yS (iU KT.list rfl B.isinstance (aS 0) (eU (v:=.ty "list") rfl B.list boot_list rfl)))) (sI (tst (neA W.u) zHe (aV aK cU rfl B.len PySem.boot_len (cO 0)) (aV aK cU rfl B.len PySem.boot_len (cO 1)) (bQ _))))) (aH (cD (fK mM fun _=>.bl _))) bX)) (aH (jK (PWd.pt (zDj (zGs (yS (iU KT.tuple rfl B.isinstance (aS 0) (eU (v:=.ty "tuple") rfl B.tuple boot_tuple rfl)))) (sI (tst (neA W.u) zHe (aV aK cU rfl B.len PySem.boot_len (cO 0)) (aV aK cU rfl B.len PySem.boot_len (cO 1)) (bQ _))))) (aH (cD (fK mM fun _=>.bl _))) bX)))
 (aF (jP W.own W.calm (wI rfl B.range (aA (aV aK cU rfl B.len PySem.boot_len (cO 1)) aN aO)) (g_z 2 gA.nd) bY (aH (jK (zGs (yS (aQ W c_law_alike rfl (aA (zIh (aS 0) 2) (aA (zIh (aS 1) 2) aN eL) eL)))) (aH (cD (fK mM fun _=>.bl _))) bX)))
 (aH (cD (fK mM fun _=>.bl _))))))))
theorem kQ (F:Fn K mg "_law_alike" fN ["found", "due"] f fd) (B:Bt mg) (KT:Kt K) (C:Ct K mg) (R:Rt K mg) (ET:Et K mg) (c_law_whole:CanM P w K mg base k "_law_whole" ["found"] eE):∀ n:Nat,CanM P w K mg base (k+1+n) "_law_alike" ["found", "due"] (aL n)
 | 0=>jN F gA fun cdv A outer s H E G W WR=>zBq
 | n+1=>sC (k:=k+1+n) F B KT C R ET (c_law_whole:=c_law_whole.mono (by omega)) (c_law_alike:=kQ F B KT C R ET (c_law_whole:=c_law_whole) n)
theorem xT {r:Mir} (F:Fn K mg "text_of" eZ ["custom", "names"] f fd) (B:Bt mg) (KT:Kt K) (C:Ct K mg) (R:Rt K mg) (ET:Et K mg) (c_is_boat:CanM P w K mg base k "is_boat" ["custom"] bN) (c_way_of:CanM P w K mg base k "way_of" ["custom"] fS) (c_claim_of:CanM P w K mg base k "claim_of" ["custom"] dR) (c_kids_of:CanM P w K mg base k "kids_of" ["custom"] bG) (c_by_kid:CanM P w K mg base k "by_kid" ["custom", "some"] gO) (c_weights_of:CanM P w K mg base k "weights_of" ["custom"] cN) (c_text_of:CanM P w K mg base k "text_of" ["custom", "names"] r):CanM P w K mg base (k+1) "text_of" ["custom", "names"] (fE r):=
  kZ F cL fun W WR=>(aF (jK (yS (aQ W c_is_boat rfl (cO 0))) (aF (s_z 2 cL.nd (yU 1))
 (aF (s_z 3 cL.nd (aQ W c_claim_of rfl (cO 0)))
 (aH (cD (zZ (oR (aS 2) (wR (oR (aS 3) zK gX) (oH gX)) (oY (oH gX)))))))) bX)
 (aF (zDu (i:=4) cL.nd rfl (Or.inl rfl) (PCf.d (sJ (N:=["custom", "names", "name", "claim", "texts", "way", "inside"]) W (by decide +kernel) rfl (sc:=aE eZ) rfl rfl (by decide +kernel) (zGR rfl B.zip (aA (aQ W c_kids_of rfl (cO 0)) (aA (PEf.d (iE W c_by_kid rfl (aA (aS 0) (cO 1) bC))) aN aO) aO)) (fun C2 s2 H2 fp2 G W=>(aQ W c_text_of rfl (aA (aS 7) (cO 8) bC))))) rfl)
 (aF (jK (tst (inA W.u) zIu (aQ W c_way_of rfl (cO 0)) (iK rfl C.WEIGHTED) (by with_unfolding_all rfl)) (aH (zDu (i:=4) cL.nd rfl (Or.inl rfl) (PCf.d (sJ (N:=["custom", "names", "name", "claim", "texts", "way", "inside"]) W (by decide +kernel) rfl (sc:=aE eZ) rfl rfl (by decide +kernel) (zGR rfl B.zip (aA (aQ W c_weights_of rfl (cO 0)) (cO 4) aO)) (fun C2 s2 H2 fp2 G W=>(zZ (oR (aS 7) (wR (oR (aS 8) zK gX) (oH gX)) (oY (oH gX))))))) rfl)) bX)
 (aF (s_z 5 cL.nd (aQ W c_way_of rfl (cO 0)))
 (aF (s_z 6 cL.nd (zEv (aS 4)))
 (aH (cD (zZ (oR (aS 5) (wR (oR (aS 6) (wR zK gX) (oY gX)) (oH (oY gX))) (oY (oH (oY gX))))))))))))
theorem pA (F:Fn K mg "text_of" eZ ["custom", "names"] f fd) (B:Bt mg) (KT:Kt K) (C:Ct K mg) (R:Rt K mg) (ET:Et K mg) (c_is_boat:CanM P w K mg base k "is_boat" ["custom"] bN) (c_way_of:CanM P w K mg base k "way_of" ["custom"] fS) (c_claim_of:CanM P w K mg base k "claim_of" ["custom"] dR) (c_kids_of:CanM P w K mg base k "kids_of" ["custom"] bG) (c_by_kid:CanM P w K mg base k "by_kid" ["custom", "some"] gO) (c_weights_of:CanM P w K mg base k "weights_of" ["custom"] cN):∀ n:Nat,CanM P w K mg base (k+1+n) "text_of" ["custom", "names"] (cH n)
 | 0=>jN F cL fun cdv A outer s H E G W WR=>zBq
 | n+1=>xT (k:=k+1+n) F B KT C R ET (c_is_boat:=c_is_boat.mono (by omega)) (c_way_of:=c_way_of.mono (by omega)) (c_claim_of:=c_claim_of.mono (by omega)) (c_kids_of:=c_kids_of.mono (by omega)) (c_by_kid:=c_by_kid.mono (by omega)) (c_weights_of:=c_weights_of.mono (by omega)) (c_text_of:=pA F B KT C R ET (c_is_boat:=c_is_boat) (c_way_of:=c_way_of) (c_claim_of:=c_claim_of) (c_kids_of:=c_kids_of) (c_by_kid:=c_by_kid) (c_weights_of:=c_weights_of) n)
theorem yA (F:Fn K mg "written" mV ["custom", "names"] f fd) (B:Bt mg) (KT:Kt K) (C:Ct K mg) (R:Rt K mg) (ET:Et K mg) (c_refuse_names:CanM P w K mg base k "refuse_names" ["custom", "names"] aP) (c_text_of:CanM P w K mg base k "text_of" ["custom", "names"] (cH 10)):CanM P w K mg base (k+1) "written" ["custom", "names"] cC:=
  kZ F xA fun W WR=>(aF (zBP (aQ W c_refuse_names rfl (aA (aS 0) (cO 1) bC)))
 (aH (cD (aQ W c_text_of rfl (aA (aS 0) (cO 1) bC)))))
theorem uR (F:Fn K mg "_law_told" kB ["custom", "names", "way"] f fd) (B:Bt mg) (KT:Kt K) (C:Ct K mg) (R:Rt K mg) (ET:Et K mg) (c_written:CanM P w K mg base (k+1) "written" ["custom", "names"] cC) (c_Ledger:CanI P w K mg base k "Ledger" 2 bM):CanV P w K mg base (k+1+1) "_law_told" ["custom", "names", "way"] aT:=
  zII F dD fun cdv A outer s H E G W WR=>(zBg (s_z 3 dD.nd (fK zAA fun _=>.non))
 (zBg (zIK W zBp ET.cat rfl dD.nd (i:=4) rfl rfl (zEj (zJP (tst (eqA W.u) zCI (aS 2) bI (bQ _)) (zEj (zIC (i:=3) dD.nd rfl (Or.inl rfl) W c_written rfl (aA (aS 0) (cO 1) bC))) (zEj (zHR (i:=3) dD.nd rfl (Or.inl rfl) W c_Ledger rfl (aA (aS 0) (cO 1) bC))))) (fun ea W=>(aH (s_z 3 dD.nd (PEf.d (bR (aA (zDO ET.ek rfl rfl B.isinstance (pv 4) rfl) (aA (zDO ET.ek rfl rfl B.isinstance (pv 4) rfl) aN aO) aO)))))))
 (zEl (sW (pv 3)))))
theorem zHz (F:Fn K mg "law" lH ["script"] f fd) (B:Bt mg) (KT:Kt K) (C:Ct K mg) (R:Rt K mg) (ET:Et K mg) (c_law_custom:CanM P w K mg base k "_law_custom" ["script"] dJ) (c_law_names:CanM P w K mg base k "_law_names" ["script", "many"] dX) (c_law_cell_at:CanM P w K mg base k "_law_cell_at" ["script", "k"] aX) (c_law_claims:CanM P w K mg base k "_law_claims" ["custom"] (cK 10)) (c_law_told:CanV P w K mg base k "_law_told" ["custom", "names", "way"] aT) (c_Ledger_custom:CanO P w K mg base k "Ledger" "custom" cB) (c_Ledger_names:CanO P w K mg base k "Ledger" "names" dH) (c_Ledger_got:CanO P w K mg base k "Ledger" "got" eK) (c_Ledger_kept:CanO P w K mg base k "Ledger" "kept" cV) (c_Ledger_tape:CanO P w K mg base k "Ledger" "tape" dQ) (c_law_alike:CanM P w K mg base k "_law_alike" ["found", "due"] (aL 20)):FnOk P w K mg base (CX1 P w) (k+1) f fd ["script"] (spM K mg 1 zFG):=
  zHc F jG fun cdv A outer s H E G W WR=>(aF (s_z 1 jG.nd (aQ W c_law_custom rfl (cO 0)))
 (aF (s_z 2 jG.nd (PEf.d (iE W c_law_names rfl (aA (aS 0) (aA (aV aK cU rfl B.len PySem.boot_len (aA (aQ W c_law_claims rfl (cO 1)) aN aO)) aN aO) bC))))
 (aF (s_z 3 jG.nd (aR bF dL (aQ W c_law_cell_at rfl (aA (aS 0) (aA bI aN aW) bC)) (aV aK cU rfl B.len PySem.boot_len (cO 2))))
 (aF (jP W.own W.calm (pE (PEf.d (bR (aA (zIh (aS 2) 3) (aA (fK bP fun _=>.str _) (aA (fK bP fun _=>.str _) (aA (fK bP fun _=>.str _) (aA (fK bP fun _=>.str _) (aA (fK bP fun _=>.str _) (aA (yU 2) zAi eL) aW) aW) aW) aW) aW) eL)))) (g_z 4 jG.nd) bY (aH (jP W.own W.calm (pE (PEf.d (bR (aA (PEf.d (rS (PEf.d (rS (PEf.d (iW (aS 2) kE (gC (aS 3)))) (PEf.d (bR (cO 4))))) (PEf.d (iW (aS 2) (gC (aR cT jE (aS 3) bI)) kE)))) (aA (PEf.d (rS (aS 2) (PEf.d (bR (cO 4))))) (aA (PEf.d (iW (aS 2) (gC bI) kE)) aN eL) cA) cA)))) (g_z 5 jG.nd) bY (aF (zJA (j:=6) jG.nd rfl (Or.inl rfl) W c_law_told rfl (aA (aS 1) (aA (PEf.d (nD rfl B.list boot_list (cO 5))) (aA bI aN aW) aO) bC))
 (aF (zJA (j:=7) jG.nd rfl (Or.inl rfl) W c_law_told rfl (aA (aS 1) (aA (lY fR zF rfl B.tuple boot_tuple (cO 5)) (aA bI aN aW) aO) bC))
 (aH (jK (yS (iU KT.list rfl B.isinstance (aS 6) (eU (v:=.ty "list") rfl B.list boot_list rfl))) (aH (jK (PWd.pt (zDj (tst (neA W.u) zHe (aS 7) (aS 6) (bQ _)) (sI (tst (zGw W.u) zEe (aS 6) (sH (aA (PEf.d (bR (aA (fK mM fun _=>.bl _) (aA (fK mM fun _=>.bl _) aN aW) aW))) (aA (PEf.d (bR (aA (fK mM fun _=>.bl _) (aA (fK mM fun _=>.bl _) aN aW) aW))) aN lD) lD)) (by with_unfolding_all rfl))))) (aH (cD (fK mM fun _=>.bl _))) bX)) (aF (s_z 8 jG.nd (PEf.d (bR (aA (sV W c_Ledger_custom (pv 7)) (aA (sV W c_Ledger_names (pv 7)) (aA (sV W c_Ledger_got (pv 7)) (aA (sV W c_Ledger_kept (pv 7)) (aA (sV W c_Ledger_tape (pv 7)) aN aO) aO) aO) aO) aO))))
 (aH (jK (zGs (yS (aQ W c_law_alike rfl (aA (aS 8) (aA (PEf.d (bR (aA (aS 1) (aA (aS 5) (aA (PEf.d (zDJ (bR (aA bI aN aW)) (aV aK cU rfl B.len PySem.boot_len (cO 5)))) (aA bI (aA (PEf.d (bR aN)) aN lD) aW) cA) bC) bC))) aN lD) bC)))) (aH (cD (fK mM fun _=>.bl _))) bX))))))))))
 (aH (cD (fK mM fun _=>.bl _)))))))
end
end Lw
namespace Lw
open PySem PySem.Spec PyProof.Rows L2 L3
def FnK (K:PySem.W.Frag) (x:Str) (st:Stmt):Prop:=∃ f oc od sl kV dc pm an cd ct,PySem.W.nsIn K mainGlobals x=some (some (.ref f))/\K.lookup f=some ⟨oc,od,.func (PySem.W.fnOf x x (dC st) (bL st) (aE st) .none kV dc pm an cd ct),sl⟩/\PySem.W.codeIn K cd x=true/\PySem.W.keepIn K (.ref f)=true
theorem fk {K:PySem.W.Frag} {h:Heap} {mg:Str->Option Value} {x:Str} {st:Stmt} (X:K.In h) (G:h.Ns mainGlobals mg) (d:FnK K x st) (ps:List Str) (hb:∀ (kV doc pm:Value) (an:Option Addr) (cdv ct:Value) (us:List Value),us.length=ps.length->bindArgs (PySem.W.fnOf x x (dC st) (bL st) (aE st) .none kV doc pm an cdv ct) ⟨us,[]⟩=pure (ps.zip us)):∃ f fd,Fn K mg x st ps f fd:=by
 obtain ⟨f,oc,od,sl,kV,dc,pm,an,cd,ct,a,l,c,k⟩:=d
 exact ⟨f,_,kN (st:=st) l c k,(kN (st:=st) l c k).binds (ps:=ps) hb,k,PySem.W.mg_of X G a⟩
theorem fkm {K:PySem.W.Frag} {x:Str} {st:Stmt} {f:Addr} {oc:Value} {od an:Option Addr} {sl:Array (Option Value)} {kV dc pm cd ct:Value} (a:PySem.W.nsIn K mainGlobals x=some (some (.ref f))) (l:K.lookup f=some ⟨oc,od,.func (PySem.W.fnOf x x (dC st) (bL st) (aE st) .none kV dc pm an cd ct),sl⟩) (c:PySem.W.codeIn K cd x=true) (k:PySem.W.keepIn K (.ref f)=true):FnK K x st:=⟨f,oc,od,sl,kV,dc,pm,an,cd,ct,a,l,c,k⟩
def FmK (K:PySem.W.Frag) (C:Addr) (x q:Str) (st:Stmt):Prop:=∃ f oc od sl kV dc pm an cd ct,PySem.W.findIn K (.ref C) x=some (some (.ref f))/\K.lookup f=some ⟨oc,od,.func (PySem.W.fnOf x q (dC st) (bL st) (aE st) .none kV dc pm an cd ct),sl⟩/\PySem.W.codeIn K cd q=true/\PySem.W.keepIn K (.ref f)=true/\PySem.W.isFn K (.ref f)=true
theorem fm {K:PySem.W.Frag} {C:Addr} {x q:Str} {st:Stmt} (d:FmK K C x q st) (ps:List Str) (hb:∀ (kV doc pm:Value) (an:Option Addr) (cdv ct:Value) (us:List Value),us.length=ps.length->bindArgs (PySem.W.fnOf x q (dC st) (bL st) (aE st) .none kV doc pm an cdv ct) ⟨us,[]⟩=pure (ps.zip us)):∃ f fd,FnM K x q st ps f fd/\Meth K C x f:=by
 obtain ⟨f,oc,od,sl,kV,dc,pm,an,cd,ct,a,l,c,k,i⟩:=d
 exact ⟨f,_,⟨kN (st:=st) l c k,(kN (st:=st) l c k).binds (ps:=ps) hb⟩,a,i,k⟩
theorem fmm {K:PySem.W.Frag} {C:Addr} {x q:Str} {st:Stmt} {f:Addr} {oc:Value} {od an:Option Addr} {sl:Array (Option Value)} {kV dc pm cd ct:Value} (a:PySem.W.findIn K (.ref C) x=some (some (.ref f))) (l:K.lookup f=some ⟨oc,od,.func (PySem.W.fnOf x q (dC st) (bL st) (aE st) .none kV dc pm an cd ct),sl⟩) (c:PySem.W.codeIn K cd q=true) (k:PySem.W.keepIn K (.ref f)=true) (i:PySem.W.isFn K (.ref f)=true):FmK K C x q st:=⟨f,oc,od,sl,kV,dc,pm,an,cd,ct,a,l,c,k,i⟩
theorem zHK {l:PySem.W.OpenLaw} {w:World} {K:PySem.W.Frag} {h:Heap} {mg:Str->Option Value} {fa f0 f27:Addr} (X:K.In h) (G:h.Ns mainGlobals mg) (hfa:mg "law" = some (.ref fa))
  {od0 an0:Option Addr} {sl0:Array (Option Value)} {oc0 kV0 dc0 pm0 ct0:Value}
  {od27 an27:Option Addr} {sl27:Array (Option Value)} {oc27 kV27 dc27 pm27 cd27 ct27:Value}
  {cR T:Addr}
  (a0:PySem.W.nsIn K mainGlobals "ranked" = some (some (.ref f0))) (l0:K.lookup f0=some ⟨oc0,od0,.func (PySem.W.fnOf "ranked" "ranked" (dC dP) (bL dP) (aE dP) .none kV0 dc0 pm0 an0 (.ref cR) ct0),sl0⟩) (c0:PySem.W.codeIn K (.ref cR) "ranked" = true) (k0:PySem.W.keepIn K (.ref f0)=true)
  (tq:PySem.W.codeHdIn K cR T=true) (tn:K.lookup T=none)
  (d1:FnK K "refuse_way" fX)
  (d2:FnK K "refuse_weights" dM)
  (d3:FnK K "boat" zAX)
  (d4:FnK K "knot" zAj)
  (d5:FnK K "is_boat" mZ)
  (d6:FnK K "way_of" pP)
  (d7:FnK K "weights_of" fV)
  (d8:FnK K "kids_of" lI)
  (d9:FnK K "claims_of" fJ)
  (d10:FnK K "claim_of" jV)
  (d11:FnK K "deep_of" gD)
  (d12:FnK K "by_kid" qV)
  (d13:FnK K "written" mV)
  (d14:FnK K "refuse_names" eW)
  (d15:FnK K "is_name" mO)
  (d16:FnK K "is_all_of" fH)
  (d17:FnK K "text_of" eZ)
  (d18:FnK K "_law_cell_at" fL)
  (d19:FnK K "_law_whole" hW)
  (d20:FnK K "_law_claim" iB)
  (d21:FnK K "_law_knot" jJ)
  (d22:FnK K "_law_custom" gH)
  (d23:FnK K "_law_claims" eP)
  (d24:FnK K "_law_names" iJ)
  (d25:FnK K "_law_alike" fN)
  (d26:FnK K "_law_told" kB)
  (a27:PySem.W.nsIn K mainGlobals "law" = some (some (.ref f27))) (l27:K.lookup f27=some ⟨oc27,od27,.func (PySem.W.fnOf "law" "law" (dC lH) (bL lH) (aE lH) .none kV27 dc27 pm27 an27 cd27 ct27),sl27⟩) (c27:PySem.W.codeIn K cd27 "law" = true) (k27:PySem.W.keepIn K (.ref f27)=true)
  (z_sorted:PySem.W.nsIn K mainGlobals "sorted" = some none)
  (z_range:PySem.W.nsIn K mainGlobals "range" = some none)
  (z_len:PySem.W.nsIn K mainGlobals "len" = some none)
  (z_tuple:PySem.W.nsIn K mainGlobals "tuple" = some none)
  (z_sum:PySem.W.nsIn K mainGlobals "sum" = some none)
  (z_max:PySem.W.nsIn K mainGlobals "max" = some none)
  (z_enumerate:PySem.W.nsIn K mainGlobals "enumerate" = some none)
  (z_all:PySem.W.nsIn K mainGlobals "all" = some none)
  (z_zip:PySem.W.nsIn K mainGlobals "zip" = some none)
  (z_isinstance:PySem.W.nsIn K mainGlobals "isinstance" = some none)
  (z_int:PySem.W.nsIn K mainGlobals "int" = some none)
  (z_bool:PySem.W.nsIn K mainGlobals "bool" = some none)
  (z_min:PySem.W.nsIn K mainGlobals "min" = some none)
  (z_str:PySem.W.nsIn K mainGlobals "str" = some none)
  (z_list:PySem.W.nsIn K mainGlobals "list" = some none)
  {CA:Addr} (nL:PySem.W.nsIn K mainGlobals "Ledger" = some (some (.ref CA))) (g1:PySem.W.plainGet K CA Str.empty=true) (g2:PySem.W.hasDictIn K CA=true) (g3:PySem.W.plainOver K CA=true) (g4:PySem.W.findIn K (.ref CA) "__setattr__" = some (some (.builtin "object.__setattr__"))) (g5:PySem.W.makesIn K CA=true) (g6:PySem.W.keepIn K (.ref CA)=true)
  (n_standing:PySem.W.findIn K (.ref CA) "standing" = some none) (n_called:PySem.W.findIn K (.ref CA) "called" = some none) (n_had:PySem.W.findIn K (.ref CA) "had" = some none) (n_spare:PySem.W.findIn K (.ref CA) "spare" = some none) (n_facts:PySem.W.findIn K (.ref CA) "facts" = some none)
  (d28:FmK K CA "__init__" "Ledger.__init__" dB)
  (d29:FmK K CA "custom" "Ledger.custom" eA)
  (d30:FmK K CA "names" "Ledger.names" eS)
  (d31:FmK K CA "got" "Ledger.got" fZ)
  (d32:FmK K CA "kept" "Ledger.kept" fP)
  (d33:FmK K CA "tape" "Ledger.tape" fU)
  (KT:Kt K) (CC:∀ (h:Heap) (mg:Str->Option Value),K.In h->h.Ns mainGlobals mg->Ct K mg) (RR:∀ (h:Heap) (mg:Str->Option Value),K.In h->h.Ns mainGlobals mg->Rt K mg) (EE:∀ (h:Heap) (mg:Str->Option Value),K.In h->h.Ns mainGlobals mg->Et K mg)
  : K.lookup T=none/\iO K mg T/\∃ fd:FuncData,(∀ (s:Shared) (v:Value),BindsTo s fd ⟨[v],[]⟩ [("script", v)])/\∀ base:Heap,K.In base->base.Ns mainGlobals mg->BMn base mg->FnOk l.prog w K mg base (CX1 l.prog w) 28 fa fd ["script"] (zHD K mg):=by
 have e:=hfa.symm.trans (PySem.W.mg_of X G a27)
 cases e
 have B:Bt mg:=⟨PySem.W.mg_none_of X G z_sorted,PySem.W.mg_none_of X G z_range,PySem.W.mg_none_of X G z_len,PySem.W.mg_none_of X G z_tuple,PySem.W.mg_none_of X G z_sum,PySem.W.mg_none_of X G z_max,PySem.W.mg_none_of X G z_enumerate,PySem.W.mg_none_of X G z_all,PySem.W.mg_none_of X G z_zip,PySem.W.mg_none_of X G z_isinstance,PySem.W.mg_none_of X G z_int,PySem.W.mg_none_of X G z_bool,PySem.W.mg_none_of X G z_min,PySem.W.mg_none_of X G z_str,PySem.W.mg_none_of X G z_list⟩
 have C:Ct K mg:=CC h mg X G
 have R:Rt K mg:=RR h mg X G
 have ET:Et K mg:=EE h mg X G
 have hC:mg "Ledger" = some (.ref CA):=PySem.W.mg_of X G nL
 have LC:Lt K mg:=⟨fun C h=>by
  rw [hC] at h
  cases h
  refine ⟨⟨g1,g2,g3,g4⟩,fun f hf=>?_⟩
  simp only [List.mem_cons,List.not_mem_nil,or_false] at hf
  rcases hf with rfl | rfl | rfl | rfl | rfl
  ·exact n_standing
  ·exact n_called
  ·exact n_had
  ·exact n_spare
  ·exact n_facts⟩
 have hT:iO K mg T:=⟨f0,_,_,_,_,cR,PySem.W.mg_of X G a0,l0,rfl,fun h X=>PySem.W.codeHd_of_K X tq⟩
 refine ⟨tn,hT,?_⟩
 refine ⟨PySem.W.fnOf "law" "law" (dC lH) (bL lH) (aE lH) .none kV27 dc27 pm27 an27 cd27 ct27,fun s v=>.of_eq rfl,fun base _ _ hB=>?_⟩
 have F0:Fn K mg "ranked" dP ["some"] _ _:=⟨kN (st:=dP) l0 c0 k0,(kN (st:=dP) l0 c0 k0).binds (ps:=["some"]) fun _ _ _ _ _ _ us hl=>by obtain ⟨_,rfl⟩:=L3.ln1 hl;rfl,k0,PySem.W.mg_of X G a0⟩
 have c_ranked:=zC (P:=l.prog) (w:=w) (base:=base) (k:=0) F0 B KT C R ET hT hB
 obtain ⟨_,_,F1⟩:=fk X G d1 ["way"] fun _ _ _ _ _ _ us hl=>by obtain ⟨_,rfl⟩:=L3.ln1 hl;rfl
 have c_refuse_way:=qJ (P:=l.prog) (w:=w) (base:=base) (k:=0) F1 B KT C R ET
 obtain ⟨_,_,F2⟩:=fk X G d2 ["way", "weights", "many"] fun _ _ _ _ _ _ us hl=>by obtain ⟨_,_,_,rfl⟩:=L3.ln3 hl;rfl
 have c_refuse_weights:=jU (P:=l.prog) (w:=w) (base:=base) (k:=0) F2 B KT C R ET
 obtain ⟨_,_,F3⟩:=fk X G d3 ["claim"] fun _ _ _ _ _ _ us hl=>by obtain ⟨_,rfl⟩:=L3.ln1 hl;rfl
 have c_boat:=zEg (P:=l.prog) (w:=w) (base:=base) (k:=0) F3 B KT C R ET
 obtain ⟨_,_,F5⟩:=fk X G d5 ["custom"] fun _ _ _ _ _ _ us hl=>by obtain ⟨_,rfl⟩:=L3.ln1 hl;rfl
 have c_is_boat:=xW (P:=l.prog) (w:=w) (base:=base) (k:=0) F5 B KT C R ET
 obtain ⟨_,_,F6⟩:=fk X G d6 ["custom"] fun _ _ _ _ _ _ us hl=>by obtain ⟨_,rfl⟩:=L3.ln1 hl;rfl
 have c_way_of:=zBa (P:=l.prog) (w:=w) (base:=base) (k:=0) F6 B KT C R ET
 obtain ⟨_,_,F7⟩:=fk X G d7 ["custom"] fun _ _ _ _ _ _ us hl=>by obtain ⟨_,rfl⟩:=L3.ln1 hl;rfl
 have c_weights_of:=qW (P:=l.prog) (w:=w) (base:=base) (k:=0) F7 B KT C R ET
 obtain ⟨_,_,F16⟩:=fk X G d16 ["signs", "word"] fun _ _ _ _ _ _ us hl=>by obtain ⟨_,_,rfl⟩:=L3.ln2 hl;rfl
 have c_is_all_of:=sD (P:=l.prog) (w:=w) (base:=base) (k:=0) F16 B KT C R ET
 obtain ⟨_,_,F18⟩:=fk X G d18 ["script", "k"] fun _ _ _ _ _ _ us hl=>by obtain ⟨_,_,rfl⟩:=L3.ln2 hl;rfl
 have c_law_cell_at:=nZ (P:=l.prog) (w:=w) (base:=base) (k:=0) F18 B KT C R ET
 obtain ⟨_,_,F19⟩:=fk X G d19 ["found"] fun _ _ _ _ _ _ us hl=>by obtain ⟨_,rfl⟩:=L3.ln1 hl;rfl
 have c_law_whole:=sA (P:=l.prog) (w:=w) (base:=base) (k:=0) F19 B KT C R ET
 obtain ⟨_,_,F20⟩:=fk X G d20 ["cell", "kind"] fun _ _ _ _ _ _ us hl=>by obtain ⟨_,_,rfl⟩:=L3.ln2 hl;rfl
 have c_law_claim:=rX (P:=l.prog) (w:=w) (base:=base) (k:=0) F20 B KT C R ET
 obtain ⟨_,_,F29,M29⟩:=fm d29 ["self"] fun _ _ _ _ _ _ us hl=>by obtain ⟨_,rfl⟩:=L3.ln1 hl;rfl
 have c_Ledger_custom:=kR (P:=l.prog) (w:=w) (base:=base) (k:=0) F29 B KT C R ET LC hC M29
 obtain ⟨_,_,F30,M30⟩:=fm d30 ["self"] fun _ _ _ _ _ _ us hl=>by obtain ⟨_,rfl⟩:=L3.ln1 hl;rfl
 have c_Ledger_names:=nI (P:=l.prog) (w:=w) (base:=base) (k:=0) F30 B KT C R ET LC hC M30
 obtain ⟨_,_,F31,M31⟩:=fm d31 ["self"] fun _ _ _ _ _ _ us hl=>by obtain ⟨_,rfl⟩:=L3.ln1 hl;rfl
 have c_Ledger_got:=pG (P:=l.prog) (w:=w) (base:=base) (k:=0) F31 B KT C R ET LC hC M31
 obtain ⟨_,_,F32,M32⟩:=fm d32 ["self"] fun _ _ _ _ _ _ us hl=>by obtain ⟨_,rfl⟩:=L3.ln1 hl;rfl
 have c_Ledger_kept:=oF (P:=l.prog) (w:=w) (base:=base) (k:=0) F32 B KT C R ET LC hC M32
 obtain ⟨_,_,F33,M33⟩:=fm d33 ["self"] fun _ _ _ _ _ _ us hl=>by obtain ⟨_,rfl⟩:=L3.ln1 hl;rfl
 have c_Ledger_tape:=nW (P:=l.prog) (w:=w) (base:=base) (k:=0) F33 B KT C R ET LC hC M33
 obtain ⟨_,_,F8⟩:=fk X G d8 ["custom"] fun _ _ _ _ _ _ us hl=>by obtain ⟨_,rfl⟩:=L3.ln1 hl;rfl
 have c_kids_of:=xE (P:=l.prog) (w:=w) (base:=base) (k:=1) F8 B KT C R ET (c_is_boat:=c_is_boat.mono (by decide))
 obtain ⟨_,_,F15⟩:=fk X G d15 ["word"] fun _ _ _ _ _ _ us hl=>by obtain ⟨_,rfl⟩:=L3.ln1 hl;rfl
 have c_is_name:=xL (P:=l.prog) (w:=w) (base:=base) (k:=1) F15 B KT C R ET (c_is_all_of:=c_is_all_of.mono (by decide))
 obtain ⟨_,_,F24⟩:=fk X G d24 ["script", "many"] fun _ _ _ _ _ _ us hl=>by obtain ⟨_,_,rfl⟩:=L3.ln2 hl;rfl
 have c_law_names:=rE (P:=l.prog) (w:=w) (base:=base) (k:=1) F24 B KT C R ET (c_law_cell_at:=c_law_cell_at.mono (by decide))
 obtain ⟨_,_,F23⟩:=fk X G d23 ["custom"] fun _ _ _ _ _ _ us hl=>by obtain ⟨_,rfl⟩:=L3.ln1 hl;rfl
 have c_law_claims:=jH (P:=l.prog) (w:=w) (base:=base) (k:=0) F23 B KT C R ET  10
 obtain ⟨_,_,F9⟩:=fk X G d9 ["custom"] fun _ _ _ _ _ _ us hl=>by obtain ⟨_,rfl⟩:=L3.ln1 hl;rfl
 have c_claims_of:=kG (P:=l.prog) (w:=w) (base:=base) (k:=2) F9 B KT C R ET (c_is_boat:=c_is_boat.mono (by decide)) (c_kids_of:=c_kids_of.mono (by decide)) 10
 obtain ⟨_,_,F11⟩:=fk X G d11 ["custom"] fun _ _ _ _ _ _ us hl=>by obtain ⟨_,rfl⟩:=L3.ln1 hl;rfl
 have c_deep_of:=oW (P:=l.prog) (w:=w) (base:=base) (k:=2) F11 B KT C R ET (c_kids_of:=c_kids_of.mono (by decide)) 10
 obtain ⟨_,_,F4⟩:=fk X G d4 ["way", "weights", "kids"] fun _ _ _ _ _ _ us hl=>by obtain ⟨_,_,_,rfl⟩:=L3.ln3 hl;rfl
 have c_knot:=zEw (P:=l.prog) (w:=w) (base:=base) (k:=13) F4 B KT C R ET (c_refuse_way:=c_refuse_way.mono (by decide)) (c_refuse_weights:=c_refuse_weights.mono (by decide)) (c_deep_of:=c_deep_of.mono (by decide)) (c_claims_of:=c_claims_of.mono (by decide))
 obtain ⟨_,_,F10⟩:=fk X G d10 ["custom"] fun _ _ _ _ _ _ us hl=>by obtain ⟨_,rfl⟩:=L3.ln1 hl;rfl
 have c_claim_of:=vF (P:=l.prog) (w:=w) (base:=base) (k:=13) F10 B KT C R ET (c_claims_of:=c_claims_of.mono (by decide))
 obtain ⟨_,_,F12⟩:=fk X G d12 ["custom", "some"] fun _ _ _ _ _ _ us hl=>by obtain ⟨_,_,rfl⟩:=L3.ln2 hl;rfl
 have c_by_kid:=zAm (P:=l.prog) (w:=w) (base:=base) (k:=13) F12 B KT C R ET (c_kids_of:=c_kids_of.mono (by decide)) (c_claims_of:=c_claims_of.mono (by decide))
 obtain ⟨_,_,F14⟩:=fk X G d14 ["custom", "names"] fun _ _ _ _ _ _ us hl=>by obtain ⟨_,_,rfl⟩:=L3.ln2 hl;rfl
 have c_refuse_names:=mH (P:=l.prog) (w:=w) (base:=base) (k:=13) F14 B KT C R ET (c_claims_of:=c_claims_of.mono (by decide)) (c_is_name:=c_is_name.mono (by decide))
 obtain ⟨_,_,F21⟩:=fk X G d21 ["cell", "kids"] fun _ _ _ _ _ _ us hl=>by obtain ⟨_,_,rfl⟩:=L3.ln2 hl;rfl
 have c_law_knot:=uO (P:=l.prog) (w:=w) (base:=base) (k:=14) F21 B KT C R ET (c_knot:=c_knot.mono (by decide))
 obtain ⟨_,_,F28,M28⟩:=fm d28 ["self", "custom", "names"] fun _ _ _ _ _ _ us hl=>by obtain ⟨_,_,_,rfl⟩:=L3.ln3 hl;rfl
 have c_Ledger:=jD (P:=l.prog) (w:=w) (base:=base) (k:=14) F28 B KT C R ET LC hC ⟨g5,M28.at_,M28.fn,g6⟩ (c_refuse_names:=c_refuse_names.mono (by decide))
 obtain ⟨_,_,F22⟩:=fk X G d22 ["script"] fun _ _ _ _ _ _ us hl=>by obtain ⟨_,rfl⟩:=L3.ln1 hl;rfl
 have c_law_custom:=qZ (P:=l.prog) (w:=w) (base:=base) (k:=15) F22 B KT C R ET (c_law_cell_at:=c_law_cell_at.mono (by decide)) (c_law_knot:=c_law_knot.mono (by decide)) (c_boat:=c_boat.mono (by decide)) (c_law_claim:=c_law_claim.mono (by decide))
 obtain ⟨_,_,F25⟩:=fk X G d25 ["found", "due"] fun _ _ _ _ _ _ us hl=>by obtain ⟨_,_,rfl⟩:=L3.ln2 hl;rfl
 have c_law_alike:=kQ (P:=l.prog) (w:=w) (base:=base) (k:=1) F25 B KT C R ET (c_law_whole:=c_law_whole.mono (by decide)) 20
 obtain ⟨_,_,F17⟩:=fk X G d17 ["custom", "names"] fun _ _ _ _ _ _ us hl=>by obtain ⟨_,_,rfl⟩:=L3.ln2 hl;rfl
 have c_text_of:=pA (P:=l.prog) (w:=w) (base:=base) (k:=14) F17 B KT C R ET (c_is_boat:=c_is_boat.mono (by decide)) (c_way_of:=c_way_of.mono (by decide)) (c_claim_of:=c_claim_of.mono (by decide)) (c_kids_of:=c_kids_of.mono (by decide)) (c_by_kid:=c_by_kid.mono (by decide)) (c_weights_of:=c_weights_of.mono (by decide)) 10
 obtain ⟨_,_,F13⟩:=fk X G d13 ["custom", "names"] fun _ _ _ _ _ _ us hl=>by obtain ⟨_,_,rfl⟩:=L3.ln2 hl;rfl
 have c_written:=yA (P:=l.prog) (w:=w) (base:=base) (k:=25) F13 B KT C R ET (c_refuse_names:=c_refuse_names.mono (by decide)) (c_text_of:=c_text_of.mono (by decide))
 obtain ⟨_,_,F26⟩:=fk X G d26 ["custom", "names", "way"] fun _ _ _ _ _ _ us hl=>by obtain ⟨_,_,_,rfl⟩:=L3.ln3 hl;rfl
 have c_law_told:=uR (P:=l.prog) (w:=w) (base:=base) (k:=25) F26 B KT C R ET (c_written:=c_written.mono (by decide)) (c_Ledger:=c_Ledger.mono (by decide))
 have F27:Fn K mg "law" lH ["script"] _ _:=⟨kN (st:=lH) l27 c27 k27,(kN (st:=lH) l27 c27 k27).binds (ps:=["script"]) fun _ _ _ _ _ _ us hl=>by obtain ⟨_,rfl⟩:=L3.ln1 hl;rfl,k27,PySem.W.mg_of X G a27⟩
 have c_law:=zHz (P:=l.prog) (w:=w) (base:=base) (k:=27) F27 B KT C R ET (c_law_custom:=c_law_custom.mono (by decide)) (c_law_names:=c_law_names.mono (by decide)) (c_law_cell_at:=c_law_cell_at.mono (by decide)) (c_law_claims:=c_law_claims.mono (by decide)) (c_law_told:=c_law_told.mono (by decide)) (c_Ledger_custom:=c_Ledger_custom.mono (by decide)) (c_Ledger_names:=c_Ledger_names.mono (by decide)) (c_Ledger_got:=c_Ledger_got.mono (by decide)) (c_Ledger_kept:=c_Ledger_kept.mono (by decide)) (c_Ledger_tape:=c_Ledger_tape.mono (by decide)) (c_law_alike:=c_law_alike.mono (by decide))
 exact zFE c_law law_true
end Lw
open PySem PySem.W PyProof.Rows
local macro_rules | `(tactic| walk_at "fk")=>`(tactic| (refine' Lw.fkm ?a ?l ?c ?k;(case a=>k_is);(case l=>k_is);(case c=>k_is);(case k=>k_is)))
local macro_rules | `(tactic| walk_at "fm")=>`(tactic| (refine' Lw.fmm ?a ?l ?c ?k ?i;(case a=>k_is);(case l=>k_is);(case c=>k_is);(case k=>k_is);(case i=>first | k_is | rfl | decide +kernel | kernel_rfl)))
set_option maxRecDepth 100000 in
set_option maxHeartbeats 0 in
theorem PySem.Challenge.cw_catchhall_k61_ledgers_made_holds : PySem.Challenge.rw_catchhall_k61_ledgers_made.Holds := by
 w_on;o_law;k_head;(case hw=>w_witness2)
 k_fill
 refine L3.zIW (l:=PySem.Challenge.rw_catchhall_k61_ledgers_made) (k:=28) rfl rfl ⟨rfl,by decide,by decide⟩ (fun w h Y=>PySem.W.km_in_of Y) (fun w h Y=>PySem.W.km_tabs_of Y _ (.head _)) ?F
 case F=>
  intro w mg fa h KX G hmg
  refine' Lw.zHK KX G hmg ?a0 ?l0 ?c0 ?k0 ?tq ?tn ?d1 ?d2 ?d3 ?d4 ?d5 ?d6 ?d7 ?d8 ?d9 ?d10 ?d11 ?d12 ?d13 ?d14 ?d15 ?d16 ?d17 ?d18 ?d19 ?d20 ?d21 ?d22 ?d23 ?d24 ?d25 ?d26 ?a27 ?l27 ?c27 ?k27 ?z_sorted ?z_range ?z_len ?z_tuple ?z_sum ?z_max ?z_enumerate ?z_all ?z_zip ?z_isinstance ?z_int ?z_bool ?z_min ?z_str ?z_list ?nL ?g1 ?g2 ?g3 ?g4 ?g5 ?g6 ?n_standing ?n_called ?n_had ?n_spare ?n_facts ?d28 ?d29 ?d30 ?d31 ?d32 ?d33 ?KT ?CC ?RR ?EE
  (case nL=>first | k_is | kit_is | rfl | decide +kernel | kernel_rfl)
  (case g1=>first | k_is | kit_is | rfl | decide +kernel | kernel_rfl)
  (case g2=>first | k_is | kit_is | rfl | decide +kernel | kernel_rfl)
  (case g3=>first | k_is | kit_is | rfl | decide +kernel | kernel_rfl)
  (case g4=>first | k_is | kit_is | rfl | decide +kernel | kernel_rfl)
  (case g5=>first | k_is | kit_is | rfl | decide +kernel | kernel_rfl)
  (case g6=>first | k_is | kit_is | rfl | decide +kernel | kernel_rfl)
  (case n_standing=>first | k_is | kit_is | rfl | decide +kernel | kernel_rfl)
  (case n_called=>first | k_is | kit_is | rfl | decide +kernel | kernel_rfl)
  (case n_had=>first | k_is | kit_is | rfl | decide +kernel | kernel_rfl)
  (case n_spare=>first | k_is | kit_is | rfl | decide +kernel | kernel_rfl)
  (case n_facts=>first | k_is | kit_is | rfl | decide +kernel | kernel_rfl)
  (case d28=>walk_at "fm")
  (case d29=>walk_at "fm")
  (case d30=>walk_at "fm")
  (case d31=>walk_at "fm")
  (case d32=>walk_at "fm")
  (case d33=>walk_at "fm")
  (case a0=>k_is)
  (case l0=>k_is)
  (case c0=>k_is)
  (case k0=>k_is)
  (case tq=>first | k_is | kernel_rfl | kn_code | decide +kernel)
  (case tn=>first | k_is | kernel_rfl | kn_code | decide +kernel)
  (case a27=>k_is)
  (case l27=>k_is)
  (case c27=>k_is)
  (case k27=>k_is)
  (case d1=>walk_at "fk")
  (case d2=>walk_at "fk")
  (case d3=>walk_at "fk")
  (case d4=>walk_at "fk")
  (case d5=>walk_at "fk")
  (case d6=>walk_at "fk")
  (case d7=>walk_at "fk")
  (case d8=>walk_at "fk")
  (case d9=>walk_at "fk")
  (case d10=>walk_at "fk")
  (case d11=>walk_at "fk")
  (case d12=>walk_at "fk")
  (case d13=>walk_at "fk")
  (case d14=>walk_at "fk")
  (case d15=>walk_at "fk")
  (case d16=>walk_at "fk")
  (case d17=>walk_at "fk")
  (case d18=>walk_at "fk")
  (case d19=>walk_at "fk")
  (case d20=>walk_at "fk")
  (case d21=>walk_at "fk")
  (case d22=>walk_at "fk")
  (case d23=>walk_at "fk")
  (case d24=>walk_at "fk")
  (case d25=>walk_at "fk")
  (case d26=>walk_at "fk")
  (case z_sorted=>k_is)
  (case z_range=>k_is)
  (case z_len=>k_is)
  (case z_tuple=>k_is)
  (case z_sum=>k_is)
  (case z_max=>k_is)
  (case z_enumerate=>k_is)
  (case z_all=>k_is)
  (case z_zip=>k_is)
  (case z_isinstance=>k_is)
  (case z_int=>k_is)
  (case z_bool=>k_is)
  (case z_min=>k_is)
  (case z_str=>k_is)
  (case z_list=>k_is)
  (case KT=>refine' ⟨⟨?t0_0,?t0_1,?t0_2,?t0_3,?t0_4,?t0_5⟩,⟨?t1_0,?t1_1,?t1_2,?t1_3,?t1_4,?t1_5⟩,⟨?t2_0,?t2_1,?t2_2,?t2_3,?t2_4,?t2_5⟩,⟨?t3_0,?t3_1,?t3_2,?t3_3,?t3_4,?t3_5⟩,⟨?t4_0,?t4_1,?t4_2,?t4_3,?t4_4,?t4_5⟩⟩<;>(first | kit_is | (show _=some true;kit_is) | (show _=some false;kit_is) | rfl | decide +kernel))
  (case CC=>
   intro h mg X G
   refine' Lw.zIV X G ?n_BOAT ?n_DEEPEST ?n_LETTERS ?n_MOST_BOATS ?n_WEIGHTED ?pWEIGHTED0_l ?n_CONTRARY ?cE<;>try first | k_is | kit_is | k_exc | rfl | decide +kernel | kernel_rfl)
  (case RR=>
   intro h mg X G
   refine' Lw.zIU X G ?n_BadClaim ?x_BadClaim ?n_BadWay ?x_BadWay ?n_BadWeights ?x_BadWeights ?n_NoText ?x_NoText ?n_TooMany ?x_TooMany ?n_Unlike ?x_Unlike<;>try first | k_is | kit_is | k_exc | rfl | decide +kernel | kernel_rfl)
  (case EE=>
   intro h mg X G
   refine' Lw.zIO X G ?n_CatchError ?n_Unlike ?n_NoText ?ce1 ?ce2 ?ce3 ?g5 ?g6 ?e1_Unlike ?e2_Unlike ?e3_Unlike ?e4_Unlike ?e7_Unlike ?e8_Unlike ?em_Unlike ?k_Unlike_NoText ?k_Unlike_Unlike ?e1_NoText ?e2_NoText ?e3_NoText ?e4_NoText ?e7_NoText ?e8_NoText ?em_NoText ?k_NoText_NoText ?k_NoText_Unlike<;>try first | k_is | kit_is | k_exc | rfl | decide +kernel | kernel_rfl)
