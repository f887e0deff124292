import PyProof.Rows.All
import Wide.All
import OpenK.AllK
import Wide.FinOn
import Lean
import PyProof.EqAt
import PyProof.EqKinds
import PyProof.TupleCall
import PyProof.NeKinds
import KE.KRevIter
import PyProof.Rows.SumAny
import PySem.Challenge.RW_catchhall_k54_whole_no_fish_better_elsew
noncomputable section
set_option Elab.async false
set_option linter.all false
set_option maxRecDepth 100000
namespace L2
open PySem PySem.Spec PyProof.Rows
abbrev Key:=Sum Int Str
def zIH:Key->Value->Bool
 | .inl k,v=>Value.isInt k v
 | .inr x,v=>Value.isStrOf x v
def zMt (w:World):Key->Int
 | .inl k=>hashInt k
 | .inr x=>hashStr w x
theorem cE:∀ {k:Key} {v:Value},zIH k v=true->(∃ i t,k=Sum.inl i/\v=Value.int i t)∨(∃ x t,k=Sum.inr x/\v=Value.str x t)
 | .inl i,v,h=>by
  obtain ⟨t,e⟩:=Value.isInt_shape (k:=i) (v:=v) h
  exact .inl ⟨i,t,rfl,e⟩
 | .inr x,v,h=>by
  obtain ⟨t,e⟩:=Value.isStrOf_shape (x:=x) (v:=v) h
  exact .inr ⟨x,t,rfl,e⟩
theorem zIu (a b:Int):decide ((Sum.inl a:Key)=Sum.inl b)=(a==b):=by
 by_cases e:a=b
 ·subst e;simp
 ·have h:¬ (Sum.inl a:Key)=Sum.inl b:=fun q=>e (Sum.inl.inj q)
  rw [decide_eq_false h]
  exact (beq_eq_false_iff_ne.mpr e).symm
theorem zJO (a b:Str):decide ((Sum.inr a:Key)=Sum.inr b)=decide (a=b):=by
 by_cases e:a=b
 ·subst e;simp
 ·have h:¬ (Sum.inr a:Key)=Sum.inr b:=fun q=>e (Sum.inr.inj q)
  rw [decide_eq_false h,decide_eq_false e]
theorem zKI (a:Int) (b:Str):decide ((Sum.inl a:Key)=Sum.inr b)=false:=decide_eq_false (fun q=>nomatch q)
theorem zKk (a:Str) (b:Int):decide ((Sum.inr a:Key)=Sum.inl b)=false:=decide_eq_false (fun q=>nomatch q)
def zBz (prog:Program) (w:World):PySem.KeyKind prog w Key where
 is:=zIH
 hash:=zMt w
 inj:=fun v a b ha hb=>by
  rcases cE ha with ⟨i,t,rfl,rfl⟩ | ⟨x,t,rfl,rfl⟩
  ·rcases cE hb with ⟨j,u,rfl,e⟩ | ⟨y,u,rfl,e⟩
   ·injection e with e1 _;rw [e1]
   ·exact nomatch e
  ·rcases cE hb with ⟨j,u,rfl,e⟩ | ⟨y,u,rfl,e⟩
   ·exact nomatch e
   ·injection e with e1 _;rw [e1]
 byValue:=fun k v h=>by
  rcases cE h with ⟨i,t,rfl,rfl⟩ | ⟨x,t,rfl,rfl⟩<;>rfl
 pyHash:=fun hv h=>by
  rcases cE hv with ⟨i,t,rfl,rfl⟩ | ⟨x,t,rfl,rfl⟩
  ·exact wpAny_pyHash_int h
  ·exact wpAny_pyHash_str h
 eqBool:=fun hu hv h=>by
  rcases cE hu with ⟨i,t,rfl,rfl⟩ | ⟨x,t,rfl,rfl⟩
  ·rcases cE hv with ⟨j,u,rfl,rfl⟩ | ⟨y,u,rfl,rfl⟩
   ·rw [zIu] at h;exact wpAny_eqBool_int h
   ·rw [zKI] at h;exact SeqAt.EqAt.int_str i t y u _ _ _ _ h
  ·rcases cE hv with ⟨j,u,rfl,rfl⟩ | ⟨y,u,rfl,rfl⟩
   ·rw [zKk] at h;exact SeqAt.EqAt.str_int x t j u _ _ _ _ h
   ·rw [zJO] at h;exact wpAny_eqBool_str h
 «strs» := fun k x t v h=>by
  rcases cE h with ⟨i,u,rfl,e⟩ | ⟨y,u,rfl,e⟩
  ·exact nomatch e
  ·injection e with e1 _
   subst e1
   cases v<;>rfl
end L2
namespace L2
open PySem PySem.Spec PyProof.Rows
inductive V where
 | non | bl (b:Bool) | int (i:Int) | str (x:Str) | byt (b:Array UInt8) | flt (b:UInt64) | ref (a:Addr) | ty (n:String)
 deriving DecidableEq
def bW:V->Value->Prop
 | .non,u=>u=Value.none
 | .bl b,u=>u=Value.bool b
 | .int i,u=>∃ t,u=Value.int i t
 | .str x,u=>∃ t,u=Value.str x t
 | .byt b,u=>∃ t,u=Value.bytes b t
 | .flt b,u=>∃ t,u=Value.float b t
 | .ref a,u=>u=Value.ref a
 | .ty n,u=>u=Value.type n
abbrev cM:List V->List Value->Prop:=Paired bW
theorem cM.length {xs:List V} {us:List Value} (r:cM xs us):xs.length=us.length:=Paired.length r
theorem cM.get:∀ {xs:List V} {us:List Value} {i:Nat} {x:V},cM xs us->xs[i]?=some x->∃ u,us[i]?=some u/\bW x u
 | _,_,_,_,.nil,e=>by simp at e
 | _,_,0,_,.cons r _,e=>by simp at e;subst e;exact ⟨_,rfl,r⟩
 | _,_,i+1,x,.cons _ t,e=>by
  obtain ⟨u,h1,h2⟩:=cM.get (i:=i) (x:=x) t (by simpa using e)
  exact ⟨u,by simpa using h1,h2⟩
theorem cM.set {x:V} {u:Value} (r:bW x u):∀ {xs:List V} {us:List Value} (i:Nat),cM xs us->cM (xs.set i x) (us.set i u)
 | _,_,_,.nil=>.nil
 | _,_,0,.cons _ t=>.cons r t
 | _,_,i+1,.cons q t=>.cons q (cM.set r i t)
theorem cM.append:∀ {xs ys:List V} {us ws:List Value},cM xs us->cM ys ws->cM (xs++ys) (us++ws)
 | _,_,_,_,.nil,s=>s
 | _,_,_,_,.cons r t,s=>.cons r (cM.append t s)
theorem cM.take:∀ {xs:List V} {us:List Value} (n:Nat),cM xs us->cM (xs.take n) (us.take n)
 | _,_,0,_=>.nil
 | _,_,_+1,.nil=>.nil
 | _,_,n+1,.cons r t=>.cons r (cM.take n t)
theorem cM.drop:∀ {xs:List V} {us:List Value} (n:Nat),cM xs us->cM (xs.drop n) (us.drop n)
 | _,_,0,r=>r
 | _,_,_+1,.nil=>.nil
 | _,_,n+1,.cons _ t=>cM.drop n t
def zLV:Option V->Option Value->Prop
 | some v,some u=>bW v u
 | none,none=>True
 | _,_=>False
def KV {κ:Type}:List (κ×V)->List (κ×Value)->Prop:=Paired fun (p:κ×V) (q:κ×Value)=>p.1=q.1/\bW p.2 q.2
def kV:Key->V
 | .inl i=>.int i
 | .inr x=>.str x
inductive HO where
 | lst (xs:List V)
 | tup (xs:List V)
 | dK (kvs:List (Key×V)) | dT (kvs:List (List Key×V))
 | set (S:Int->Bool) (n:Nat)
 | ins (C dx:Addr) (fs:List (Str×V))
 | own (x:Addr)
 | xd (fs:List (Str×V))
 | met (f x:Addr)
 | rng (lo hi:Int)
 | frz (o:Obj) (u:HO)
 | tbl (ps:Array Value)
 | ext (φ:Heap->Prop)
abbrev Hp:=Addr->Option HO
def upd (H:Hp) (a:Addr) (o:HO):Hp:=fun b=>if b=a then some o else H b
theorem aP {H:Hp} {a:Addr} {o:HO}:upd H a o a=some o:=by unfold upd;rw [if_pos rfl]
theorem aO {H:Hp} {a b:Addr} {o:HO} (h:b≠a):upd H a o b=H b:=by unfold upd;rw [if_neg h]
theorem zJw {H:Hp} {a b:Addr} {o u:HO} (h:H a=some o) (h':H b=some u) (d:o≠u):a≠b:=by
 intro e;subst e;rw [h] at h';exact d (Option.some.inj h')
theorem aS {H:Hp} {a b:Addr} {o:HO} (h:H a=some o) (h':H b=none):a≠b:=by
 intro e;subst e;rw [h] at h';cases h'
section
variable (P:Program) (w:World)
def iS (H:Hp) (h:Heap) (a:Addr):HO->Prop
 | .lst xs=>xs.length<=sizeLine/\∃ (its:List Value) (n:Nat),cM xs its/\h.get? a=some { cls:=.type "list", data:=.seq its.toArray n }
 | .tup xs=>xs.length<=sizeLine/\∃ its:List Value,cM xs its/\IsTup h a its.toArray
 | .dK kvs=>kvs.length<=sizeLine/\(a==sysModules)=false/\∃ vs,KV kvs vs/\h.DictOf (zBz P w) a vs
 | .dT kvs=>kvs.length<=sizeLine/\(a==sysModules)=false/\∃ xs:List (List Key×Addr×Value),
   Paired (fun (p:List Key×V) (q:List Key×Addr×Value)=>p.1=q.1/\H q.2.1=some (.tup (p.1.map kV))/\bW p.2 q.2.2) kvs xs/\
   ∃ o es ep,h.get? a=some o/\o.ExactDict/\o.data=.dict es ep/\es.toList=xs.map (entryOfKey (tupleKind (zBz P w)))/\(xs.map (·.1)).Nodup
 | .set S n=>h.SetOf (intKind P w) a S n
 | .ins C dx fs=>H dx=some (.own a)/\fs.length<=1000/\dx≠a/\h.get? a=some (PySem.W.instObj C dx)/\
   ∃ mA,h.Ns1 dx mA/\(∀ f,zLV (fs.lookup f) (mA f))/\PySem.Within mA (fs.map (·.1))
 | .own _=>∃ o,h.get? a=some o
 | .xd fs=>∃ mA,h.Ns1 a mA/\∀ f,zLV (fs.lookup f) (mA f)
 | .rng lo hi=>∃ t u v,h.get? a=some { cls:=.type "range", data:=.fields #[.int lo t,.int hi u,.int 1 v] }
 | .frz o u=>h.get? a=some o/\iS H h a u
 | .tbl ps=>h.get? a=some { cls:=.none,data:=.fields ps }
 | .met f x=>h.get? a=some (PySem.W.methodObj (.ref f) (.ref x))
 | .ext φ=>φ h/\(∃ o,h.get? a=some o)/\∀ h1 h2:Heap,φ h1->(∀ o,h1.get? a=some o->h2.get? a=some o)->φ h2
def HOk (H:Hp) (h:Heap):Prop:=∀ a o,H a=some o->iS P w H h a o
end
section
variable {P:Program} {w:World} {H H':Hp} {h h':Heap} {a:Addr} {o:HO}
theorem iS.lt (x:iS P w H h a o):a < h.objs.size:=by
 cases o with
 | lst xs=>obtain ⟨_,_,_,_,e⟩:=x;exact Heap.lt_size e
 | tup xs=>obtain ⟨_,_,_,p⟩:=x;exact p.lt
 | dK kvs=>obtain ⟨_,_,_,_,o,_,_,e,_⟩:=x;exact Heap.lt_size e
 | dT kvs=>obtain ⟨_,_,_,_,o,_,_,e,_⟩:=x;exact Heap.lt_size e
 | set S n=>obtain ⟨o,_,_,_,e,_⟩:=x;exact Heap.lt_size e
 | ins C dx fs=>obtain ⟨_,_,_,e,_⟩:=x;exact Heap.lt_size e
 | own y=>obtain ⟨_,e⟩:=x;exact Heap.lt_size e
 | xd fs=>obtain ⟨_,⟨_,_,_,e,_⟩,_⟩:=x;exact Heap.lt_size e
 | rng lo hi=>obtain ⟨_,_,_,e⟩:=x;exact Heap.lt_size e
 | frz ob u=>obtain ⟨e,_⟩:=x;exact Heap.lt_size e
 | tbl ps=>exact Heap.lt_size (show h.get? a=some _ from x)
 | met f y=>exact Heap.lt_size (show h.get? a=some _ from x)
 | ext φ=>obtain ⟨_,⟨_,e⟩,_⟩:=x;exact Heap.lt_size e
theorem Paired.mapP {α β:Type} {F G:α->β->Prop}:∀ {l₁:List α} {l₂:List β},Paired F l₁ l₂->(∀ a b,F a b->G a b)->Paired G l₁ l₂
 | _,_,.nil,_=>.nil
 | _,_,.cons r t,f=>.cons (f _ _ r) (Paired.mapP t f)
theorem iS.stay (x:iS P w H h a o) (k:∀ b u,(b=a∨H b=some (.own a))->h.get? b=some u->h'.get? b=some u)
  (ho:∀ b,H b=some (.own a)->H' b=some (.own a)) (ht:∀ b xs,H b=some (.tup xs)->H' b=some (.tup xs)):iS P w H' h' a o:=by
 induction o with
 | lst xs=>obtain ⟨z,its,n,r,e⟩:=x;exact ⟨z,its,n,r,k _ _ (.inl rfl) e⟩
 | tup xs=>obtain ⟨z,its,r,ob,e,c⟩:=x;exact ⟨z,its,r,ob,k _ _ (.inl rfl) e,c⟩
 | dK kvs=>obtain ⟨z,y,vs,r,ob,es,ep,e,c⟩:=x;exact ⟨z,y,vs,r,ob,es,ep,k _ _ (.inl rfl) e,c⟩
 | dT kvs=>
  obtain ⟨z,y,xs,r,ob,es,ep,e,c⟩:=x
  exact ⟨z,y,xs,Paired.mapP r fun p q z=>⟨z.1,ht _ _ z.2.1,z.2.2⟩,ob,es,ep,k _ _ (.inl rfl) e,c⟩
 | set S n=>obtain ⟨ob,es,ep,t,e,c⟩:=x;exact ⟨ob,es,ep,t,k _ _ (.inl rfl) e,c⟩
 | ins C dx fs=>
  obtain ⟨d,z,ne,e,mA,⟨od,es,ep,e2,c⟩,r⟩:=x
  exact ⟨ho _ d,z,ne,k _ _ (.inl rfl) e,mA,⟨od,es,ep,k _ _ (.inr d) e2,c⟩,r⟩
 | own y=>obtain ⟨ob,e⟩:=x;exact ⟨ob,k _ _ (.inl rfl) e⟩
 | xd fs=>obtain ⟨mA,⟨od,es,ep,e,c⟩,r⟩:=x;exact ⟨mA,⟨od,es,ep,k _ _ (.inl rfl) e,c⟩,r⟩
 | rng lo hi=>obtain ⟨t,u,v,e⟩:=x;exact ⟨t,u,v,k _ _ (.inl rfl) e⟩
 | frz ob u ih=>obtain ⟨e,q⟩:=x;exact ⟨k _ _ (.inl rfl) e,ih q⟩
 | tbl ps=>
  have e:h.get? a=some { cls:=.none,data:=.fields ps }:=x
  show h'.get? a=some { cls:=.none,data:=.fields ps }
  exact k a _ (.inl rfl) e
 | met f y=>
  have e:h.get? a=some (PySem.W.methodObj (.ref f) (.ref y)):=x
  show h'.get? a=some (PySem.W.methodObj (.ref f) (.ref y))
  exact k a _ (.inl rfl) e
 | ext φ=>obtain ⟨p,⟨o,e⟩,st⟩:=x;exact ⟨st _ _ p fun o q=>k _ _ (.inl rfl) q,⟨o,k _ _ (.inl rfl) e⟩,st⟩
theorem HOk.lt (x:HOk P w H h) (e:H a=some o):a < h.objs.size:=(x a o e).lt
theorem HOk.fresh (x:HOk P w H h) (e:h.objs.size<=a):H a=none:=by
 cases q:H a with
 | none=>rfl
 | some u=>exact absurd (Nat.lt_of_lt_of_le (x.lt q) e) (Nat.lt_irrefl _)
theorem HOk.kept (x:HOk P w H h) (k:∀ b u,h.get? b=some u->h'.get? b=some u):HOk P w H h':=fun a o e=>
 (x a o e).stay (fun b u _ q=>k b u q) (fun _ q=>q) fun _ _ q=>q
theorem HOk.laid (x:HOk P w H h) (k:∀ b u,h.get? b=some u->h'.get? b=some u) (hp:h.objs.size<=a) (new:iS P w (upd H a o) h' a o):HOk P w (upd H a o) h':=fun b u e=>by
 have hn:=x.fresh hp
 by_cases hb:b=a
 ·subst hb;rw [aP] at e;cases e;exact new
 ·rw [aO hb] at e
  exact (x b u e).stay (fun c v _ q=>k c v q) (fun c q=>by rw [aO (aS q hn)];exact q) fun c xs q=>by rw [aO (aS q hn)];exact q
end
def Rd (H:Hp) (a:Addr) (u:HO):Prop:=H a=some u∨∃ o,H a=some (.frz o u)
theorem Rd.ok {P:Program} {w:World} {H:Hp} {h:Heap} {a:Addr} {u:HO} (r:Rd H a u) (x:HOk P w H h):iS P w H h a u:=by
 rcases r with r | ⟨o,r⟩
 ·exact x a u r
 ·obtain ⟨_,q⟩:=x a _ r
  exact q
def Mut:Option HO->Prop
 | some (.lst _)=>True
 | some (.dK _)=>True
 | some (.dT _)=>True
 | some (.set _ _)=>True
 | some (.ins _ _ _)=>True
 | some (.ext _)=>True
 | _=>False
section
variable {P:Program} {w:World} {H:Hp} {h h':Heap} {x e:Addr} {o':HO}
theorem HOk.write (ok:HOk P w H h) (mu:Mut (H x)) (he:e=x∨H e=some (.own x)) (k:∀ b u,b≠e->h.get? b=some u->h'.get? b=some u) (heo:∃ u,h'.get? e=some u)
  (new:iS P w (upd H x o') h' x o'):HOk P w (upd H x o') h':=fun b u q=>by
 have nown:∀ c y,H c=some (.own y)->c≠x:=fun c y r z=>by subst z;rw [r] at mu;exact mu
 have ntup:∀ c xs,H c=some (.tup xs)->c≠x:=fun c xs r z=>by subst z;rw [r] at mu;exact mu
 by_cases hb:b=x
 ·subst hb;rw [aP] at q;cases q;exact new
 ·rw [aO hb] at q
  by_cases hbe:b=e
  ·have q':H b=some (.own x):=by
    rcases he with z | z
    ·exact absurd (hbe.trans z) hb
    ·rw [hbe];exact z
   rw [q] at q';cases q'
   obtain ⟨v,hv⟩:=heo
   exact ⟨v,by rw [hbe];exact hv⟩
  ·refine (ok b u q).stay (fun c v hc r=>k c v ?_ r) (fun c r=>by rw [aO (nown c b r)];exact r) fun c xs r=>by rw [aO (ntup c xs r)];exact r
   rcases hc with rfl | hc
   ·exact hbe
   ·rintro rfl
    rcases he with z | z
    ·exact nown c b hc z
    ·rw [hc] at z;cases z;exact hb rfl
end
structure Un (fs ex:List Addr) (H H':Hp) (h h':Heap):Prop where
 keep:∀ b o,h.get? b=some o->H b=none->b∉fs->b∉ex->h'.get? b=some o
 slot:∀ b o,h.get? b=some o->H b=none->b∈fs->b∉ex->∃ sl,h'.get? b=some { o with slots:=sl }
 free:∀ b o,h.get? b=some o->H b=none->b∉ex->H' b=none
 there:∀ b o,h.get? b=some o->b∉ex->∃ o',h'.get? b=some o'
 tups:∀ b xs,H b=some (.tup xs)->H' b=some (.tup xs)
 frzs:∀ b o u,H b=some (.frz o u)->H' b=some (.frz o u)
 tbls:∀ b ps,H b=some (.tbl ps)->∃ more,H' b=some (.tbl (ps++more))
section
variable {fs fs' ex ex':List Addr} {H H1 H2:Hp} {h h1 h2 h':Heap} {a x e:Addr} {o:HO}
theorem Un.any (u:Un fs ex H H1 h h1) {b:Addr} {ob:Obj} (q:h.get? b=some ob) (n:H b=none) (hx:b∉ex):∃ sl,h1.get? b=some { ob with slots:=sl }:=by
 by_cases hb:b∈fs
 ·exact u.slot b ob q n hb hx
 ·exact ⟨ob.slots,u.keep b ob q n hb hx⟩
theorem Un.kept (k:∀ b u,h.get? b=some u->h'.get? b=some u):Un fs ex H H h h':=
 ⟨fun b ob q _ _ _=>k b ob q,fun b ob q _ _ _=>⟨ob.slots,k b ob q⟩,fun _ _ _ n _=>n,fun b ob q _=>⟨ob,k b ob q⟩,fun _ _ q=>q,fun _ _ _ q=>q,fun _ ps q=>⟨#[],by rw [q];simp⟩⟩
theorem Un.refl:Un fs ex H H h h:=Un.kept fun _ _ q=>q
theorem Un.laid (k:∀ b u,h.get? b=some u->h'.get? b=some u) (hp:h.objs.size<=a) (hn:H a=none):Un fs ex H (upd H a o) h h' where
 keep:=fun b u q _ _ _=>k b u q
 slot:=fun b u q _ _ _=>⟨u.slots,k b u q⟩
 free:=fun b u q n _=>by rw [aO (Nat.ne_of_lt (Nat.lt_of_lt_of_le (Heap.lt_size q) hp))];exact n
 there:=fun b u q _=>⟨u,k b u q⟩
 tups:=fun b xs q=>by rw [aO (aS q hn)];exact q
 frzs:=fun b u xs q=>by rw [aO (aS q hn)];exact q
 tbls:=fun b ps q=>⟨#[],by rw [aO (aS q hn),q];simp⟩
theorem Un.write (mu:Mut (H x)) (he:e=x∨H e=some (.own x)) (k:∀ b u,b≠e->h.get? b=some u->h'.get? b=some u) (heo:∃ u,h'.get? e=some u):Un fs ex H (upd H x o) h h':=by
 have hx:∀ b,H b=none->b≠x:=fun b n z=>by subst z;rw [n] at mu;exact mu
 have hb:∀ b,H b=none->b≠e:=fun b n z=>by
  subst z
  rcases he with r | r
  ·exact hx b n r
  ·rw [n] at r;cases r
 have hm:∀ b u,H b=some u->¬ Mut (some u)->b≠x:=fun b u q nm z=>by subst z;rw [q] at mu;exact nm mu
 refine ⟨fun b u q n _ _=>k b u (hb b n) q,fun b u q n _ _=>⟨u.slots,k b u (hb b n) q⟩,fun b u q n _=>by rw [aO (hx b n)];exact n,fun b u q _=>?_,
  fun b xs q=>by rw [aO (hm b _ q fun z=>z)];exact q,fun b u xs q=>by rw [aO (hm b _ q fun z=>z)];exact q,fun b ps q=>⟨#[],by rw [aO (hm b _ q fun z=>z),q];simp⟩⟩
 by_cases hbe:b=e
 ·subst hbe;exact heo
 ·exact ⟨u,k b u hbe q⟩
end
def trk (h:Heap) (H:Hp):List Addr:=(List.range h.objs.size).filter fun a=>(H a).isSome
def zDS (h:Heap) (H:Hp):Heap:=PySem.W.hideAll h (trk h H)
theorem zBW (h:Heap) (H:Hp):(zDS h H).objs.size=h.objs.size:=PySem.W.hideAll_size _ _
theorem zEg {h:Heap} {H:Hp} {b:Addr} {o:Obj} (e:h.get? b=some o) (n:H b=none):(zDS h H).get? b=some o:=
 PySem.W.hideAll_get _ e fun hm=>by
  have q:(H b).isSome=true:=(List.mem_filter.mp hm).2
  rw [n] at q;simp at q
theorem zGE {h:Heap} {H:Hp} {b:Addr} {o:Obj} (e:(zDS h H).get? b=some o):h.get? b=some o/\H b=none:=by
 have e':h.get? b=some o:=PySem.W.of_hideAll (trk h H) e
 refine ⟨e',?_⟩
 cases q:H b with
 | none=>rfl
 | some x=>
  have hm:b∈trk h H:=List.mem_filter.mpr ⟨List.mem_range.mpr (Heap.lt_size e'),by simp [q]⟩
  have z:(zDS h H).get? b=none:=PySem.W.hideAll_none (trk h H) hm
  rw [z] at e;cases e
def zHB (g h:Heap) (L:Addr):List (Addr×Obj):=(List.range h.objs.size).filterMap fun a=>if a=L∨(g.get? a).isSome=true then none else (h.get? a).map fun o=>(a,o)
def rest (g h:Heap) (L d:Addr):List (Addr×Obj):=(zHB g h L).filter fun p=>decide (p.1≠d)
end L2
namespace L2
open PySem PySem.Spec PyProof.Rows
structure Mod (K:PySem.W.Frag) (mg:Str->Option Value) (base:Heap):Prop where
 kin:K.In base
 glob:base.Ns mainGlobals mg
 blt:∃ mb,base.Ns builtinsNs mb/\∀ x:Str,x ≠ "__name__" -> mb x=bootBuiltins x
 nolimit:base.NoLimit
structure Cx where
 prog:Program
 w:World
 K:PySem.W.Frag
 mg:Str->Option Value
 base:Heap
 A:Around
 N:List Str
 s₀:Shared
 H₀:Hp
 env:Env
 outer:List Env
 stack:List Env
 ex:List Addr
 fn:Str->Bool
 calm:Bool
 pn:List (Addr×Obj)
 xe:Value->Shared->Prop
def frs (l:List Env):List Addr:=l.filterMap (·.frame)
abbrev Cx.fs (X:Cx):List Addr:=frs X.outer
def Vis (sc:Scope) (x:Str):Prop:=sc.names.lookup x=some .local∨sc.names.lookup x=some .cell∨sc.names.lookup x=some .free
def Loc (sc:Scope) (x:Str):Prop:=sc.names.lookup x=some .local∨sc.names.lookup x=some .cell
def zMI (env:Env) (h:Heap) (m:Str->Option Value) (x:Str) (u:Value):Prop:=
 (env.kindOf x=some .local/\m x=some u)∨((env.kindOf x=some .cell∨env.kindOf x=some .free)/\∃ c,env.cells.lookup x=some c/\h.IsCell c (some u))
structure Cx.Ok (X:Cx):Prop where
 mod:Mod X.K X.mg X.base
 kind:X.env.scope.kind=.function
 glob:X.env.globals=mainGlobals
 blt:X.env.builtins=builtinsNs
 above:X.s₀.heap.objs.size<=X.env.locals
 inj:∀ x y c,X.env.cells.lookup x=some c->X.env.cells.lookup y=some c->x=y
 has:∀ x,(X.env.kindOf x=some .cell∨X.env.kindOf x=some .free)->∃ c,X.env.cells.lookup x=some c
 cab:∀ x c,X.fn x=true->X.env.cells.lookup x=some c->X.s₀.heap.objs.size<=c
 hd:X.calm=true->X.A.handled=none
 frames:X.A.frames=some X.stack
 stk:X.stack=X.outer∨(X.stack=X.env::X.outer/\X.env.frame=some X.env.locals)
 exf:∀ b∈X.ex,b≠X.env.locals/\∀ x c,X.env.cells.lookup x=some c->c≠b
 bs:∀ b o,X.base.get? b=some o->X.s₀.heap.get? b=some o/\X.H₀ b=none
 bsz:X.base.objs.size<=X.s₀.heap.objs.size
 noex:∀ b o,X.base.get? b=some o->b∉X.ex
 exfs:∀ b∈X.ex,b∉X.fs
 funs:X.s₀.heap.FunFrames X.base X.outer
 frf:∀ b∈X.fs,X.H₀ b=none
structure Inv (X:Cx) (pins:List (Addr×Obj)) (σ:List (Option V)) (H:Hp) (s:Shared):Prop where
 ok:X.Ok
 os:s.os=X.s₀.os
 bare:AllBare s.gens
 base:Un X.fs X.ex X.H₀ H X.s₀.heap s.heap
 loc:∃ m,s.heap.Ns X.env.locals m/\∀ (i:Nat) (x:Str) (v:V),X.N[i]?=some x->σ[i]?=some (some v)->Vis X.env.scope x->∃ u,bW v u/\zMI X.env s.heap m x u
 cell:∀ x c,X.env.cells.lookup x=some c->∃ v,s.heap.IsCell c v
 free:H X.env.locals=none
 freeC:∀ x c,X.env.cells.lookup x=some c->H c=none
 pin:∀ p∈X.pn++pins,s.heap.get? p.1=some p.2/\H p.1=none/\p.1≠X.env.locals/\p.1∉X.fs/\∀ v,p.2.data≠.cell v
 hok:HOk X.prog X.w H s.heap
 len:σ.length=X.N.length
section
variable {X:Cx} {pins:List (Addr×Obj)} {σ:List (Option V)} {H H':Hp} {s:Shared} {h':Heap}
theorem Cx.Ok.nofr (ok:X.Ok) {b:Addr} {o:Obj} (e:X.base.get? b=some o):b∉X.fs:=fun hb=>by
 have:=(ok.funs.mem hb).1
 rw [e] at this;cases this
theorem Inv.bs (I:Inv X pins σ H s):∀ b o,X.base.get? b=some o->s.heap.get? b=some o/\H b=none:=fun b o e=>
 ⟨I.base.keep b o (I.ok.bs b o e).1 (I.ok.bs b o e).2 (I.ok.nofr e) (I.ok.noex b o e),I.base.free b o (I.ok.bs b o e).1 (I.ok.bs b o e).2 (I.ok.noex b o e)⟩
theorem Inv.bk (I:Inv X pins σ H s):∀ b o,X.base.get? b=some o->s.heap.get? b=some o:=fun b o e=>(I.bs b o e).1
theorem Inv.mod (I:Inv X pins σ H s):Mod X.K X.mg X.base:=I.ok.mod
theorem Inv.kIn (I:Inv X pins σ H s):X.K.In s.heap:=I.ok.mod.kin.keeps I.bk
theorem Inv.lt (I:Inv X pins σ H s):X.env.locals < s.heap.objs.size:=let ⟨_,hn,_⟩:=I.loc;hn.lt
theorem Inv.sz (I:Inv X pins σ H s):X.s₀.heap.objs.size<=s.heap.objs.size:=Nat.le_trans I.ok.above (Nat.le_of_lt I.lt)
theorem Inv.nofs (I:Inv X pins σ H s) {a:Addr} (h:s.heap.objs.size<=a):a∉X.fs:=fun hb=>by
 obtain ⟨_,o,ho,_⟩:=I.ok.funs.mem hb
 exact absurd (Nat.lt_of_lt_of_le (Heap.lt_size ho) (Nat.le_trans I.sz h)) (Nat.lt_irrefl _)
theorem Inv.cne (I:Inv X pins σ H s):∀ x c,X.env.cells.lookup x=some c->c≠X.env.locals:=fun x c e z=>by
 obtain ⟨v,o,ho,hd⟩:=I.cell x c e
 obtain ⟨m,⟨o',es,ep,ho',hd',_⟩,_⟩:=I.loc
 rw [z,ho'] at ho;cases ho;rw [hd'] at hd;cases hd
theorem Inv.funs (I:Inv X pins σ H s):s.heap.FunFrames X.base X.outer:=by
 have all:∀ (l:List Env),(∀ b∈frs l,b∈X.fs)->X.s₀.heap.FunFrames X.base l->s.heap.FunFrames X.base l:=by
  intro l
  induction l with
  | nil=>intro _ _;trivial
  | cons env r ih=>
   intro hs hl
   obtain ⟨hk,⟨L,o,hf,hn,ho,hd⟩,hr⟩:=hl
   have hL:L∈X.fs:=hs L (by unfold frs;rw [List.filterMap_cons,hf];exact List.mem_cons_self)
   obtain ⟨sl,e⟩:=I.base.slot L o ho (I.ok.frf L hL) hL fun z=>I.ok.exfs L z hL
   exact ⟨hk,⟨L,_,hf,hn,e,hd⟩,ih (fun b hb=>hs b (by unfold frs;rw [List.filterMap_cons,hf];exact List.mem_cons_of_mem _ hb)) hr⟩
 exact all X.outer (fun _ hb=>hb) I.ok.funs
theorem Inv.stack (I:Inv X pins σ H s):s.heap.FunFrames X.base X.stack:=by
 rcases I.ok.stk with e | ⟨e,hf⟩
 ·rw [e];exact I.funs
 ·rw [e]
  obtain ⟨m,hn,_⟩:=I.loc
  refine .cons (by rw [I.ok.kind];decide) hf hn ?_ I.funs
  exact Heap.get?_none_of_le (Nat.le_trans I.ok.bsz I.ok.above)
theorem Inv.stkSub (I:Inv X pins σ H s):∀ b∈frs X.stack,b∈X.env.locals::X.fs:=fun b hb=>by
 rcases I.ok.stk with e | ⟨e,hf⟩
 ·rw [e] at hb;exact List.mem_cons_of_mem _ hb
 ·rw [e] at hb
  unfold frs at hb
  rw [List.filterMap_cons,hf] at hb
  exact hb
theorem Inv.stkFree (I:Inv X pins σ H s):∀ b∈frs X.stack,H b=none:=fun b hb=>by
 rcases List.mem_cons.mp (I.stkSub b hb) with e | hb
 ·rw [e];exact I.free
 ·obtain ⟨_,o,ho,_⟩:=I.ok.funs.mem hb
  exact I.base.free b o ho (I.ok.frf b hb) fun z=>I.ok.exfs b z hb
theorem Inv.step {g':Array GenState} {t':Nat} {d':Drawn} {ch:List Addr} (I:Inv X pins σ H s)
  (hch:∀ b∈ch,(b∈X.ex∨X.s₀.heap.objs.size<=b)/\b≠X.env.locals/\(∀ x c,X.env.cells.lookup x=some c->c≠b)/\∀ p∈X.pn++pins,p.1≠b)
  (keep:∀ b o,b≠X.env.locals->b∉X.fs->b∉ch->s.heap.get? b=some o->H b=none->h'.get? b=some o)
  (slot:∀ b o,b≠X.env.locals->b∈X.fs->b∉ch->s.heap.get? b=some o->H b=none->∃ sl,h'.get? b=some { o with slots:=sl }) (free:∀ b o,b∉ch->s.heap.get? b=some o->H b=none->H' b=none)
  (there:∀ b o,b∉ch->s.heap.get? b=some o->∃ o',h'.get? b=some o')
  (tups:∀ b xs,H b=some (.tup xs)->H' b=some (.tup xs)) (frzs:∀ b o u,H b=some (.frz o u)->H' b=some (.frz o u)) (tbls:∀ b ps,H b=some (.tbl ps)->∃ more,H' b=some (.tbl (ps++more)))
  (ns:∀ m,s.heap.Ns X.env.locals m->h'.Ns X.env.locals m) (hok:HOk X.prog X.w H' h') (hg:AllBare g'):
  Inv X pins σ H' { s with heap:=h',gens:=g',drawn:=d',toks:=t' }:=by
 have neL:∀ b o,X.s₀.heap.get? b=some o->b≠X.env.locals:=fun b o e=>Nat.ne_of_lt (Nat.lt_of_lt_of_le (Heap.lt_size e) I.ok.above)
 have neC:∀ b o,X.s₀.heap.get? b=some o->b∉X.ex->b∉ch:=fun b o e hx hb=>by
  rcases (hch b hb).1 with z | z
  ·exact hx z
  ·exact absurd (Nat.lt_of_lt_of_le (Heap.lt_size e) z) (Nat.lt_irrefl _)
 have cellK:∀ x c,X.env.cells.lookup x=some c->∀ v,s.heap.IsCell c v->h'.IsCell c v:=fun x c e v ⟨o,ho,hd⟩=>by
  have nch:c∉ch:=fun z=>(hch c z).2.2.1 x c e rfl
  by_cases hc:c∈X.fs
  ·obtain ⟨sl,q⟩:=slot c o (I.cne x c e) hc nch ho (I.freeC x c e)
   exact ⟨_,q,hd⟩
  ·exact ⟨o,keep c o (I.cne x c e) hc nch ho (I.freeC x c e),hd⟩
 refine ⟨I.ok,I.os,hg,⟨fun b o e n hb hx=>?_,fun b o e n hb hx=>?_,fun b o e n hx=>?_,fun b o e hx=>?_,fun b xs e=>tups b xs (I.base.tups b xs e),fun b o xs e=>frzs b o xs (I.base.frzs b o xs e),fun b ps e=>?_⟩,?_,fun x c e=>?_,?_,fun x c e=>?_,fun p hp=>?_,hok,I.len⟩
 ·exact keep b o (neL b o e) hb (neC b o e hx) (I.base.keep b o e n hb hx) (I.base.free b o e n hx)
 ·obtain ⟨sl,e1⟩:=I.base.slot b o e n hb hx
  obtain ⟨sl',e2⟩:=slot b _ (neL b o e) hb (neC b o e hx) e1 (I.base.free b o e n hx)
  exact ⟨sl',e2⟩
 ·obtain ⟨o',e1⟩:=I.base.there b o e hx
  exact free b o' (neC b o e hx) e1 (I.base.free b o e n hx)
 ·obtain ⟨o',e1⟩:=I.base.there b o e hx
  exact there b o' (neC b o e hx) e1
 ·obtain ⟨m1,e1⟩:=I.base.tbls b ps e
  obtain ⟨m2,e2⟩:=tbls b _ e1
  exact ⟨m1++m2,by rw [e2,Array.append_assoc]⟩
 ·obtain ⟨m,hn,hl⟩:=I.loc
  refine ⟨m,ns m hn,fun i x v e1 e2 e3=>?_⟩
  obtain ⟨u,r,l⟩:=hl i x v e1 e2 e3
  refine ⟨u,r,?_⟩
  rcases l with l | ⟨k,c,e,z⟩
  ·exact .inl l
  ·exact .inr ⟨k,c,e,cellK x c e _ z⟩
 ·obtain ⟨v,z⟩:=I.cell x c e
  exact ⟨v,cellK x c e v z⟩
 ·obtain ⟨m,⟨o,_,_,ho,_⟩,_⟩:=I.loc
  exact free _ o (fun z=>(hch _ z).2.1 rfl) ho I.free
 ·obtain ⟨v,o,ho,hd⟩:=I.cell x c e
  exact free c o (fun z=>(hch c z).2.2.1 x c e rfl) ho (I.freeC x c e)
 ·obtain ⟨e,n,ne,nf,d⟩:=I.pin p hp
  have nch:p.1∉ch:=fun z=>(hch p.1 z).2.2.2 p hp rfl
  exact ⟨keep p.1 p.2 ne nf nch e n,free p.1 p.2 nch e n,ne,nf,d⟩
theorem Inv.un {t':Nat} (I:Inv X pins σ H s) (u:Un X.fs [] H H' s.heap h') (hok:HOk X.prog X.w H' h'):Inv X pins σ H' { s with heap:=h',toks:=t' }:=by
 obtain ⟨m,⟨o,es,ep,ho,r⟩,_⟩:=id I.loc
 obtain ⟨sl,hL⟩:=u.any ho I.free (by simp)
 exact I.step (g':=s.gens) (d':=s.drawn) (ch:=[]) (fun _ z=>nomatch z) (fun b o _ hb _ e n=>u.keep b o e n hb (by simp)) (fun b o _ hb _ e n=>u.slot b o e n hb (by simp)) (fun b o _ e n=>u.free b o e n (by simp)) (fun b o _ e=>u.there b o e (by simp)) u.tups u.frzs u.tbls (fun m' hm=>by
  obtain ⟨o',es',ep',ho',r'⟩:=hm
  rw [ho] at ho';cases ho'
  exact ⟨_,es',ep',hL,r'⟩) hok I.bare
theorem Inv.call {g':Array GenState} {t':Nat} {d':Drawn} {ch:List Addr} (I:Inv X pins σ H s) (u:Un (frs X.stack) ch H H' s.heap h') (hok:HOk X.prog X.w H' h') (hg:AllBare g')
  (hch:∀ b∈ch,(b∈X.ex∨X.s₀.heap.objs.size<=b)/\b≠X.env.locals/\(∀ x c,X.env.cells.lookup x=some c->c≠b)/\∀ p∈X.pn++pins,p.1≠b):
  Inv X pins σ H' { s with heap:=h',gens:=g',drawn:=d',toks:=t' }:=by
 obtain ⟨m,⟨o,es,ep,ho,r⟩,_⟩:=id I.loc
 obtain ⟨sl,hL⟩:=u.any ho I.free fun z=>(hch _ z).2.1 rfl
 exact I.step (ch:=ch) hch (fun b o hL hb hc e n=>u.keep b o e n (fun z=>(List.mem_cons.mp (I.stkSub b z)).elim hL hb) hc) (fun b o _ _ hc e n=>u.any e n hc) (fun b o hc e n=>u.free b o e n hc) (fun b o hc e=>u.there b o e hc) u.tups u.frzs u.tbls (fun m' hm=>by
  obtain ⟨o',es',ep',ho',r'⟩:=hm
  rw [ho] at ho';cases ho'
  exact ⟨_,es',ep',hL,r'⟩) hok hg
theorem Inv.turned {t':Nat} {it:Addr} (I:Inv X pins σ H s) (k:∀ b o,b≠it->s.heap.get? b=some o->h'.get? b=some o) (hn:H it=none) (hL:it≠X.env.locals)
  (h1:it∈X.ex∨X.s₀.heap.objs.size<=it) (h2:∀ x c,X.env.cells.lookup x=some c->c≠it) (h3:∀ p∈X.pn++pins,p.1≠it):Inv X pins σ H { s with heap:=h',toks:=t' }:=by
 have nit:∀ b u,H b=some u->b≠it:=fun b u e z=>by rw [z,hn] at e;cases e
 refine I.step (g':=s.gens) (d':=s.drawn) (ch:=[it]) (fun b hb=>?_) (fun b o _ _ hc e _=>k b o (fun z=>hc (by simp [z])) e) (fun b o _ _ hc e _=>⟨o.slots,k b o (fun z=>hc (by simp [z])) e⟩) (fun _ _ _ _ n=>n)
  (fun b o hc e=>⟨o,k b o (fun z=>hc (by simp [z])) e⟩) (fun _ _ e=>e) (fun _ _ _ e=>e) (fun b ps e=>⟨#[],by rw [e];simp⟩) (fun m hm=>?_) (fun b u e=>?_) I.bare
 ·have e:b=it:=by simpa using hb
  subst e
  exact ⟨h1,hL,h2,h3⟩
 ·obtain ⟨o,es,ep,ho,r⟩:=hm
  exact ⟨o,es,ep,k _ o (Ne.symm hL) ho,r⟩
 ·refine (I.hok b u e).stay (fun c v hc q=>k c v ?_ q) (fun _ q=>q) fun _ _ q=>q
  rcases hc with z | z
  ·rw [z];exact nit b u e
  ·exact nit c _ z
theorem Inv.tok (I:Inv X pins σ H s) (t:Nat):Inv X pins σ H { s with toks:=t }:=I.un (h':=s.heap) (t':=t) Un.refl I.hok
theorem Inv.kept {t':Nat} (I:Inv X pins σ H s) (k:∀ b u,s.heap.get? b=some u->h'.get? b=some u):Inv X pins σ H { s with heap:=h',toks:=t' }:=I.un (Un.kept k) (I.hok.kept k)
theorem Inv.laid {a:Addr} {o:HO} {t':Nat} (I:Inv X pins σ H s) (k:∀ b u,s.heap.get? b=some u->h'.get? b=some u) (hp:s.heap.objs.size<=a) (new:iS X.prog X.w (upd H a o) h' a o):
  Inv X pins σ (upd H a o) { s with heap:=h',toks:=t' }:=I.un (Un.laid k hp (I.hok.fresh hp)) (I.hok.laid k hp new)
theorem Inv.write {x e:Addr} {o:HO} {t':Nat} (I:Inv X pins σ H s) (mu:Mut (H x)) (he:e=x∨H e=some (.own x)) (k:∀ b u,b≠e->s.heap.get? b=some u->h'.get? b=some u) (heo:∃ u,h'.get? e=some u)
  (new:iS X.prog X.w (upd H x o) h' x o):Inv X pins σ (upd H x o) { s with heap:=h',toks:=t' }:=I.un (Un.write mu he k heo) (I.hok.write mu he k heo new)
theorem Inv.pins_of {pins':List (Addr×Obj)} (I:Inv X pins σ H s) (h:∀ p∈pins',s.heap.get? p.1=some p.2/\H p.1=none/\p.1≠X.env.locals/\p.1∉X.fs/\∀ v,p.2.data≠.cell v):Inv X pins' σ H s:=
 ⟨I.ok,I.os,I.bare,I.base,I.loc,I.cell,I.free,I.freeC,fun p hp=>(List.mem_append.mp hp).elim (fun z=>I.pin p (List.mem_append_left _ z)) (h p),I.hok,I.len⟩
theorem zJ {N:List Str} (hN:N.Nodup) {i j:Nat} {x:Str} (a:N[i]?=some x) (b:N[j]?=some x):i=j:=by
 obtain ⟨h1,e1⟩:=List.getElem?_eq_some_iff.mp a
 obtain ⟨h2,e2⟩:=List.getElem?_eq_some_iff.mp b
 exact (List.getElem_inj hN).mp (e1.trans e2.symm)
theorem wN {M:Model} {A:Around} {E:Value->Shared->Prop} {i:Nat} {x:Str} {v:V} {u:Value} {Q:Unit->Shared->Prop} (I:Inv X pins σ H s) (hN:X.N.Nodup) (hi:X.N[i]?=some x) (hx:Loc X.env.scope x) (r:bW v u)
  (h:∀ s',Inv X pins (σ.set i (some v)) H s'->(∃ a,Heap.SameBut a s.heap s'.heap/\(a=X.env.locals∨X.env.cells.lookup x=some a))->Q () s') (hf:X.fn x=true∨X.env.scope.names.lookup x=some .local:=by first | exact .inl rfl | exact .inr rfl | assumption):wpAny M A (storeName X.env x u) Q E s:=by
 obtain ⟨m,hn,hl⟩:=id I.loc
 have hcls:(X.env.scope.kind==.class || (X.env.scope.kind==.module && X.env.locals != X.env.globals))=false:=by rw [I.ok.kind];rfl
 have hiσ:i < σ.length:=by rw [I.len];exact (List.getElem?_eq_some_iff.mp hi).1
 have cne:=I.cne
 have tracked:∀ {a:Addr} {h':Heap},(∃ o,s.heap.get? a=some o/\H a=none)->Heap.SameBut a s.heap h'->HOk X.prog X.w H h':=fun {a h'} ha hs b ob e=>by
  obtain ⟨_,_,hfree⟩:=ha
  refine (I.hok b ob e).stay (fun c w' hc q=>(hs.2 c ?_).trans q) (fun _ q=>q) fun _ _ q=>q
  rintro rfl
  rcases hc with rfl | hc
  ·rw [hfree] at e;cases e
  ·rw [hfree] at hc;cases hc
 rcases hx with hk | hk
 ·refine wpAny_storeName_local hk hn (fun h' hn' hs=>?_) hcls
  obtain ⟨oL,_,_,hoL,_⟩:=id hn
  refine h _ ⟨I.ok,I.os,I.bare,⟨fun b o e n hb hx=>?_,fun b o e n hb hx=>?_,I.base.free,fun b o e hx=>?_,I.base.tups,I.base.frzs,I.base.tbls⟩,⟨_,hn',fun j y v' e1 e2 e3=>?_⟩,fun y c e=>?_,I.free,I.freeC,fun p hp=>?_,tracked ⟨oL,hoL,I.free⟩ hs,by simpa using I.len⟩ ⟨_,hs,.inl rfl⟩
  ·exact (hs.2 b (Nat.ne_of_lt (Nat.lt_of_lt_of_le (Heap.lt_size e) I.ok.above))).trans (I.base.keep b o e n hb hx)
  ·obtain ⟨sl,e1⟩:=I.base.slot b o e n hb hx
   exact ⟨sl,(hs.2 b (Nat.ne_of_lt (Nat.lt_of_lt_of_le (Heap.lt_size e) I.ok.above))).trans e1⟩
  ·obtain ⟨o',e1⟩:=I.base.there b o e hx
   exact ⟨o',(hs.2 b (Nat.ne_of_lt (Nat.lt_of_lt_of_le (Heap.lt_size e) I.ok.above))).trans e1⟩
  ·by_cases hj:j=i
   ·subst hj
    rw [hi] at e1;cases e1
    rw [List.getElem?_set_self hiσ] at e2
    cases e2
    exact ⟨u,r,.inl ⟨hk,by simp⟩⟩
   ·rw [List.getElem?_set_ne (Ne.symm hj)] at e2
    obtain ⟨u',r',q⟩:=hl j y v' e1 e2 e3
    refine ⟨u',r',?_⟩
    rcases q with ⟨k,e⟩ | ⟨k,c,e,z⟩
    ·refine .inl ⟨k,?_⟩
     have:y≠x:=fun e=>hj (zJ hN e1 (e ▸ hi))
     simp [this,e]
    ·exact .inr ⟨k,c,e,z.sameBut hs (cne y c e)⟩
  ·obtain ⟨w',z⟩:=I.cell y c e
   exact ⟨w',z.sameBut hs (cne y c e)⟩
  ·obtain ⟨e,n,ne,nf,d⟩:=I.pin p hp
   exact ⟨(hs.2 p.1 ne).trans e,n,ne,nf,d⟩
 ·have hfn:X.fn x=true:=by
   rcases hf with z | z
   ·exact z
   ·rw [z] at hk;cases hk
  obtain ⟨c,hc⟩:=I.ok.has x (.inl hk)
  obtain ⟨w',z⟩:=I.cell x c hc
  refine wpAny_storeName_cell I.ok.kind hk hc z (fun h' hc' hs=>?_)
  obtain ⟨oc,hoc,hocd⟩:=id z
  refine h { s with heap:=h' } ⟨I.ok,I.os,I.bare,⟨fun b o e n hb hx=>?_,fun b o e n hb hx=>?_,I.base.free,fun b o e hx=>?_,I.base.tups,I.base.frzs,I.base.tbls⟩,⟨m,hn.sameBut hs (Ne.symm (cne x c hc)),fun j y v' e1 e2 e3=>?_⟩,fun y c' e=>?_,I.free,I.freeC,fun p hp=>?_,tracked ⟨oc,hoc,I.freeC x c hc⟩ hs,by simpa using I.len⟩ ⟨c,hs,.inr hc⟩
  ·exact (hs.2 b (Nat.ne_of_lt (Nat.lt_of_lt_of_le (Heap.lt_size e) (I.ok.cab x c hfn hc)))).trans (I.base.keep b o e n hb hx)
  ·obtain ⟨sl,e1⟩:=I.base.slot b o e n hb hx
   exact ⟨sl,(hs.2 b (Nat.ne_of_lt (Nat.lt_of_lt_of_le (Heap.lt_size e) (I.ok.cab x c hfn hc)))).trans e1⟩
  ·obtain ⟨o',e1⟩:=I.base.there b o e hx
   exact ⟨o',(hs.2 b (Nat.ne_of_lt (Nat.lt_of_lt_of_le (Heap.lt_size e) (I.ok.cab x c hfn hc)))).trans e1⟩
  ·by_cases hj:j=i
   ·subst hj
    rw [hi] at e1;cases e1
    rw [List.getElem?_set_self hiσ] at e2
    cases e2
    exact ⟨u,r,.inr ⟨.inl hk,c,hc,hc'⟩⟩
   ·rw [List.getElem?_set_ne (Ne.symm hj)] at e2
    obtain ⟨u',r',q⟩:=hl j y v' e1 e2 e3
    refine ⟨u',r',?_⟩
    rcases q with q | ⟨k,c',e,z'⟩
    ·exact .inl q
    ·refine .inr ⟨k,c',e,z'.sameBut hs ?_⟩
     rintro rfl
     exact hj (zJ hN e1 (I.ok.inj _ _ _ e hc ▸ hi))
  ·by_cases hcc:c'=c
   ·subst hcc;exact ⟨_,hc'⟩
   ·obtain ⟨w2,z2⟩:=I.cell y c' e
    exact ⟨w2,z2.sameBut hs hcc⟩
  ·obtain ⟨e,n,ne,nf,d⟩:=I.pin p hp
   refine ⟨(hs.2 p.1 ?_).trans e,n,ne,nf,d⟩
   intro q
   rw [q,hoc] at e
   have q':oc=p.2:=Option.some.inj e
   exact d w' (by rw [<-q'];exact hocd)
theorem oA {M:Model} {A:Around} {E:Value->Shared->Prop} {i:Nat} {x:Str} {v:V} {u:Value} {Q:Unit->Shared->Prop} (I:Inv X pins σ H s) (hN:X.N.Nodup) (hi:X.N[i]?=some x) (hx:Loc X.env.scope x) (r:bW v u)
  (h:∀ s',Inv X pins (σ.set i (some v)) H s'->Q () s') (hf:X.fn x=true∨X.env.scope.names.lookup x=some .local:=by first | exact .inl rfl | exact .inr rfl | assumption):wpAny M A (storeName X.env x u) Q E s:=
 wN I hN hi hx r (fun s' I' _=>h s' I') hf
theorem Inv.call' {s':Shared} {ch:List Addr} (I:Inv X pins σ H s) (ho:s'.os=s.os) (u:Un (frs X.stack) ch H H' s.heap s'.heap) (hok:HOk X.prog X.w H' s'.heap) (hg:AllBare s'.gens)
  (hch:∀ b∈ch,(b∈X.ex∨X.s₀.heap.objs.size<=b)/\b≠X.env.locals/\(∀ x c,X.env.cells.lookup x=some c->c≠b)/\∀ p∈X.pn++pins,p.1≠b):Inv X pins σ H' s':=by
 obtain ⟨h',g',d',t',o'⟩:=s'
 have e:o'=s.os:=ho
 subst e
 exact I.call (g':=g') (t':=t') (d':=d') u hok hg hch
end
abbrev XK:=Value->Option Addr->Hp->Prop
abbrev St:=List (Option V)
abbrev VK:=V->Hp->Prop
abbrev TE:=St->Hp->VK->Prop
abbrev TT:=St->Hp->(Bool->Hp->Prop)->Prop
abbrev TA:=St->Hp->(List V->Hp->Prop)->Prop
structure Ends where
 nx:St->Hp->Prop
 rt:VK
 bk:St->Hp->Prop:=fun _ _=>False
 ct:St->Hp->Prop:=fun _ _=>False
abbrev TS:=Ends->St->Hp->Prop
def EP (X:Cx) (pins:List (Addr×Obj)) (σ:St) (Q:VK) (u:Value) (s':Shared):Prop:=∃ v H',Inv X pins σ H' s'/\bW v u/\Q v H'
def TP (X:Cx) (pins:List (Addr×Obj)) (σ:St) (Q:Bool->Hp->Prop) (b:Bool) (s':Shared):Prop:=∃ H',Inv X pins σ H' s'/\Q b H'
def AP (X:Cx) (pins:List (Addr×Obj)) (σ:St) (Q:List V->Hp->Prop) (us:List Value) (s':Shared):Prop:=∃ vs H',Inv X pins σ H' s'/\cM vs us/\Q vs H'
def SP (X:Cx) (pins:List (Addr×Obj)) (D:Ends) (f:Flow) (s':Shared):Prop:=
 match f with
 | .next=>∃ σ' H',Inv X pins σ' H' s'/\D.nx σ' H'
 | .brk=>∃ σ' H',Inv X pins σ' H' s'/\D.bk σ' H'
 | .cont=>∃ σ' H',Inv X pins σ' H' s'/\D.ct σ' H'
 | .ret u=>∃ v σ' H',Inv X pins σ' H' s'/\bW v u/\D.rt v H'
def PE (X:Cx) (e:Expr) (t:TE):Prop:=
 ∀ (pins:List (Addr×Obj)) (s:Shared) (σ:St) (H:Hp) (Q:VK),Inv X pins σ H s->t σ H Q->wpAny (model X.prog X.w) X.A (eval e X.env) (EP X pins σ Q) X.xe s
def PT (X:Cx) (e:Expr) (t:TT):Prop:=
 ∀ (pins:List (Addr×Obj)) (s:Shared) (σ:St) (H:Hp) (Q:Bool->Hp->Prop),Inv X pins σ H s->t σ H Q->wpAny (model X.prog X.w) X.A (isTrue e X.env (eval e X.env)) (TP X pins σ Q) X.xe s
def PW (X:Cx) (e:Expr) (t:TT):Prop:=
 ∀ (whole:Sem Value) (pins:List (Addr×Obj)) (s:Shared) (σ:St) (H:Hp) (Q:Bool->Hp->Prop),Inv X pins σ H s->t σ H Q->wpAny (model X.prog X.w) X.A (isTrue e X.env whole) (TP X pins σ Q) X.xe s
theorem PW.pt {X:Cx} {e:Expr} {t:TT} (h:PW X e t):PT X e t:=h _
def PA (X:Cx) (es:List Expr) (t:TA):Prop:=
 ∀ (pos:Pos) (pins:List (Addr×Obj)) (s:Shared) (σ:St) (H:Hp) (Q:List V->Hp->Prop),Inv X pins σ H s->t σ H Q->wpAny (model X.prog X.w) X.A (spliced (backTo pos (starEach es X.env))) (AP X pins σ Q) X.xe s
def PS (X:Cx) (st:Stmt) (t:TS):Prop:=
 ∀ (pins:List (Addr×Obj)) (s:Shared) (σ:St) (H:Hp) (D:Ends),Inv X pins σ H s->t D σ H->wpAny (model X.prog X.w) X.A (exec st X.env) (SP X pins D) X.xe s
def PSs (X:Cx) (st:List Stmt) (t:TS):Prop:=
 ∀ (pins:List (Addr×Obj)) (s:Shared) (σ:St) (H:Hp) (D:Ends),Inv X pins σ H s->t D σ H->wpAny (model X.prog X.w) X.A (execs st X.env) (SP X pins D) X.xe s
theorem thn {α:Type} {t:Sem α} {Q Q':α->Shared->Prop} {M:Model} {A:Around} {E:Value->Shared->Prop} {s:Shared} (h:wpAny M A t Q E s) (hQ:∀ a s,Q a s->Q' a s):wpAny M A t Q' E s:=wpAny_mono h hQ fun _ _ x=>x
end L2
namespace L2
open PySem PySem.Spec PyProof.Rows
section
variable {X:Cx}
theorem bin {a b:Expr} {ta tb:TE} (ha:PE X a ta) (hb:PE X b tb) {pins:List (Addr×Obj)} {s:Shared} {σ:St} {H:Hp} {R:V->V->Hp->Prop} (I:Inv X pins σ H s) (h:ta σ H fun x H1=>tb σ H1 fun y H2=>R x y H2)
  {α:Type} {Q:α->Shared->Prop} {f:Value->Value->Sem α}
  (hf:∀ v u s2 x y H2,Inv X pins σ H2 s2->bW x v->bW y u->R x y H2->wpAny (model X.prog X.w) X.A (f v u) Q X.xe s2):
  wpAny (model X.prog X.w) X.A (eval a X.env) (fun v s₁=>wpAny (model X.prog X.w) X.A (eval b X.env) (fun u s₂=>wpAny (model X.prog X.w) X.A (f v u) Q X.xe s₂) X.xe s₁) X.xe s:=by
 refine thn (ha pins s σ H _ I h) fun v s1 ⟨x,H1,I1,r1,q1⟩=>?_
 refine thn (hb pins s1 σ H1 _ I1 q1) fun u s2 ⟨y,H2,I2,r2,q2⟩=>?_
 exact hf v u s2 x y H2 I2 r1 r2 q2
abbrev zAb (i:Nat):TE:=fun σ H Q=>∃ v,σ[i]?=some (some v)/\Q v H
abbrev tC (v:V):TE:=fun _ H Q=>Q v H
theorem pJ {i:Nat} {x:Str} {pos:Pos} (hN:X.N[i]?=some x) (hv:Vis X.env.scope x) (hd:(x==("__debug__" : Str))=false:=by decide) (hcd:(x==("__classdict__" : Str))=false:=by decide):PE X (.Name x pos) (zAb i):=by
 intro pins s σ H Q I h
 obtain ⟨v,e,h⟩:=h
 obtain ⟨m,hn,hl⟩:=I.loc
 obtain ⟨u,r,l⟩:=hl i x v hN e hv
 have fin:EP X pins σ Q u s:=⟨v,H,I,r,h⟩
 rcases l with ⟨hk,hm⟩ | ⟨hk,c,hc,hcell⟩
 ·exact wpAny_Name (wpAny_loadName_local I.ok.kind hk hn hm fin) hd
 ·rcases hk with hk | hk
  ·exact wpAny_Name (wpAny_loadName_cell I.ok.kind hk hc hcell fin) hd
  ·exact wpAny_Name (wpAny_loadName_free I.ok.kind hk hc hcell fin hcd) hd
theorem zDQ {i j pos}:PE X (.Constant (.int i) j pos) (tC (.int i)):=fun _ _ _ H _ I h=>wpAny_Constant_int ⟨.int i,H,I.tok _,⟨_,rfl⟩,h⟩
theorem zAL {b j pos}:PE X (.Constant (.bool b) j pos) (tC (.bl b)):=fun _ _ _ H _ I h=>Constant_bool ⟨.bl b,H,I,rfl,h⟩
theorem iC {x j pos}:PE X (.Constant (.str x) j pos) (tC (.str x)):=fun _ _ _ H _ I h=>Calls.Constant_str ⟨.str x,H,I.tok _,⟨_,rfl⟩,h⟩
def Gl (X:Cx) (x:Str):Prop:=X.env.kindOf x=some .globalImplicit
theorem yL {E:Value->Shared->Prop} {pins:List (Addr×Obj)} {s:Shared} {σ:St} {H:Hp} {x:Str} {u:Value} {pos:Pos} {Q:Value->Shared->Prop} (I:Inv X pins σ H s) (hg:Gl X x) (hm:X.mg x=some u) (h:Q u s)
  (hd:(x==("__debug__" : Str))=false:=by decide):wpAny (model X.prog X.w) X.A (eval (.Name x pos) X.env) Q E s:=
 Calls.Name_function_global I.ok.kind hg (Calls.loadGlobal_global (by rw [I.ok.glob];exact I.mod.glob.keeps I.bk) hm h) hd
theorem jT {E:Value->Shared->Prop} {pins:List (Addr×Obj)} {s:Shared} {σ:St} {H:Hp} {x:Str} {u:Value} {pos:Pos} {Q:Value->Shared->Prop} (I:Inv X pins σ H s) (hg:Gl X x) (hm:X.mg x=none) (hv:bootBuiltins x=some u) (h:Q u s)
  (hn:x ≠ "__name__" := by decide) (hd:(x==("__debug__" : Str))=false:=by decide):wpAny (model X.prog X.w) X.A (eval (.Name x pos) X.env) Q E s:=by
 obtain ⟨mb,h1,h2⟩:=I.mod.blt
 exact Calls.Name_function_global I.ok.kind hg (Calls.loadGlobal_builtin (by rw [I.ok.glob];exact I.mod.glob.keeps I.bk) hm (by rw [I.ok.blt];exact h1.keeps I.bk) ((h2 x hn).trans hv) h) hd
theorem zCV {x:Str} {v:V} {u:Value} {pos:Pos} (hg:Gl X x) (hm:X.mg x=some u) (r:bW v u) (hd:(x==("__debug__" : Str))=false:=by decide):PE X (.Name x pos) (tC v):=
 fun _ _ _ H _ I h=>yL I hg hm ⟨v,H,I,r,h⟩ hd
theorem xG {x:Str} {v:V} {u:Value} {pos:Pos} (hg:Gl X x) (hm:X.mg x=none) (hv:bootBuiltins x=some u) (r:bW v u) (hn:x ≠ "__name__" := by decide) (hd:(x==("__debug__" : Str))=false:=by decide):PE X (.Name x pos) (tC v):=
 fun _ _ _ H _ I h=>jT I hg hm hv ⟨v,H,I,r,h⟩ hn hd
variable {a b:Expr} {ta tb:TE} {pos:Pos}
def PC (X:Cx) (op:CmpOp) (a b:Expr) (t:TE):Prop:=
 ∀ (pins:List (Addr×Obj)) (s:Shared) (σ:St) (H:Hp) (Q:VK),Inv X pins σ H s->t σ H Q->
  wpAny (model X.prog X.w) X.A (eval a X.env) (fun v s₁=>wpAny (model X.prog X.w) X.A (eval b X.env) (fun u s₂=>wpAny (model X.prog X.w) X.A (compareOp op v u) (EP X pins σ Q) X.xe s₂) X.xe s₁) X.xe s
theorem zEb (b:Expr) {op:CmpOp} (h:op≠.In) (h2:op≠.NotIn):behindInMarks op b=false:=by
 have e1:(op==CmpOp.In)=false:=by cases op<;>first | rfl | exact absurd rfl h
 have e2:(op==CmpOp.NotIn)=false:=by cases op<;>first | rfl | exact absurd rfl h2
 cases b<;>simp [behindInMarks,e1,e2]
abbrev tB (t:TE):TT:=fun σ H Q=>t σ H fun x H1=>∃ c,x=.bl c/\Q c H1
theorem zLR {op:CmpOp} {t:TE} (h:PC X op a b t) (h1:behindInMarks op b=false:=by first | exact zEb _ (by decide) (by decide) | rfl):PT X (.Compare a [op] [b] pos) (tB t):=by
 intro pins s σ H Q I hw
 refine wpAny_isTrue_Compare1 (thn (h pins s σ H _ I hw) fun v s1 h1=>thn h1 fun u s2 h2=>thn h2 fun c s3 ⟨x,H1,I1,r1,q1⟩=>?_) h1
 obtain ⟨d,rfl,q⟩:=q1
 cases r1
 exact wpAny_truthy_bool ⟨H1,I1,q⟩
theorem zIJ {e:Expr} {t:TE} (h:PE X e t) (he:∀ whole,isTrue e X.env whole=(do let v <-whole;standAt e.pos;holding [v] (truthy v)):=by intro _;rfl):PT X e (tB t):=by
 intro pins s σ H Q I hw
 refine isTrue_plain (thn (h pins s σ H _ I hw) fun v s1 ⟨x,H1,I1,r1,q1⟩=>?_) (he _)
 obtain ⟨d,rfl,q⟩:=q1
 cases r1
 exact wpAny_truthy_bool ⟨H1,I1,q⟩
variable {tA tB':TT} {rest:List Expr}
abbrev zMm (t u:TT):TT:=fun σ H Q=>t σ H fun c H1=>if c=true then u σ H1 Q else Q false H1
abbrev tOr (t u:TT):TT:=fun σ H Q=>t σ H fun c H1=>if c=true then Q true H1 else u σ H1 Q
abbrev zMN (t:TT):TT:=fun σ H Q=>t σ H fun c H1=>Q (!c) H1
theorem zHn (ha:PT X a tA):PW X (.BoolOp .And [a] pos) tA:=by
 intro wh pins s σ H Q I h
 refine isTrue_and (thn (ha pins s σ H Q I h) fun c s1 e=>?_)
 cases c with
 | true=>exact isTrue_and_nil e
 | false=>exact e
theorem zIA (ha:PT X a tA):PW X (.BoolOp .Or [a] pos) tA:=by
 intro wh pins s σ H Q I h
 refine isTrue_or (thn (ha pins s σ H Q I h) fun c s1 e=>?_)
 cases c with
 | false=>exact isTrue_or_nil e
 | true=>exact e
theorem zIP (ha:PT X a tA) (hb:PW X (.BoolOp .And (b::rest) pos) tB'):PW X (.BoolOp .And (a::b::rest) pos) (zMm tA tB'):=by
 intro wh pins s σ H Q I h
 refine isTrue_and (thn (ha pins s σ H _ I h) fun c s1 ⟨H1,I1,q1⟩=>?_)
 cases c with
 | true=>exact hb wh pins s1 σ H1 Q I1 q1
 | false=>exact ⟨H1,I1,q1⟩
theorem zKS (ha:PT X a tA) (hb:PW X (.BoolOp .Or (b::rest) pos) tB'):PW X (.BoolOp .Or (a::b::rest) pos) (tOr tA tB'):=by
 intro wh pins s σ H Q I h
 refine isTrue_or (thn (ha pins s σ H _ I h) fun c s1 ⟨H1,I1,q1⟩=>?_)
 cases c with
 | true=>exact ⟨H1,I1,q1⟩
 | false=>exact hb wh pins s1 σ H1 Q I1 q1
theorem zJK (ha:PT X a tA):PT X (.UnaryOp .Not a pos) (zMN tA):=by
 intro pins s σ H Q I h
 exact isTrue_not (ha pins s σ H (fun c H1=>Q (!c) H1) I h)
abbrev zLJ (ta tb:TE):TE:=fun σ H Q=>ta σ H fun x H1=>∃ c,x=.bl c/\if c=true then tb σ H1 Q else Q (.bl false) H1
abbrev zMB (ta tb:TE):TE:=fun σ H Q=>ta σ H fun x H1=>∃ c,x=.bl c/\if c=true then Q (.bl true) H1 else tb σ H1 Q
theorem zJg {op} {t:TE} (h:PE X a t):PE X (.BoolOp op [a] pos) t:=fun pins s σ H Q I hw=>BoolOp_one (h pins s σ H Q I hw)
theorem zKt (ha:PE X a ta) (hb:PE X (.BoolOp .And (b::rest) pos) tb):PE X (.BoolOp .And (a::b::rest) pos) (zLJ ta tb):=by
 intro pins s σ H Q I h
 refine BoolOp_and (thn (ha pins s σ H _ I h) fun v s1 ⟨x,H1,I1,r1,q1⟩=>?_)
 obtain ⟨c,rfl,q1⟩:=q1
 cases r1
 refine wpAny_truthy_bool ?_
 cases c with
 | true=>exact hb pins s1 σ H1 Q I1 q1
 | false=>exact ⟨.bl false,H1,I1,rfl,q1⟩
theorem zLG (ha:PE X a ta) (hb:PE X (.BoolOp .Or (b::rest) pos) tb):PE X (.BoolOp .Or (a::b::rest) pos) (zMB ta tb):=by
 intro pins s σ H Q I h
 refine BoolOp_or (thn (ha pins s σ H _ I h) fun v s1 ⟨x,H1,I1,r1,q1⟩=>?_)
 obtain ⟨c,rfl,q1⟩:=q1
 cases r1
 refine wpAny_truthy_bool ?_
 cases c with
 | false=>exact hb pins s1 σ H1 Q I1 q1
 | true=>exact ⟨.bl true,H1,I1,rfl,q1⟩
abbrev tIf (t:TT) (ta tb:TE):TE:=fun σ H Q=>t σ H fun c H1=>if c=true then ta σ H1 Q else tb σ H1 Q
theorem zEt {c:Expr} (hc:PT X c tA) (ha:PE X a ta) (hb:PE X b tb):PE X (.IfExp c a b pos) (tIf tA ta tb):=by
 intro pins s σ H Q I h
 refine wpAny_IfExp (thn (hc pins s σ H _ I h) fun d s1 ⟨H1,I1,q1⟩=>?_)
 cases d with
 | true=>exact ha pins s1 σ H1 Q I1 q1
 | false=>exact hb pins s1 σ H1 Q I1 q1
end
end L2
namespace L2
open PySem PySem.Spec PyProof.Rows
def SqL (K:PySem.W.Frag) (H:Hp) (a:Addr) (xs:List V):Prop:=
 Rd H a (.lst xs)∨
  ∃ (o:Obj) (its:Array Value) (n:Nat),K.lookup a=some o/\o.cls=.type "list" /\ o.dict=none/\o.data=.seq its n/\its.size<=sizeLine/\cM xs its.toList
def SqT (K:PySem.W.Frag) (H:Hp) (a:Addr) (xs:List V):Prop:=
 Rd H a (.tup xs)∨
  ∃ (o:Obj) (its:Array Value) (n:Nat),K.lookup a=some o/\o.cls=.type "tuple" /\ o.data=.seq its n/\its.size<=sizeLine/\cM xs its.toList
def zMT:Value->Option V
 | .none=>some .non
 | .bool b=>some (.bl b)
 | .int i _=>some (.int i)
 | .str x _=>some (.str x)
 | .bytes b _=>some (.byt b)
 | .float b _=>some (.flt b)
 | .ref a=>some (.ref a)
 | .type n=>some (.ty n)
 | _=>none
theorem bW.abs {x:V} {u:Value} (r:bW x u):zMT u=some x:=by
 cases x with
 | non=>cases r;rfl
 | bl _=>cases r;rfl
 | int _=>obtain ⟨t,rfl⟩:=r;rfl
 | str _=>obtain ⟨t,rfl⟩:=r;rfl
 | byt _=>obtain ⟨t,rfl⟩:=r;rfl
 | flt _=>obtain ⟨t,rfl⟩:=r;rfl
 | ref _=>cases r;rfl
 | ty _=>cases r;rfl
theorem bW.inj {x y:V} {u:Value} (r:bW x u) (q:bW y u):x=y:=Option.some.inj (r.abs.symm.trans q.abs)
theorem cM.inj:∀ {xs ys:List V} {us:List Value},cM xs us->cM ys us->xs=ys
 | _,_,_,.nil,.nil=>rfl
 | _,_,_,.cons r t,.cons r' t'=>by rw [r.inj r',cM.inj t t']
section
variable {X:Cx} {pins:List (Addr×Obj)} {σ:St} {H:Hp} {s:Shared} {a:Addr} {xs ys:List V}
theorem SqL.of {K:PySem.W.Frag} (h:H a=some (.lst xs)):SqL K H a xs:=.inl (.inl h)
theorem SqT.of {K:PySem.W.Frag} (h:H a=some (.tup xs)):SqT K H a xs:=.inl (.inl h)
theorem Inv.list (I:Inv X pins σ H s) (h:SqL X.K H a xs):∃ its:List Value,cM xs its/\PlainL s.heap a its.toArray/\xs.length<=sizeLine:=by
 rcases h with h | ⟨o,its,n,hk,hc,hd,hs,hz,r⟩
 ·obtain ⟨z,its,n,r,e⟩:=h.ok I.hok
  exact ⟨its,r,⟨_,n,e,rfl,rfl,rfl⟩,z⟩
 ·refine ⟨its.toList,r,⟨o,n,I.kIn a o hk,hc,hd,by simpa using hs⟩,?_⟩
  have e:=r.length
  simp only [Array.length_toList] at e
  omega
theorem Inv.tuple (I:Inv X pins σ H s) (h:SqT X.K H a xs):∃ its:List Value,cM xs its/\IsTup s.heap a its.toArray/\xs.length<=sizeLine:=by
 rcases h with h | ⟨o,its,n,hk,hc,hs,hz,r⟩
 ·obtain ⟨z,its,r,p⟩:=h.ok I.hok
  exact ⟨its,r,p,z⟩
 ·refine ⟨its.toList,r,⟨o,I.kIn a o hk,hc,n,by simpa using hs⟩,?_⟩
  have e:=r.length
  simp only [Array.length_toList] at e
  omega
theorem Inv.list_inj (I:Inv X pins σ H s) (h:SqL X.K H a xs) (h':SqL X.K H a ys):xs=ys:=by
 obtain ⟨its,r,⟨o,n,e,_,_,d⟩,_⟩:=I.list h
 obtain ⟨its',r',⟨o',n',e',_,_,d'⟩,_⟩:=I.list h'
 rw [e] at e';cases e'
 rw [d] at d'
 injection d' with d1 _
 have:its=its':=by simpa using congrArg Array.toList d1
 subst this
 exact r.inj r'
theorem Inv.tuple_inj (I:Inv X pins σ H s) (h:SqT X.K H a xs) (h':SqT X.K H a ys):xs=ys:=by
 obtain ⟨its,r,⟨o,e,_,n,d⟩,_⟩:=I.tuple h
 obtain ⟨its',r',⟨o',e',_,n',d'⟩,_⟩:=I.tuple h'
 rw [e] at e';cases e'
 rw [d] at d'
 injection d' with d1 _
 have:its=its':=by simpa using congrArg Array.toList d1
 subst this
 exact r.inj r'
end
section
variable {X:Cx} {pins:List (Addr×Obj)} {σ:St} {H:Hp} {s:Shared} {E:Value->Shared->Prop}
end
section
variable {X:Cx} {st:Stmt} {rest:List Stmt} {t u:TS} {e:Expr} {te:TE} {pos:Pos}
abbrev zLu:TS:=fun D σ H=>D.nx σ H
abbrev zLk (t u:TS):TS:=fun D σ H=>t { D with nx:=u D } σ H
theorem zHf:PSs X [] zLu:=fun _ _ σ H _ I h=>wpAny_execs_nil ⟨σ,H,I,h⟩
theorem oE (h1:PS X st t) (h2:PSs X rest u):PSs X (st::rest) (zLk t u):=by
 intro pins s σ H D I h
 refine wpAny_execs_cons (thn (h1 pins s σ H { D with nx:=u D } I h) fun f s1 q=>?_)
 cases f with
 | next=>
  obtain ⟨σ',H',I',q⟩:=q
  exact h2 pins s1 σ' H' D I' q
 | ret v=>exact q
 | brk=>exact q
 | cont=>exact q
theorem xD (h1:PS X st t):PSs X [st] t:=by
 intro pins s σ H D I h
 refine wpAny_execs_cons (thn (h1 pins s σ H D I h) fun f s1 q=>?_)
 cases f with
 | next=>exact wpAny_execs_nil q
 | ret v=>exact q
 | brk=>exact q
 | cont=>exact q
theorem Inv.quiet {pins:List (Addr×Obj)} {σ:St} {H:Hp} {s:Shared} (I:Inv X pins σ H s):interactive X.env=false:=by simp [interactive,I.ok.kind]
abbrev zLI (te:TE):TS:=fun D σ H=>te σ H fun _ H1=>D.nx σ H1
theorem wV (he:PE X e te) (hs:swapsWith e none pos.line X.env=pure false:=by rfl):PS X (.Expr e pos) (zLI te):=by
 intro pins s σ H D I h
 exact wpAny_Expr_any (thn (he pins s σ H _ I h) fun v s1 ⟨x,H1,I1,r1,q1⟩=>⟨σ,H1,I1,q1⟩) I.quiet hs
abbrev zLU (te:TE):TS:=fun D σ H=>te σ H D.rt
theorem zAi (he:PE X e te):PS X (.Return (some e) pos) (zLU te):=by
 intro pins s σ H D I h
 exact wpAny_Return_some (thn (he pins s σ H _ I h) fun v s1 ⟨x,H1,I1,r1,q1⟩=>⟨x,σ,H1,I1,r1,q1⟩)
abbrev zMS (c:TT) (t u:TS):TS:=fun D σ H=>c σ H fun b H1=>if b=true then t D σ H1 else u D σ H1
theorem zLw {c:Expr} {a b:List Stmt} {tc:TT} (hc:PT X c tc) (ha:PSs X a t) (hb:PSs X b u):PS X (.If c a b pos) (zMS tc t u):=by
 intro pins s σ H D I h
 refine wpAny_If (thn (hc pins s σ H _ I h) fun d s1 ⟨H1,I1,q1⟩=>?_)
 cases d with
 | true=>exact ha pins s1 σ H1 D I1 q1
 | false=>exact hb pins s1 σ H1 D I1 q1
end
abbrev TG:=V->St->Hp->(St->Hp->Prop)->Prop
abbrev TGs:=List V->St->Hp->(St->Hp->Prop)->Prop
def PG (X:Cx) (target:Expr) (t:TG):Prop:=
 ∀ (pins:List (Addr×Obj)) (s:Shared) (σ:St) (H:Hp) (v:V) (u:Value) (Q:St->Hp->Prop),Inv X pins σ H s->bW v u->t v σ H Q->
  wpAny (model X.prog X.w) X.A (assign target X.env u) (fun _ s'=>∃ σ' H',Inv X pins σ' H' s'/\Q σ' H') X.xe s
def PGs (X:Cx) (ts:List Expr) (t:TGs):Prop:=
 ∀ (pins:List (Addr×Obj)) (s:Shared) (σ:St) (H:Hp) (vs:List V) (us:List Value) (Q:St->Hp->Prop),Inv X pins σ H s->cM vs us->t vs σ H Q->
  wpAny (model X.prog X.w) X.A (assignInOrder ((assignEach ts X.env).map (·.2)) us) (fun _ s'=>∃ σ' H',Inv X pins σ' H' s'/\Q σ' H') X.xe s
abbrev zKe:=V->V->V->Hp->(Hp->Prop)->Prop
def zLz (X:Cx) (t:zKe):Prop:=
 ∀ (pins:List (Addr×Obj)) (s:Shared) (σ:St) (H:Hp) (o i v:V) (ov iv u:Value) (Q:Hp->Prop),Inv X pins σ H s->bW o ov->bW i iv->bW v u->t o i v H Q->
  wpAny (model X.prog X.w) X.A (setItem ov iv u) (fun _ s'=>∃ H',Inv X pins σ H' s'/\Q H') X.xe s
abbrev TIp:=V->V->Hp->VK->Prop
def PIp (X:Cx) (op:Operator) (t:TIp):Prop:=
 ∀ (pins:List (Addr×Obj)) (s:Shared) (σ:St) (H:Hp) (x y:V) (v u:Value) (Q:VK),Inv X pins σ H s->bW x v->bW y u->t x y H Q->
  wpAny (model X.prog X.w) X.A (inplaceOp op v u) (EP X pins σ Q) X.xe s
section
variable {X:Cx} {pos:Pos}
abbrev gName (i:Nat):TG:=fun v σ H Q=>Q (σ.set i (some v)) H
theorem xU {i:Nat} {x:Str} (hN:X.N.Nodup) (hi:X.N[i]?=some x) (hx:Loc X.env.scope x) (hf:X.fn x=true∨X.env.scope.names.lookup x=some .local:=by first | exact .inl rfl | exact .inr rfl | assumption):PG X (.Name x pos) (gName i):=by
 intro pins s σ H v u Q I r h
 exact wpAny_assign_Name (oA I hN hi hx r (fun s' I'=>⟨_,H,I',h⟩) hf)
def zBK:TGs:=fun vs σ H Q=>vs=[]/\Q σ H
def iZ (t:TG) (u:TGs):TGs:=fun vs σ H Q=>∃ v r,vs=v::r/\t v σ H fun σ' H'=>u r σ' H' Q
theorem zCr:PGs X [] zBK:=by
 intro pins s σ H vs us Q I r h
 obtain ⟨e,h⟩:=h
 subst e
 cases r
 exact assignInOrder_nil ⟨σ,H,I,h⟩
theorem rO {e:Expr} {es:List Expr} {t:TG} {u:TGs} (h1:PG X e t) (h2:PGs X es u)
  (hs:(assignEach (e::es) X.env).map (·.2)=assign e X.env::(assignEach es X.env).map (·.2):=by rfl):PGs X (e::es) (iZ t u):=by
 intro pins s σ H vs us Q I r h
 obtain ⟨v,vr,e1,h⟩:=h
 subst e1
 cases r with
 | cons r rr=>
  rw [hs]
  refine assignInOrder_cons (thn (h1 pins s σ H _ _ _ I r h) fun _ s1 ⟨σ1,H1,I1,q1⟩=>?_)
  exact h2 pins s1 σ1 H1 _ _ Q I1 rr q1
def zBE (K:PySem.W.Frag) (n:Nat) (t:TGs):TG:=fun v σ H Q=>∃ a xs,v=.ref a/\SqT K H a xs/\xs.length=n/\t xs σ H Q
theorem zGd {es:List Expr} {k:Nat} {t:TGs} {n:Nat} (hc:X.calm=true) (h:PGs X es t)
  (hn:(assignEach es X.env).length=n:=by rfl) (hst:(assignEach es X.env).findIdx? (·.1)=none:=by rfl):PG X (.Tuple es k pos) (zBE X.K n t):=by
 intro pins s σ H v u Q I r hw
 obtain ⟨a,xs,e1,hq,hl,hw⟩:=hw
 subst e1
 cases r
 obtain ⟨its,rv,ht,hz⟩:=I.tuple hq
 refine assign_Tuple_tuple (I.ok.hd hc) ht (by simp [hn,<-hl,rv.length]) hst fun h' hx=>?_
 have I1:Inv X pins σ H { s with heap:=h' }:=I.kept (t':=s.toks) fun b o e=>hx b o (Nat.ne_of_lt (Heap.lt_size e)) e
 exact h pins _ σ H xs _ Q I1 (by simpa using rv) hw
def zMD (to ti:TE) (t:zKe):TG:=fun v σ H Q=>to σ H fun o H1=>ti σ H1 fun i H2=>t o i v H2 fun H3=>Q σ H3
theorem zJH {o i:Expr} {to ti:TE} {t:zKe} (ho:PE X o to) (hi:PE X i ti) (hs:zLz X t)
  (ha:∀ v,assign (.Subscript o i pos) X.env v=(do
   let ov <-holding [v] (eval o X.env)
   let iv <-holding [v,ov] (eval i X.env)
   standAt pos
   holding [v,ov,iv] (setItem ov iv v)
   release [v,ov,iv] []):=by intro _;rfl):PG X (.Subscript o i pos) (zMD to ti t):=by
 intro pins s σ H v u Q I r h
 rw [ha]
 refine wpAny_bind (wpAny_holding (thn (ho pins s σ H _ I h) fun ov s1 ⟨x,H1,I1,r1,q1⟩=>?_))
 refine wpAny_bind (wpAny_holding (thn (hi pins s1 σ H1 _ I1 q1) fun iv s2 ⟨y,H2,I2,r2,q2⟩=>?_))
 refine wpAny_bind (wpAny_standAt (wpAny_bind (wpAny_holding (thn (hs pins s2 σ H2 x y v ov iv u _ I2 r1 r2 r q2) fun _ s3 ⟨H3,I3,q3⟩=>?_))))
 exact wpAny_release ⟨σ,H3,I3,q3⟩
abbrev zLh (te:TE) (g:TG):TS:=fun D σ H=>te σ H fun x H1=>g x σ H1 D.nx
theorem zKh {tg e:Expr} {te:TE} {g:TG} (he:PE X e te) (hg:PG X tg g) (hs:swapsWithSole [tg] e pos.line X.env=pure false:=by rfl) (hw:swappedStores [tg] e X.env=pure none:=by rfl)
  (h1:(assignEach [tg] X.env).map (·.2)=[assign tg X.env]:=by rfl):PS X (.Assign [tg] e pos) (zLh te g):=by
 intro pins s σ H D I h
 refine wpAny_Assign_stores (thn (he pins s σ H _ I h) fun v s1 ⟨x,H1,I1,r1,q1⟩=>?_) hs hw
 rw [h1]
 exact thn (hg pins s1 σ H1 x v _ I1 r1 q1) fun _ s2 q=>q
theorem zFB {i:Nat} {x:Str} {e:Expr} {te:TE} {pos':Pos} (hN:X.N.Nodup) (hi:X.N[i]?=some x) (hx:Loc X.env.scope x) (he:PE X e te) (hs:swapsWith e (some (.Name x pos')) pos.line X.env=pure false:=by rfl) (hf:X.fn x=true∨X.env.scope.names.lookup x=some .local:=by first | exact .inl rfl | exact .inr rfl | assumption):
  PS X (.Assign [.Name x pos'] e pos) (zLh te (gName i)):=by
 intro pins s σ H D I h
 refine wpAny_Assign_Name (thn (he pins s σ H _ I h) fun v s1 ⟨y,H1,I1,r1,q1⟩=>?_) hs
 exact oA I1 hN hi hx r1 (fun s2 I2=>⟨_,H1,I2,q1⟩) hf
abbrev zMO (i:Nat) (te:TE) (ti:TIp):TS:=fun D σ H=>∃ x,σ[i]?=some (some x)/\te σ H fun y H1=>ti x y H1 fun z H2=>D.nx (σ.set i (some z)) H2
theorem zIX {i:Nat} {x:Str} {e:Expr} {te:TE} {op:Operator} {ti:TIp} {pos':Pos} (hN:X.N.Nodup) (hi:X.N[i]?=some x) (hx:Loc X.env.scope x) (he:PE X e te) (ho:PIp X op ti) (hf:X.fn x=true∨X.env.scope.names.lookup x=some .local:=by first | exact .inl rfl | exact .inr rfl | assumption):
  PS X (.AugAssign (.Name x pos') op e pos) (zMO i te ti):=by
 intro pins s σ H D I h
 obtain ⟨v,e1,h⟩:=h
 obtain ⟨m,hn,hl⟩:=I.loc
 have vis:Vis X.env.scope x:=by rcases hx with k | k;exact .inl k;exact .inr (.inl k)
 obtain ⟨u,r,l⟩:=hl i x v hi e1 vis
 refine wpAny_AugAssign_Name ?_
 have go:wpAny (model X.prog X.w) X.A (eval e X.env) (fun w s₂=>wpAny (model X.prog X.w) X.A (inplaceOp op u w) (fun r s₃=>wpAny (model X.prog X.w) X.A (storeName X.env x r) (fun _=>SP X pins D .next) X.xe s₃) X.xe s₂) X.xe s:=by
  refine thn (he pins s σ H _ I h) fun w s1 ⟨y,H1,I1,r1,q1⟩=>?_
  refine thn (ho pins s1 σ H1 v y u w _ I1 r r1 q1) fun z s2 ⟨zv,H2,I2,r2,q2⟩=>?_
  exact oA I2 hN hi hx r2 (fun s3 I3=>⟨_,H2,I3,q2⟩) hf
 rcases l with ⟨hk,hm⟩ | ⟨hk,c,hc,hcell⟩
 ·exact wpAny_loadName_local I.ok.kind hk hn hm go
 ·rcases hk with hk | hk
  ·exact wpAny_loadName_cell I.ok.kind hk hc hcell go
  ·rcases hx with k | k
   ·have:X.env.scope.names.lookup x=some .free:=hk
    rw [k] at this;cases this
   ·have:X.env.scope.names.lookup x=some .free:=hk
    rw [k] at this;cases this
def zLB (to ti te:TE) (tget:V->V->Hp->VK->Prop) (tip:TIp) (tset:zKe):TS:=fun D σ H=>to σ H fun o H1=>ti σ H1 fun i H2=>tget o i H2 fun x H3=>te σ H3 fun y H4=>tip x y H4 fun z H5=>tset o i z H5 fun H6=>D.nx σ H6
def zMc (X:Cx) (t:V->V->Hp->VK->Prop):Prop:=
 ∀ (pins:List (Addr×Obj)) (s:Shared) (σ:St) (H:Hp) (o i:V) (ov iv:Value) (Q:VK),Inv X pins σ H s->bW o ov->bW i iv->t o i H Q->
  wpAny (model X.prog X.w) X.A (getItem ov iv) (EP X pins σ Q) X.xe s
theorem zHM {o i e:Expr} {to ti te:TE} {tget:V->V->Hp->VK->Prop} {tip:TIp} {tset:zKe} {op:Operator} {tpos:Pos} (ho:PE X o to) (hi:PE X i ti) (hg:zMc X tget) (he:PE X e te) (hp:PIp X op tip) (hs:zLz X tset)
  (ha:∀ ov iv new,augStore i ov iv new=(do holding [new,ov,iv] (setItem ov iv new);release [new,ov,iv] [];pure .next):=by intros;rfl):PS X (.AugAssign (.Subscript o i tpos) op e pos) (zLB to ti te tget tip tset):=by
 intro pins s σ H D I h
 refine wpAny_AugAssign_SubscriptAny (thn (ho pins s σ H _ I h) fun ov s1 ⟨x1,H1,I1,r1,q1⟩=>?_) ha
 refine thn (hi pins s1 σ H1 _ I1 q1) fun iv s2 ⟨x2,H2,I2,r2,q2⟩=>?_
 refine thn (hg pins s2 σ H2 x1 x2 ov iv _ I2 r1 r2 q2) fun old s3 ⟨x3,H3,I3,r3,q3⟩=>?_
 refine thn (he pins s3 σ H3 _ I3 q3) fun v s4 ⟨x4,H4,I4,r4,q4⟩=>?_
 refine thn (hp pins s4 σ H4 x3 x4 old v _ I4 r3 r4 q4) fun new s5 ⟨x5,H5,I5,r5,q5⟩=>?_
 exact thn (hs pins s5 σ H5 x1 x2 x5 ov iv new _ I5 r1 r2 r5 q5) fun _ s6 ⟨H6,I6,q6⟩=>⟨σ,H6,I6,q6⟩
def ipI (f:Int->Int->Int):TIp:=fun x y H Q=>∃ i j,x=.int i/\y=.int j/\Q (.int (f i j)) H
theorem zJD:PIp X .Add (ipI fun i j=>i+j):=by
 intro pins s σ H x y v u Q I r1 r2 h
 obtain ⟨i,j,e1,e2,q⟩:=h
 subst e1;subst e2
 obtain ⟨t,rfl⟩:=r1
 obtain ⟨t',rfl⟩:=r2
 exact iadd_int ⟨.int _,H,I.tok _,⟨_,rfl⟩,q⟩
theorem zIN:PIp X .Sub (ipI fun i j=>i - j):=by
 intro pins s σ H x y v u Q I r1 r2 h
 obtain ⟨i,j,e1,e2,q⟩:=h
 subst e1;subst e2
 obtain ⟨t,rfl⟩:=r1
 obtain ⟨t',rfl⟩:=r2
 exact isub_int ⟨.int _,H,I.tok _,⟨_,rfl⟩,q⟩
end
section
variable {X:Cx} {pos:Pos}
def zIU (c:TT) (tb:TS):TS:=fun D σ H=>∃ W:Nat->St->Hp->Prop,(∃ m,W m σ H)/\∀ m σ H,W m σ H->
 c σ H fun b H1=>if b=true then ∃ N:St->Hp->Prop,(∀ σ' H',N σ' H'->∃ m',m' < m/\W m' σ' H')/\tb { D with nx:=N,ct:=N,bk:=D.nx } σ H1 else D.nx σ H1
theorem zEh {c:Expr} {body:List Stmt} {tc:TT} {tb:TS} (hp:PassesOwn (model X.prog X.w) X.A X.env X.xe) (hc:PT X c tc) (hb:PSs X body tb):PS X (.While c body [] pos) (zIU tc tb):=by
 intro pins s σ H D I h
 obtain ⟨W,⟨m0,w0⟩,turn⟩:=h
 refine wpAny_While (codeAny_whileLoop (fun n s'=>∃ σ' H',Inv X pins σ' H' s'/\W n σ' H') ?_ m0 ⟨σ,H,I,w0⟩)
 rintro n s1 ⟨σ1,H1,I1,w1⟩
 refine wpAny_passesOwn hp (thn (hc pins s1 σ1 H1 _ I1 (turn n σ1 H1 w1)) fun b s2 ⟨H2,I2,q2⟩=>?_)
 cases b with
 | true=>
  obtain ⟨N,hN,q2⟩:=q2
  rw [if_pos rfl]
  refine wpAny_passesOwn hp (thn (hb pins s2 σ1 H2 _ I2 q2) fun f s3 q3=>?_)
  cases f with
  | next=>
   obtain ⟨σ3,H3,I3,n3⟩:=q3
   obtain ⟨m',hm,w3⟩:=hN σ3 H3 n3
   exact ⟨m',hm,σ3,H3,I3,w3⟩
  | cont=>
   obtain ⟨σ3,H3,I3,n3⟩:=q3
   obtain ⟨m',hm,w3⟩:=hN σ3 H3 n3
   exact ⟨m',hm,σ3,H3,I3,w3⟩
  | brk=>exact q3
  | ret v=>exact q3
 | false=>
  rw [if_neg Bool.false_ne_true]
  exact wpAny_execs_nil ⟨σ1,H2,I2,q2⟩
end
structure It where
 go:Nat->Hp->Prop
 yld:Nat->Hp->V->Hp->Prop
 stop:Nat->Hp->Prop
def nM (X:Cx) (pins:List (Addr×Obj)) (H:Hp) (b:Addr):Prop:=
 H b=none/\b≠X.env.locals/\b∉X.fs/\(b∈X.ex∨X.s₀.heap.objs.size<=b)/\(∀ x c,X.env.cells.lookup x=some c->c≠b)/\∀ p∈X.pn++pins,p.1≠b
theorem Inv.fpOk {X:Cx} {pins:List (Addr×Obj)} {σ:St} {H H':Hp} {s:Shared} {b:Addr} (I:Inv X pins σ H s) (hb:s.heap.objs.size<=b) (hn:H' b=none):nM X pins H' b:=by
 refine ⟨hn,Nat.ne_of_gt (Nat.lt_of_lt_of_le I.lt hb),I.nofs hb,.inr (Nat.le_trans I.sz hb),fun x c e z=>?_,fun p hp z=>?_⟩
 ·obtain ⟨v,q⟩:=I.cell x c e
  exact absurd (Nat.lt_of_lt_of_le q.lt (by rw [z];exact hb)) (Nat.lt_irrefl _)
 ·exact absurd (Nat.lt_of_lt_of_le (Heap.lt_size (I.pin p hp).1) (by rw [z];exact hb)) (Nat.lt_irrefl _)
structure Turn (P:Program) (w:World) (K:PySem.W.Frag) (tg:Expr) (J:It) (fp:List Addr) (it:Addr) (tn:Nat->Heap->Prop):Prop where
 mem:it∈fp
 obj:∀ i h,tn i h->∀ b∈fp,∃ o,h.get? b=some o/\∀ v,o.data≠.cell v
 keep:∀ i h h',tn i h->(∀ b∈fp,∀ o,h.get? b=some o->h'.get? b=some o)->tn i h'
 item:∀ (X:Cx),X.prog=P->X.w=w->X.K=K->X.calm=true->∀ (i:Nat) (pins:List (Addr×Obj)) (s:Shared) (σ:St) (H:Hp) (E:Value->Shared->Prop),Inv X pins σ H s->(∀ b∈fp,nM X pins H b)->tn i s.heap->J.go i H->
  wpAny (model P w) X.A (pyNext (.ref it)) (fun r s1=>∃ u,r=some u/\
   wpAny (model P w) X.A (letOwnedTupleGo tg (.ref it) u) (fun _ s2=>∃ x H',Inv X pins σ H' s2/\bW x u/\J.yld i H x H'/\tn (i+1) s2.heap/\∀ b∈fp,H' b=none) E s1) E s
 done:∀ (X:Cx),X.prog=P->X.w=w->X.K=K->X.calm=true->∀ (i:Nat) (pins:List (Addr×Obj)) (s:Shared) (σ:St) (H:Hp) (E:Value->Shared->Prop),Inv X pins σ H s->(∀ b∈fp,nM X pins H b)->tn i s.heap->J.stop i H->
  wpAny (model P w) X.A (pyNext (.ref it)) (fun r s1=>r=none/\Inv X pins σ H s1) E s
 self:∀ (A:Around) (i:Nat) (s:Shared) (Q:Value->Shared->Prop) (E:Value->Shared->Prop),tn i s.heap->Q (.ref it) s->wpAny (model P w) A (pyIter (.ref it)) Q E s
abbrev TI:=St->Hp->(It->Hp->Prop)->Prop
def PIE (X:Cx) (pins:List (Addr×Obj)) (σ:St) (tg:Expr) (R:It->Hp->Prop) (itv:Value) (s2:Shared):Prop:=
 ∃ (it:Addr) (fp:List Addr) (tn:Nat->Heap->Prop) (J:It) (H':Hp),itv=.ref it/\Inv X pins σ H' s2/\Turn X.prog X.w X.K tg J fp it tn/\tn 0 s2.heap/\(∀ b∈fp,nM X pins H' b)/\R J H'
def PI (X:Cx) (tg iter:Expr) (wi:TI):Prop:=
 ∀ (pins:List (Addr×Obj)) (s:Shared) (σ:St) (H:Hp) (R:It->Hp->Prop),Inv X pins σ H s->wi σ H R->
  wpAny (model X.prog X.w) X.A (eval iter X.env) (fun v s1=>wpAny (model X.prog X.w) X.A (pyIter v) (PIE X pins σ tg R) X.xe s1) X.xe s
theorem zGA {M:Model} {A:Around} {E:Value->Shared->Prop} {s:Shared} {tg:Expr} {it:Addr} {u:Value} {o:Obj} {n:String} {vs:Array Value} {Q:Unit->Shared->Prop} (ho:s.heap.get? it=some o) (hc:o.cls=.type n) (hd:o.data=.fields vs)
    (hn:["enumerate", "zip", "dict_itemiterator", "dict_reverseitemiterator", "odict_iterator", "itertools.zip_longest", "itertools.pairwise"].contains n=false) (hQ:Q () s):wpAny M A (letOwnedTupleGo tg (.ref it) u) Q E s:=by
  unfold letOwnedTupleGo
  cases tg<;>first
    | exact wpAny_pure hQ
    | (cases u<;>first
        | exact wpAny_pure hQ
        | (refine wpAny_bind (wpAny_load ho ?_)
           rw [hc,hd]
           show wpAny M A (if (["enumerate", "zip", "dict_itemiterator", "dict_reverseitemiterator", "odict_iterator", "itertools.zip_longest", "itertools.pairwise"].contains n && vs[0]?==some (rawInt _))=true then _ else _) Q E s
           rw [if_neg (by intro h;rw [hn,Bool.false_and] at h;cases h)]
           exact wpAny_pure hQ))
def Itl (K:PySem.W.Frag) (a:Addr):It:=
 ⟨fun i H=>∃ xs x,SqL K H a xs/\xs[i]?=some x,fun i H x H'=>H'=H/\∀ xs,SqL K H a xs->xs[i]?=some x,fun i H=>∃ xs,SqL K H a xs/\xs.length<=i⟩
def Itt (K:PySem.W.Frag) (a:Addr):It:=
 ⟨fun i H=>∃ xs x,SqT K H a xs/\xs[i]?=some x,fun i H x H'=>H'=H/\∀ xs,SqT K H a xs->xs[i]?=some x,fun i H=>∃ xs,SqT K H a xs/\xs.length<=i⟩
def Itr (lo:Int) (n:Nat):It:=⟨fun i _=>i < n,fun i H x H'=>H'=H/\x=.int (lo+i),fun i _=>n<=i⟩
theorem tW {P:Program} {w:World} {K:PySem.W.Frag} {tg:Expr} (a it:Addr):Turn P w K tg (Itl K a) [it] it (fun i h=>h.IsListIter it a i) where
 mem:=by simp
 obj:=fun i h st b hb=>by
  have e:b=it:=by simpa using hb
  subst e
  obtain ⟨o,e,c,d⟩:=st
  exact ⟨o,e,fun v z=>by rw [d] at z;cases z⟩
 keep:=fun i h h' st k=>st.at fun o e=>k it (by simp) o e
 item:=by
  intro X hP hw hK hc i pins s σ H E I hf st hg
  subst hP hw hK
  obtain ⟨xs,x,hq,hx⟩:=hg
  obtain ⟨its,rv,p,hz⟩:=I.list hq
  obtain ⟨u,hu,ru⟩:=rv.get hx
  obtain ⟨f0,f1,f2,f3,f4,f5⟩:=hf it (by simp)
  refine wpAny_pyNext_list_item st p.isList (x:=u) (by simpa using hu) fun h' st' sb=>?_
  have I1:Inv X pins σ H { s with heap:=h' }:=I.turned (t':=s.toks) (fun b o hb e=>(sb.2 b hb).trans e) f0 f1 f3 f4 f5
  obtain ⟨o,e,c,d⟩:=id st'
  exact ⟨u,rfl,zGA (s:={ s with heap:=h' }) e c d (by decide) ⟨x,H,I1,ru,⟨rfl,fun ys hy=>by rw [I.list_inj hy hq];exact hx⟩,st',fun b hb=>(hf b hb).1⟩⟩
 done:=by
  intro X hP hw hK hc i pins s σ H E I hf st hg
  subst hP hw hK
  obtain ⟨xs,hq,hx⟩:=hg
  obtain ⟨its,rv,p,hz⟩:=I.list hq
  obtain ⟨f0,f1,f2,f3,f4,f5⟩:=hf it (by simp)
  have hl:=rv.length
  exact wpAny_pyNext_list_end (I.ok.hd hc) st p.isList (by simp;omega) fun h' eb=>⟨rfl,I.turned (t':=s.toks) (fun b o hb e=>eb b o hb e) f0 f1 f3 f4 f5⟩
 self:=fun _ _ _ _ _ st h=>wpAny_pyIter_listiter st h
theorem zAO {P:Program} {w:World} {K:PySem.W.Frag} {tg:Expr} (a it:Addr):Turn P w K tg (Itt K a) [it] it (fun i h=>h.IsTupleIter it a i) where
 mem:=by simp
 obj:=fun i h st b hb=>by
  have e:b=it:=by simpa using hb
  subst e
  obtain ⟨o,e,c,d⟩:=st
  exact ⟨o,e,fun v z=>by rw [d] at z;cases z⟩
 keep:=fun i h h' st k=>st.at fun o e=>k it (by simp) o e
 item:=by
  intro X hP hw hK hc i pins s σ H E I hf st hg
  subst hP hw hK
  obtain ⟨xs,x,hq,hx⟩:=hg
  obtain ⟨its,rv,p,hz⟩:=I.tuple hq
  obtain ⟨u,hu,ru⟩:=rv.get hx
  obtain ⟨f0,f1,f2,f3,f4,f5⟩:=hf it (by simp)
  refine wpAny_pyNext_tuple_item st (show s.heap.IsTuple a its.toArray from p) (x:=u) (by simpa using hu) fun h' st' sb=>?_
  have I1:Inv X pins σ H { s with heap:=h' }:=I.turned (t':=s.toks) (fun b o hb e=>(sb.2 b hb).trans e) f0 f1 f3 f4 f5
  obtain ⟨o,e,c,d⟩:=id st'
  exact ⟨u,rfl,zGA (s:={ s with heap:=h' }) e c d (by decide) ⟨x,H,I1,ru,⟨rfl,fun ys hy=>by rw [I.tuple_inj hy hq];exact hx⟩,st',fun b hb=>(hf b hb).1⟩⟩
 done:=by
  intro X hP hw hK hc i pins s σ H E I hf st hg
  subst hP hw hK
  obtain ⟨xs,hq,hx⟩:=hg
  obtain ⟨its,rv,p,hz⟩:=I.tuple hq
  obtain ⟨f0,f1,f2,f3,f4,f5⟩:=hf it (by simp)
  have hl:=rv.length
  exact wpAny_pyNext_tuple_end (I.ok.hd hc) st (show s.heap.IsTuple a its.toArray from p) (by simp;omega) fun h' eb=>⟨rfl,I.turned (t':=s.toks) (fun b o hb e=>eb b o hb e) f0 f1 f3 f4 f5⟩
 self:=fun _ _ _ _ _ st h=>wpAny_pyIter_tupleiter st h
theorem zBc {P:Program} {w:World} {K:PySem.W.Frag} {tg:Expr} (it:Addr) (lo:Int) (n:Nat):Turn P w K tg (Itr lo n) [it] it (fun i h=>IsRangeIter h it (lo+(i:Nat) * 1) ((n:Int) - (i:Nat)) 1) where
 mem:=by simp
 obj:=fun i h st b hb=>by
  have e:b=it:=by simpa using hb
  subst e
  exact ⟨_,st,fun v z=>by
   have z':Data.fields _=Data.cell v:=z
   cases z'⟩
 keep:=fun i h h' st k=>k it (by simp) _ st
 item:=by
  intro X hP hw hK hc i pins s σ H E I hf st hg
  subst hP hw hK
  obtain ⟨f0,f1,f2,f3,f4,f5⟩:=hf it (by simp)
  have W:=Walks.range (prog:=X.prog) (w:=X.w) (I.ok.hd hc) it lo 1 n
  refine W.item i s _ _ hg st fun v h' tk hv st' kk=>?_
  obtain ⟨t,rfl⟩:=hv
  have I1:Inv X pins σ H { s with heap:=h',toks:=tk }:=I.turned (fun b o hb e=>kk b o (by simpa using hb) e) f0 f1 f3 f4 f5
  refine ⟨_,rfl,zGA (s:={ s with heap:=h',toks:=tk }) (n := "range_iterator") st' rfl rfl (by decide) ⟨.int (lo+i),H,I1,⟨t,?_⟩,⟨rfl,rfl⟩,st',fun b hb=>(hf b hb).1⟩⟩
  rw [Int.mul_one]
 done:=by
  intro X hP hw hK hc i pins s σ H E I hf st hg
  subst hP hw hK
  obtain ⟨f0,f1,f2,f3,f4,f5⟩:=hf it (by simp)
  exact wpAny_pyNext_range_end (I.ok.hd hc) st (by have:n<=i:=hg;omega) fun h' eb=>⟨rfl,I.turned (t':=s.toks) (fun b o hb e=>eb b o hb e) f0 f1 f3 f4 f5⟩
 self:=fun _ _ _ _ _ st h=>wpAny_pyIter_rangeiter st h
end L2
namespace L2
open PySem PySem.Spec PyProof.Rows
section
variable {X:Cx} {tg:Expr}
abbrev zLm (K:PySem.W.Frag) (tl:TE):TI:=fun σ H R=>tl σ H fun x H1=>∃ a,x=.ref a/\(∃ xs,SqL K H1 a xs)/\R (Itl K a) H1
theorem zGB {l:Expr} {tl:TE} (hl:PE X l tl):PI X tg l (zLm X.K tl):=by
 intro pins s σ H R I h
 refine thn (hl pins s σ H _ I h) fun v s1 ⟨x,H1,I1,r1,q1⟩=>?_
 obtain ⟨a,e,⟨xs,hq⟩,q⟩:=q1
 subst e
 cases r1
 obtain ⟨its,rv,p,hz⟩:=I1.list hq
 refine wpAny_pyIter_list p.isList ?_
 refine ⟨s1.heap.objs.size,[s1.heap.objs.size],_,_,H1,rfl,I1.kept (t':=s1.toks) fun b o e=>Heap.get?_push_of_some _ e,tW a _,⟨_,Heap.get?_push_size _ rfl,rfl,rfl⟩,fun b hb=>?_,q⟩
 have e:b=s1.heap.objs.size:=by simpa using hb
 subst e
 exact I1.fpOk (Nat.le_refl _) (I1.hok.fresh (Nat.le_refl _))
theorem zFd {pins:List (Addr×Obj)} {σ:St} {H:Hp} {s:Shared} {R:It->Hp->Prop} {E:Value->Shared->Prop} {lo hi:Int} {t u v:Tok} {tk:Nat} (I:Inv X pins σ H s) (h1:-(2^62)<=lo) (h2:lo < 2^62) (h3:-(2^62)<=hi) (h4:hi < 2^62)
  (q:R (Itr lo (hi - lo).toNat) H):wpAny (model X.prog X.w) X.A (pyIter (.ref s.heap.objs.size)) (PIE X pins σ tg R) E { s with heap:=s.heap.push { cls:=.type "range", data:=.fields #[.int lo t,.int hi u,.int 1 v] },toks:=tk }:=by
 refine wpAny_pyIter_range (IsRange.new ..) (small_one h1 h2 h3 h4) ?_
 have I1:Inv X pins σ H { s with heap:=s.heap.push { cls:=.type "range", data:=.fields #[.int lo t,.int hi u,.int 1 v] },toks:=tk }:=I.kept fun b o e=>Heap.get?_push_of_some _ e
 refine ⟨(s.heap.push { cls:=.type "range", data:=.fields #[.int lo t,.int hi u,.int 1 v] }).objs.size,[(s.heap.push { cls:=.type "range", data:=.fields #[.int lo t,.int hi u,.int 1 v] }).objs.size],_,_,H,rfl,
  I1.kept (t':=tk) fun b o e=>Heap.get?_push_of_some _ e,zBc _ lo (hi - lo).toNat,?_,fun b hb=>?_,q⟩
 ·have e1:lo+((0:Nat):Int) * 1=lo:=by simp
  have e2:(((hi - lo).toNat:Nat):Int) - ((0:Nat):Int)=Builtin.Range.rangeSize lo hi 1:=by rw [rangeSize_one];split<;>omega
  show IsRangeIter _ _ (lo+((0:Nat):Int) * 1) ((((hi - lo).toNat:Nat):Int) - ((0:Nat):Int)) 1
  rw [e1,e2]
  exact Heap.get?_push_size _ rfl
 ·have e:b=(s.heap.push { cls:=.type "range", data:=.fields #[.int lo t,.int hi u,.int 1 v] }).objs.size:=by simpa using hb
  subst e
  exact I1.fpOk (Nat.le_refl _) (I1.hok.fresh (Nat.le_refl _))
abbrev pO (ta:TA):TI:=fun σ H R=>ta σ H fun vs H1=>∃ j:Int,vs=[.int j]/\-(2^62)<=j/\j < 2^62/\R (Itr 0 j.toNat) H1
theorem zDi {a:Expr} {ta:TA} {p pos:Pos} (hg:Gl X "range") (hm:X.mg "range" = none) (ha:PA X [a] ta) (hs:starEach [a] X.env=[(false,eval a X.env)]:=by rfl):PI X tg (.Call (.Name "range" p) [a] [] pos) (pO ta):=by
 intro pins s σ H R I h
 refine Call_ (jT I hg hm boot_range (PyProof.Rows.callWith_type1 (thn (ha pos pins s σ H _ I h) fun us s1 ⟨vs,H1,I1,r1,q1⟩=>?_) hs rfl))
 obtain ⟨j,e,q1,q2,q⟩:=q1
 subst e
 cases r1 with
 | cons r rr=>
  cases rr
  obtain ⟨t,rfl⟩:=r
  exact call_range_1 (zFd I1 (by omega) (by omega) q1 q2 (by simpa using q))
abbrev zLW (wi:TI) (g:TG) (tb:TS):TS:=fun D σ H=>wi σ H fun J H1=>∃ W:Nat->Nat->St->Hp->Prop,(∃ m,W 0 m σ H1)/\∀ i m σ H,W i m σ H->
 (J.stop i H/\D.nx σ H)∨(J.go i H/\∃ N:St->Hp->Prop,(∀ σ' H',N σ' H'->∃ m',m' < m/\W (i+1) m' σ' H')/\∀ x H',J.yld i H x H'->g x σ H' fun σ2 H2=>tb { D with nx:=N,ct:=N,bk:=D.nx } σ2 H2)
def pI (fp:List Addr) (h:Heap):List (Addr×Obj):=fp.filterMap fun b=>(h.get? b).map fun o=>(b,o)
theorem cW {fp:List Addr} {h:Heap} {b:Addr} {o:Obj} (hb:b∈fp) (e:h.get? b=some o):(b,o)∈pI fp h:=List.mem_filterMap.mpr ⟨b,hb,by rw [e];rfl⟩
theorem zDM {fp:List Addr} {h:Heap} {p:Addr×Obj} (hp:p∈pI fp h):p.1∈fp/\h.get? p.1=some p.2:=by
 obtain ⟨b,hb,e⟩:=List.mem_filterMap.mp hp
 cases q:h.get? b with
 | none=>rw [q] at e;cases e
 | some o=>
  rw [q] at e
  have e':(b,o)=p:=Option.some.inj e
  subst e'
  exact ⟨hb,q⟩
theorem Inv.pinned {pins:List (Addr×Obj)} {σ:St} {H:Hp} {s:Shared} {fp:List Addr} (I:Inv X pins σ H s) (hf:∀ b∈fp,nM X pins H b) (ho:∀ b∈fp,∃ o,s.heap.get? b=some o/\∀ v,o.data≠.cell v):Inv X (pins++pI fp s.heap) σ H s:=
 I.pins_of fun p hp=>(List.mem_append.mp hp).elim (fun z=>I.pin p (List.mem_append_right _ z)) fun z=>by
  obtain ⟨hb,e⟩:=zDM z
  obtain ⟨f0,f1,f2,_⟩:=hf p.1 hb
  obtain ⟨o,e',d⟩:=ho p.1 hb
  rw [e] at e';cases e'
  exact ⟨e,f0,f1,f2,d⟩
theorem Inv.unpinned {pins pl:List (Addr×Obj)} {σ:St} {H:Hp} {s:Shared} (I:Inv X (pins++pl) σ H s):Inv X pins σ H s:=I.pins_of fun p hp=>I.pin p (List.mem_append_right _ (List.mem_append_left _ hp))
theorem zFS {iter:Expr} {body:List Stmt} {wi:TI} {g:TG} {tb:TS} {pos:Pos} (hp:PassesOwn (model X.prog X.w) X.A X.env X.xe) (hc:X.calm=true) (hi:PI X tg iter wi) (hg:PG X tg g) (hb:PSs X body tb)
  (hs:∀ x,foldedSetIterable iter X.env x=pure x:=by intro _;rfl):PS X (.For tg iter body [] pos) (zLW wi g tb):=by
 intro pins s σ H D I h
 refine wpAny_For (thn (hi pins s σ H _ I h) fun v s1 h1=>thn h1 fun itv s2 h2=>?_) hs
 obtain ⟨it,fp,tn,J,H2,e,I2,T,st2,f2,W,⟨m0,w0⟩,turn⟩:=h2
 subst e
 have stat:∀ {H':Hp},(∀ b∈fp,H' b=none)->∀ b∈fp,nM X pins H' b:=fun hn b hb=>⟨hn b hb,(f2 b hb).2⟩
 refine codeAny_forLoop_any (fun n s'=>∃ i σ' H',Inv X pins σ' H' s'/\tn i s'.heap/\(∀ b∈fp,H' b=none)/\W i n σ' H') ?_ m0 ⟨0,σ,H2,I2,st2,fun b hb=>(f2 b hb).1,w0⟩
 rintro n s3 ⟨i,σ3,H3,I3,st3,fr3,w3⟩
 rcases turn i n σ3 H3 w3 with ⟨stop,qn⟩ | ⟨go,N,hN,step⟩
 ·refine wpAny_passesOwn hp (thn (T.done X rfl rfl rfl hc i pins s3 σ3 H3 X.xe I3 (stat fr3) st3 stop) fun r s4 ⟨hr,I4⟩=>?_)
  subst hr
  exact wpAny_execs_nil ⟨σ3,H3,I4,qn⟩
 ·refine wpAny_passesOwn hp (thn (T.item X rfl rfl rfl hc i pins s3 σ3 H3 X.xe I3 (stat fr3) st3 go) fun r s4 ⟨u,hr,h4⟩=>?_)
  subst hr
  refine wpAny_passesOwn hp (thn h4 fun _ s5 ⟨x,H5,I5,r5,y5,st5,fr5⟩=>?_)
  have I5':=I5.pinned (stat fr5) (T.obj _ _ st5)
  refine wpAny_passesOwn hp (thn (hg _ s5 σ3 H5 x u _ I5' r5 (step x H5 y5)) fun _ s6 ⟨σ6,H6,I6,q6⟩=>?_)
  refine wpAny_passesOwn hp (thn (hb _ s6 σ6 H6 _ I6 q6) fun f s7 q7=>?_)
  have again:∀ {σ7:St} {H7:Hp},Inv X (pins++pI fp s5.heap) σ7 H7 s7->N σ7 H7->∃ m,m < n/\∃ i σ' H',Inv X pins σ' H' s7/\tn i s7.heap/\(∀ b∈fp,H' b=none)/\W i m σ' H':=fun {σ7 H7} I7 n7=>by
   obtain ⟨m',hm,w7⟩:=hN σ7 H7 n7
   refine ⟨m',hm,i+1,σ7,H7,I7.unpinned,T.keep _ _ _ st5 fun b hb o e=>(I7.pin (b,o) (List.mem_append_right _ (List.mem_append_right _ (cW hb e)))).1,fun b hb=>?_,w7⟩
   obtain ⟨o,e,d⟩:=T.obj _ _ st5 b hb
   exact (I7.pin (b,o) (List.mem_append_right _ (List.mem_append_right _ (cW hb e)))).2.1
  cases f with
  | next=>obtain ⟨σ7,H7,I7,n7⟩:=q7;exact again I7 n7
  | cont=>obtain ⟨σ7,H7,I7,n7⟩:=q7;exact again I7 n7
  | brk=>obtain ⟨σ7,H7,I7,q7⟩:=q7;exact ⟨σ7,H7,I7.unpinned,q7⟩
  | ret v=>obtain ⟨x7,σ7,H7,I7,r7,q7⟩:=q7;exact ⟨x7,σ7,H7,I7.unpinned,r7,q7⟩
end
end L2
namespace L2
open PySem PySem.Spec PyProof.Rows
abbrev R2:=V->V->Hp->VK->Prop
def OpR (X:Cx) (f:Value->Value->Sem Value) (r:R2):Prop:=
 ∀ (pins:List (Addr×Obj)) (s:Shared) (σ:St) (H:Hp) (x y:V) (v u:Value) (Q:VK),Inv X pins σ H s->bW x v->bW y u->r x y H Q->
  wpAny (model X.prog X.w) X.A (f v u) (EP X pins σ Q) X.xe s
def UnR (X:Cx) (f:Value->Sem Value) (r:V->Hp->VK->Prop):Prop:=
 ∀ (pins:List (Addr×Obj)) (s:Shared) (σ:St) (H:Hp) (x:V) (v:Value) (Q:VK),Inv X pins σ H s->bW x v->r x H Q->
  wpAny (model X.prog X.w) X.A (f v) (EP X pins σ Q) X.xe s
def oF (X:Cx) (f:Value) (r:List V->Hp->VK->Prop):Prop:=
 ∀ (pins:List (Addr×Obj)) (s:Shared) (σ:St) (H:Hp) (xs:List V) (us:List Value) (Q:VK),Inv X pins σ H s->cM xs us->r xs H Q->
  wpAny (model X.prog X.w) X.A (call f us) (EP X pins σ Q) X.xe s
abbrev tOp (r:R2) (ta tb:TE):TE:=fun σ H Q=>ta σ H fun x H1=>tb σ H1 fun y H2=>r x y H2 Q
abbrev tUn (r:V->Hp->VK->Prop) (ta:TE):TE:=fun σ H Q=>ta σ H fun x H1=>r x H1 Q
def rI (C:Int->Int->Prop) (g:Int->Int->V):R2:=fun x y H Q=>∃ i j,x=.int i/\y=.int j/\C i j/\Q (g i j) H
def rI0 (g:Int->Int->V):R2:=fun x y H Q=>∃ i j,x=.int i/\y=.int j/\Q (g i j) H
def rU (g:Int->V):V->Hp->VK->Prop:=fun x H Q=>∃ i,x=.int i/\Q (g i) H
section
variable {X:Cx} {a b c:Expr} {ta tb tc:TE} {pos:Pos}
theorem zLg (ha:PE X a ta) (hb:PE X b tb) {pins:List (Addr×Obj)} {s:Shared} {σ:St} {H:Hp} {R:V->V->Hp->Prop} (I:Inv X pins σ H s)
  (h:ta σ H fun x H1=>tb σ H1 fun y H2=>R x y H2) {Q:Value->Shared->Prop} {f:Value->Value->Sem Value}
  (hf:∀ v u s2 x y H2,Inv X pins σ H2 s2->bW x v->bW y u->R x y H2->wpAny (model X.prog X.w) X.A (f v u) Q X.xe s2):
  wpAny (model X.prog X.w) X.A (eval a X.env) (fun v s₁=>wpAny (model X.prog X.w) X.A (eval b X.env) (fun u s₂=>wpAny (model X.prog X.w) X.A (f v u) Q X.xe s₂) X.xe s₁) X.xe s:=by
 refine thn (ha pins s σ H _ I h) fun v s1 ⟨x,H1,I1,r1,q1⟩=>?_
 refine thn (hb pins s1 σ H1 _ I1 q1) fun u s2 ⟨y,H2,I2,r2,q2⟩=>?_
 exact hf v u s2 x y H2 I2 r1 r2 q2
theorem zBL {op:Operator} {r:R2} (ho:OpR X (binaryOp op) r) (ha:PE X a ta) (hb:PE X b tb):PE X (.BinOp a op b pos) (tOp r ta tb):=by
 intro pins s σ H Q I h
 exact wpAny_BinOp (zLg ha hb I h fun v u s2 x y H2 I2 rx ry q=>ho pins s2 σ H2 x y v u Q I2 rx ry q)
theorem zLo {op:UnaryOp} {r:V->Hp->VK->Prop} (ho:UnR X (unaryOp op) r) (ha:PE X a ta):PE X (.UnaryOp op a pos) (tUn r ta):=by
 intro pins s σ H Q I h
 exact UnaryOp_ (thn (ha pins s σ H _ I h) fun v s1 ⟨x,H1,I1,r1,q1⟩=>ho pins s1 σ H1 x v Q I1 r1 q1)
theorem opI {f:Value->Value->Sem Value} {C:Int->Int->Prop} {g:Int->Int->Int}
  (rule:∀ (i j:Int) (t u:Tok) (s:Shared) (Q:Value->Shared->Prop) (E:Value->Shared->Prop),C i j->Q (.int (g i j) s.toks) { s with toks:=s.toks+1 }->wpAny (model X.prog X.w) X.A (f (.int i t) (.int j u)) Q E s):
  OpR X f (rI C fun i j=>.int (g i j)):=by
 intro pins s σ H x y v u Q I rx ry h
 obtain ⟨i,j,rfl,rfl,hc,q⟩:=h
 obtain ⟨t,rfl⟩:=rx
 obtain ⟨t',rfl⟩:=ry
 exact rule i j t t' s _ _ hc ⟨.int (g i j),H,I.tok _,⟨_,rfl⟩,q⟩
theorem zMg {f:Value->Value->Sem Value} {g:Int->Int->Int}
  (rule:∀ (i j:Int) (t u:Tok) (s:Shared) (Q:Value->Shared->Prop) (E:Value->Shared->Prop),Q (.int (g i j) s.toks) { s with toks:=s.toks+1 }->wpAny (model X.prog X.w) X.A (f (.int i t) (.int j u)) Q E s):
  OpR X f (rI0 fun i j=>.int (g i j)):=by
 intro pins s σ H x y v u Q I rx ry h
 obtain ⟨i,j,rfl,rfl,q⟩:=h
 obtain ⟨t,rfl⟩:=rx
 obtain ⟨t',rfl⟩:=ry
 exact rule i j t t' s _ _ ⟨.int (g i j),H,I.tok _,⟨_,rfl⟩,q⟩
theorem zLP {f:Value->Value->Sem Value} {g:Int->Int->Bool}
  (rule:∀ (i j:Int) (t u:Tok) (s:Shared) (Q:Value->Shared->Prop) (E:Value->Shared->Prop),Q (.bool (g i j)) s->wpAny (model X.prog X.w) X.A (f (.int i t) (.int j u)) Q E s):
  OpR X f (rI0 fun i j=>.bl (g i j)):=by
 intro pins s σ H x y v u Q I rx ry h
 obtain ⟨i,j,rfl,rfl,q⟩:=h
 obtain ⟨t,rfl⟩:=rx
 obtain ⟨t',rfl⟩:=ry
 exact rule i j t t' s _ _ ⟨.bl (g i j),H,I,rfl,q⟩
def zKL (i j:Int):Prop:=(-(2^64) < i/\i < 2^64)∨(-(2^64) < j/\j < 2^64)
theorem zKL.ok {i j:Int} (h:zKL i j):IntMulOk i j:=by
 rcases h with ⟨h1,h2⟩ | ⟨h1,h2⟩
 ·exact .of_left (intBits_le_64 h1 h2)
 ·exact .of_right (intBits_le_64 h1 h2)
theorem zIq:OpR X (binaryOp .Add) (rI0 fun i j=>.int (i+j)):=zMg fun _ _ _ _ _ _ _ q=>add_int q
theorem wD:OpR X (binaryOp .Sub) (rI0 fun i j=>.int (i - j)):=zMg fun _ _ _ _ _ _ _ q=>sub_int q
theorem dG:OpR X (binaryOp .Mod) (rI (fun _ j=>j≠0) fun i j=>.int (i.fmod j)):=opI fun _ _ _ _ _ _ _ hc q=>mod_int' hc q
theorem unI {f:Value->Sem Value} {g:Int->Int}
  (rule:∀ (i:Int) (t:Tok) (s:Shared) (Q:Value->Shared->Prop) (E:Value->Shared->Prop),Q (.int (g i) s.toks) { s with toks:=s.toks+1 }->wpAny (model X.prog X.w) X.A (f (.int i t)) Q E s):
  UnR X f (rU fun i=>.int (g i)):=by
 intro pins s σ H x v Q I rx h
 obtain ⟨i,rfl,q⟩:=h
 obtain ⟨t,rfl⟩:=rx
 exact rule i t s _ _ ⟨.int (g i),H,I.tok _,⟨_,rfl⟩,q⟩
theorem zKq:UnR X (unaryOp .USub) (rU fun i=>.int (-i)):=unI fun _ _ _ _ _ q=>neg_int q
end
section
variable {X:Cx} {a b c:Expr} {ta tb tc:TE} {pos:Pos}
theorem pP:OpR X (compareOp .Lt) (rI0 fun i j=>.bl (decide (i < j))):=zLP fun _ _ _ _ _ _ _ q=>lt_int q
theorem xR:OpR X (compareOp .Gt) (rI0 fun i j=>.bl (decide (j < i))):=zLP fun _ _ _ _ _ _ _ q=>gt_int q
theorem OpR.or {f:Value->Value->Sem Value} {r r':R2} (h:OpR X f r) (h':OpR X f r'):OpR X f (fun x y H Q=>r x y H Q∨r' x y H Q):=by
 intro pins s σ H x y v u Q I rx ry q
 rcases q with q | q
 ·exact h pins s σ H x y v u Q I rx ry q
 ·exact h' pins s σ H x y v u Q I rx ry q
theorem bD (b:Expr) {op:CmpOp} (h:op≠.In:=by decide) (h2:op≠.NotIn:=by decide):behindInMarks op b=false:=by
 have e1:(op==CmpOp.In)=false:=by cases op<;>first | rfl | exact absurd rfl h
 have e2:(op==CmpOp.NotIn)=false:=by cases op<;>first | rfl | exact absurd rfl h2
 cases b<;>simp [behindInMarks,e1,e2]
theorem zHe {op:CmpOp} {r:R2} (ho:OpR X (compareOp op) r) (ha:PE X a ta) (hb:PE X b tb) (hm:behindInMarks op b=false):PE X (.Compare a [op] [b] pos) (tOp r ta tb):=by
 intro pins s σ H Q I h
 exact wpAny_Compare1 (zLg ha hb I h fun v u s2 x y H2 I2 rx ry q=>ho pins s2 σ H2 x y v u Q I2 rx ry q) hm
abbrev zJA (t:TE):TT:=fun σ H Q=>t σ H fun x H'=>∃ k,x=.bl k/\Q k H'
theorem zDj {op:CmpOp} {r:R2} (ho:OpR X (compareOp op) r) (ha:PE X a ta) (hb:PE X b tb) (hm:behindInMarks op b=false):PT X (.Compare a [op] [b] pos) (zJA (tOp r ta tb)):=by
 intro pins s σ H Q I h
 refine wpAny_isTrue_Compare1 (thn (ha pins s σ H _ I h) fun v s1 ⟨x,H1,I1,r1,q1⟩=>thn (hb pins s1 σ H1 _ I1 q1) fun u s2 ⟨y,H2,I2,r2,q2⟩=>
  thn (ho pins s2 σ H2 x y v u _ I2 r1 r2 q2) fun c s3 ⟨z,H3,I3,r3,k,e,q3⟩=>?_) hm
 subst e
 cases r3
 exact wpAny_truthy_bool ⟨H3,I3,q3⟩
theorem zAo:(sizeLine:Nat) < 2^63:=by rw [sizeLine_eq];decide
theorem wY {x:V} {us:List Value} (r:cM [x] us):∃ u,us=[u]/\bW x u:=by
 cases r with
 | cons r1 r2=>cases r2;exact ⟨_,rfl,r1⟩
theorem zKo {x y:V} {us:List Value} (r:cM [x,y] us):∃ u w',us=[u,w']/\bW x u/\bW y w':=by
 cases r with
 | cons r1 r2=>
  cases r2 with
  | cons r3 r4=>cases r4;exact ⟨_,_,rfl,r1,r3⟩
theorem sQ:oF X (.builtin "abs") (fun xs H Q=>∃ i,xs=[.int i]/\Q (.int (if i < 0 then -i else i)) H):=by
 intro pins s σ H xs us Q I r h
 obtain ⟨i,rfl,q⟩:=h
 obtain ⟨u,rfl,t,rfl⟩:=wY r
 exact call_abs_int fun u tk=>⟨.int (if i < 0 then -i else i),H,I.tok _,⟨_,rfl⟩,q⟩
theorem zDN (hc:X.calm=true):oF X (.builtin "min") (fun xs H Q=>∃ i j,xs=[.int i,.int j]/\Q (.int (if j < i then j else i)) H):=by
 intro pins s σ H xs us Q I r h
 obtain ⟨i,j,rfl,q⟩:=h
 obtain ⟨u,w',rfl,⟨t,rfl⟩,⟨t',rfl⟩⟩:=zKo r
 refine min_two_ints (I.ok.hd hc) fun h' tk k=>⟨_,H,I.kept k,?_,q⟩
 by_cases hj:j < i
 ·rw [if_pos hj,if_pos hj];exact ⟨_,rfl⟩
 ·rw [if_neg hj,if_neg hj];exact ⟨_,rfl⟩
end
end L2
namespace L2
open PySem PySem.Spec PyProof.Rows
section
variable {prog:Program} {w:World} {A:Around} {E:Value->Shared->Prop} {s:Shared} {K:PySem.W.Frag} {x dx C f:Addr} {mA:Str->Option Value} {name:Str} {v:Value}
end
section
variable {P:Program} {w:World} {H H':Hp} {h h':Heap} {a C dx:Addr} {fs fs':List (Str×V)}
end
section
variable {X:Cx} {pins:List (Addr×Obj)} {σ:St} {H:Hp} {s:Shared} {a C dx:Addr} {fs:List (Str×V)} {f:Str} {v:V} {A:Around} {E:Value->Shared->Prop}
end
section
variable {X:Cx} {o e value:Expr} {f:Str} {pos pos' tpos:Pos} {ta tv:TE}
end
section
variable {X:Cx} {pins:List (Addr×Obj)} {σ:St} {H:Hp} {s:Shared} {A:Around} {E:Value->Shared->Prop} {Q:Value->Shared->Prop} {c:Value} {b:Bool}
end
end L2
namespace L2
open PySem PySem.Spec PyProof.Rows
structure Room (k:Nat) (A:Around):Prop where
 hd:A.handled=none
 dp:A.depth+3 * k+5 < recursionLimit
 un:A.units+16 * k+200 < cLine
theorem Room.mono {j k:Nat} {A:Around} (r:Room k A) (h:j<=k):Room j A:=⟨r.hd,by have:=r.dp;omega,by have:=r.un;omega⟩
theorem Room.deeper {k:Nat} {A:Around} (r:Room (k+1) A) (env:Env):Room k (A.deeper env):=
 ⟨r.hd,by have:=r.dp;show A.depth+1+3 * k+5 < _;omega,by have:=r.un;show A.units+3+16 * k+200 < _;omega⟩
theorem Room.depth {k:Nat} {A:Around} (r:Room k A):A.depth < recursionLimit:=by have:=r.dp;omega
theorem Room.units {k:Nat} {A:Around} (r:Room k A):A.units+64 < cLine:=by have:=r.un;omega
abbrev zMq:TA:=fun _ H Q=>Q [] H
abbrev zLp (ta:TE) (tr:TA):TA:=fun σ H Q=>ta σ H fun x H1=>tr σ H1 fun xs H2=>Q (x::xs) H2
section
variable {X:Cx} {e:Expr} {es:List Expr} {te:TE} {t:TA} {pos:Pos}
theorem lP:PA X [] zMq:=fun _ _ _ _ H Q I h=>Calls.spliced_nil ⟨[],H,I,.nil,h⟩
theorem gB (ha:PE X e te) (hr:PA X es t) (hs:starEach (e::es) X.env=(false,eval e X.env)::starEach es X.env:=by rfl):PA X (e::es) (zLp te t):=by
 intro pos pins s σ H Q I h
 rw [hs]
 show wpAny _ _ (spliced ((false,eval e X.env)::backTo pos (starEach es X.env))) _ _ s
 refine Calls.spliced_cons (thn (ha pins s σ H _ I h) fun u s1 ⟨x,H1,I1,r1,q1⟩=>?_)
 exact thn (hr pos pins s1 σ H1 _ I1 q1) fun us s2 ⟨xs,H2,I2,r2,q2⟩=>⟨x::xs,H2,I2,.cons r1 r2,q2⟩
abbrev zMA (t:TA):TE:=fun σ H Q=>t σ H fun xs H1=>xs.length<=sizeLine/\∀ p,H1 p=none->Q (.ref p) (upd H1 p (.tup xs))
abbrev zMl (t:TA):TE:=fun σ H Q=>t σ H fun xs H1=>xs.length<=sizeLine/\∀ p,H1 p=none->Q (.ref p) (upd H1 p (.lst xs))
theorem zKG {x1} (h:PA X es t):PE X (.Tuple es x1 pos) (zMA t):=by
 intro pins s σ H Q I hq
 refine wpAny_Tuple_spliced (thn (h pos pins s σ H _ I hq) fun us s1 ⟨xs,H1,I1,r,z,q⟩=>⟨by rw [<-r.length];exact z,?_⟩)
 have hf:H1 s1.heap.objs.size=none:=I1.hok.fresh (Nat.le_refl _)
 refine ⟨.ref s1.heap.objs.size,upd H1 s1.heap.objs.size (.tup xs),I1.laid (t':=s1.toks) (fun b u e=>Heap.get?_push_of_some _ e) (Nat.le_refl _) ?_,rfl,q _ hf⟩
 exact ⟨z,us,r,⟨_,Heap.get?_push_size _ rfl,rfl,_,rfl⟩⟩
theorem zJl (h:PA X es t):PE X (.List es pos) (zMl t):=by
 intro pins s σ H Q I hq
 refine wpAny_List_spliced (thn (h pos pins s σ H _ I hq) fun us s1 ⟨xs,H1,I1,r,z,q⟩=>⟨by rw [<-r.length];exact z,?_⟩)
 have hf:H1 s1.heap.objs.size=none:=I1.hok.fresh (Nat.le_refl _)
 refine ⟨.ref s1.heap.objs.size,upd H1 s1.heap.objs.size (.lst xs),I1.laid (t':=s1.toks) (fun b u e=>Heap.get?_push_of_some _ e) (Nat.le_refl _) ?_,rfl,q _ hf⟩
 exact ⟨z,us,0,r,Heap.get?_push_size _ rfl⟩
end
abbrev Sp:=List V->Hp->VK->XK->Prop
abbrev CXT:=List Env->Hp->Shared->XK->Value->Shared->Prop
structure Env0 (P:Program) (w:World) (K:PySem.W.Frag) (mg:Str->Option Value) (base:Heap) (A:Around) (outer:List Env) (s:Shared) (H:Hp):Prop where
 frames:A.frames=some outer
 mod:Mod K mg base
 bs:∀ b o,base.get? b=some o->s.heap.get? b=some o/\H b=none
 bsz:base.objs.size<=s.heap.objs.size
 funs:s.heap.FunFrames base outer
 frf:∀ b∈frs outer,H b=none
 hok:HOk P w H s.heap
 bare:AllBare s.gens
def CE (outer:List Env) (P:Program) (w:World) (H:Hp) (s:Shared) (Q:VK) (u:Value) (s':Shared):Prop:=
 ∃ v H',s'.os=s.os/\AllBare s'.gens/\Un (frs outer) [] H H' s.heap s'.heap/\HOk P w H' s'.heap/\bW v u/\Q v H'
def CR (CX:CXT) (outer:List Env) (P:Program) (w:World) (H:Hp) (s:Shared) (Q:VK) (E:XK) (r:Result) (s':Shared):Prop:=
 match r with
 | .ok (.ret u)=>CE outer P w H s Q u s'
 | .ok _=>False
 | .error e=>CX outer H s E e s'
structure FnOk (P:Program) (w:World) (K:PySem.W.Frag) (mg:Str->Option Value) (base:Heap) (CX:CXT) (k:Nat) (f:Addr) (fd:FuncData) (ps:List Str) (sp:Sp):Prop where
 len:∀ vs H Q E,sp vs H Q E->vs.length=ps.length
 run:∀ (A:Around) (outer:List Env) (s:Shared) (H:Hp) (args:Args) (us:List Value) (vs:List V) (Q:VK) (E:XK),Room k A->Env0 P w K mg base A outer s H->BindsTo s fd args (ps.zip us)->cM vs us->sp vs H Q E->
  codeAny (model P w) A (.call (.ref f) args) (CR CX outer P w H s Q E) s
theorem FnOk.mono {P:Program} {w:World} {K:PySem.W.Frag} {mg:Str->Option Value} {base:Heap} {CX:CXT} {j k:Nat} {f:Addr} {fd:FuncData} {ps:List Str} {sp:Sp} (F:FnOk P w K mg base CX j f fd ps sp) (h:j<=k):
  FnOk P w K mg base CX k f fd ps sp:=⟨F.len,fun A outer s H args us vs Q E hr=>F.run A outer s H args us vs Q E (hr.mono h)⟩
theorem FnOk.imp {P:Program} {w:World} {K:PySem.W.Frag} {mg:Str->Option Value} {base:Heap} {CX:CXT} {k:Nat} {f:Addr} {fd:FuncData} {ps:List Str} {sp sp':Sp} (F:FnOk P w K mg base CX k f fd ps sp)
  (h:∀ vs H Q E,sp' vs H Q E->sp vs H Q E):FnOk P w K mg base CX k f fd ps sp':=
 ⟨fun vs H Q E q=>F.len vs H Q E (h _ _ _ _ q),fun A outer s H args us vs Q E hr he hb hv hs=>F.run A outer s H args us vs Q E hr he hb hv (h _ _ _ _ hs)⟩
theorem Env0.in1 {P:Program} {w:World} {K:PySem.W.Frag} {mg:Str->Option Value} {base:Heap} {A:Around} {outer:List Env} {s:Shared} {H:Hp} (e:Env0 P w K mg base A outer s H):
  Env0 P w K mg base A.in1 outer s H:=⟨e.frames,e.mod,e.bs,e.bsz,e.funs,e.frf,e.hok,e.bare⟩
section
variable {X:Cx} {pins:List (Addr×Obj)} {σ:St} {H:Hp} {s s':Shared}
theorem Inv.env0 (I:Inv X pins σ H s):Env0 X.prog X.w X.K X.mg X.base X.A X.stack s H:=
 ⟨I.ok.frames,I.ok.mod,I.bs,Nat.le_trans I.ok.bsz I.sz,I.stack,I.stkFree,I.hok,I.bare⟩
theorem Inv.after {Q:VK} {u:Value} (I:Inv X pins σ H s) (h:CE X.stack X.prog X.w H s Q u s'):EP X pins σ Q u s':=by
 obtain ⟨v,H',os,bare,un,hok,r,q⟩:=h
 obtain ⟨hh,g,d,t,os'⟩:=s'
 obtain rfl:os'=s.os:=os
 exact ⟨v,H',I.call (h':=hh) (g':=g) (d':=d) (t':=t) (ch:=[]) un hok bare (fun b z=>absurd z (by simp)),r,q⟩
end
abbrev zHX (sp:Sp) (dvs:List V) (E:XK) (t:TA):TE:=fun σ H Q=>t σ H fun vs H1=>sp (vs++dvs) H1 Q E
def vH (K:PySem.W.Frag) (fd:FuncData) (ps:List Str) (ds:List Value):Prop:=
 ∀ (s:Shared) (us:List Value),K.In s.heap->(us++ds).length=ps.length->BindsTo s fd ⟨us,[]⟩ (ps.zip (us++ds))
theorem vH.all {K:PySem.W.Frag} {fd:FuncData} {ps:List Str} (h:∀ us:List Value,us.length=ps.length->bindArgs fd ⟨us,[]⟩=pure (ps.zip us)):vH K fd ps []:=fun s us _ hl=>by
 rw [List.append_nil] at hl ⊢
 exact .of_eq (h us hl)
def zAg (CX:CXT) (X:Cx) (E:XK):Prop:=∀ (pins:List (Addr×Obj)) (σ:St) (H:Hp) (s:Shared) (e:Value) (s':Shared),Inv X pins σ H s->CX X.stack H s E e s'->X.xe e s'
section
variable {X:Cx} {CX:CXT} {k:Nat} {f C:Addr} {fd:FuncData} {ps:List Str} {sp:Sp} {dvs:List V} {ds:List Value} {E:XK} {x m:Str} {p pos apos:Pos} {e o:Expr} {es:List Expr} {ta:TE} {t:TA}
theorem zJq {pins:List (Addr×Obj)} {σ:St} {H:Hp} {s:Shared} {Q:VK} {us:List Value} {vs:List V} (F:FnOk X.prog X.w X.K X.mg X.base CX k f fd ps sp) (hr:Room k X.A) (hb:vH X.K fd ps ds) (hd:cM dvs ds) (hx:zAg CX X E)
  (I:Inv X pins σ H s) (r:cM vs us) (h:sp (vs++dvs) H Q E):wpAny (model X.prog X.w) X.A (call (.ref f) us) (EP X pins σ Q) X.xe s:=by
 have r2:cM (vs++dvs) (us++ds):=r.append hd
 have hl:(us++ds).length=ps.length:=by rw [<-r2.length];exact F.len _ _ _ _ h
 refine wpAny_call (codeAny_mono (F.run X.A X.stack s H ⟨us,[]⟩ (us++ds) (vs++dvs) Q E hr I.env0 (hb s us I.kIn hl) r2 h) fun r s' hq=>?_)
 cases r with
 | error e=>exact hx pins σ H s e s' I hq
 | ok fl=>
  cases fl with
  | ret u=>exact I.after hq
  | next=>exact False.elim hq
  | brk=>exact False.elim hq
  | cont=>exact False.elim hq
theorem sU (F:FnOk X.prog X.w X.K X.mg X.base CX k f fd ps sp) (hr:Room k X.A) (hg:Gl X x) (hm:X.mg x=some (.ref f)) (hk:PySem.W.keepIn X.K (.ref f)=true) (hb:vH X.K fd ps ds) (hd:cM dvs ds) (hx:zAg CX X E)
  (ha:PA X (e::es) t) (hdb:(x==("__debug__" : Str))=false:=by decide) (he:starEach (e::es) X.env=(false,eval e X.env)::starEach es X.env:=by rfl) (hpl:(backTo pos (starEach es X.env)).any (·.1)=false:=by rfl):
  PE X (.Call (.Name x p) (e::es) [] pos) (zHX sp dvs E t):=by
 intro pins s σ H Q I h
 refine wpAny_Call_Name_kw (yL I hg hm ?_ hdb)
 refine PySem.W.callWith_K (h₀:=X.base) I.ok.mod.kin hk (thn (ha pos pins s σ H _ I h) fun us s1 ⟨vs,H1,I1,r,q⟩=>⟨I1.kIn,?_⟩) he hpl
 exact zJq F hr hb hd hx I1 r q
end
section
variable {X:Cx} {CX:CXT} {k:Nat} {f C:Addr} {fd:FuncData} {ps ks:List Str} {sp:Sp} {E:XK} {x m:Str} {p pos apos kpos:Pos} {e o:Expr} {es:List Expr} {kws:List Keyword} {te ta:TE} {t tk:TA} {nm:Option Str}
variable {g:List Value->List Value->List Value} {gV:List V->List V->List V}
end
structure FnScope (N P:List Str) (sc:Scope):Prop where
 kind:sc.kind=.function
 co:sc.isCoroutine=false
 gen:sc.isGenerator=false
 nd:N.Nodup
 pre:N.take P.length=P
 par:∀ x∈P,sc.names.lookup x=some .local∨sc.names.lookup x=some .cell
 nofree:∀ y∈sc.names,y.2≠.free
theorem vF {kindOf:Str->Option NameKind} {x:Str}:∀ {binds:List (Str×Value)} {m:Str->Option Value},(∀ v,(x,v)∉binds)->bindL kindOf binds m x=m x
 | [],_,_=>rfl
 | (n,v)::r,m,h=>by
  unfold bindL
  rw [vF fun w hw=>h w (List.mem_cons_of_mem _ hw)]
  split
  ·have:x≠n:=by rintro rfl;exact h v List.mem_cons_self
   simp [this]
  ·rfl
theorem wI {kindOf:Str->Option NameKind} {x:Str}:∀ {binds:List (Str×Value)} {m:Str->Option Value},(∀ v,(x,v)∉binds)->bindC kindOf binds m x=m x
 | [],_,_=>rfl
 | (n,v)::r,m,h=>by
  unfold bindC
  rw [wI fun w hw=>h w (List.mem_cons_of_mem _ hw)]
  split
  ·rfl
  ·have:x≠n:=by rintro rfl;exact h v List.mem_cons_self
   simp [this]
theorem wP {kindOf:Str->Option NameKind} {x:Str} {v:Value}:∀ {P:List Str} {vs:List Value} {i:Nat} {m:Str->Option Value},P.Nodup->P[i]?=some x->vs[i]?=some v->kindOf x=some .local->
  bindL kindOf (P.zip vs) m x=some v
 | [],_,_,_,_,h,_,_=>by simp at h
 | _::_,[],_,_,_,_,h,_=>by simp at h
 | p::P,w::vs,0,m,nd,h1,h2,hk=>by
  simp at h1 h2;subst h1;subst h2
  show bindL kindOf ((p,w)::P.zip vs) m p=_
  unfold bindL
  rw [vF fun v hv=>(List.nodup_cons.mp nd).1 (List.of_mem_zip hv).1,if_pos hk]
  simp
 | p::P,w::vs,i+1,m,nd,h1,h2,hk=>by
  show bindL kindOf ((p,w)::P.zip vs) m x=_
  unfold bindL
  exact wP (i:=i) (List.nodup_cons.mp nd).2 (by simpa using h1) (by simpa using h2) hk
theorem vR {kindOf:Str->Option NameKind} {x:Str} {v:Value}:∀ {P:List Str} {vs:List Value} {i:Nat} {m:Str->Option Value},P.Nodup->P[i]?=some x->vs[i]?=some v->kindOf x≠some .local->
  bindC kindOf (P.zip vs) m x=some v
 | [],_,_,_,_,h,_,_=>by simp at h
 | _::_,[],_,_,_,_,h,_=>by simp at h
 | p::P,w::vs,0,m,nd,h1,h2,hk=>by
  simp at h1 h2;subst h1;subst h2
  show bindC kindOf ((p,w)::P.zip vs) m p=_
  unfold bindC
  rw [wI fun v hv=>(List.nodup_cons.mp nd).1 (List.of_mem_zip hv).1,if_neg hk]
  simp
 | p::P,w::vs,i+1,m,nd,h1,h2,hk=>by
  show bindC kindOf ((p,w)::P.zip vs) m x=_
  unfold bindC
  exact vR (i:=i) (List.nodup_cons.mp nd).2 (by simpa using h1) (by simpa using h2) hk
def start (N:List Str) (vs:List V):St:=vs.map some++List.replicate (N.length - vs.length) none
def zAJ (CX:CXT) (P:Program) (w:World) (K:PySem.W.Frag) (mg:Str->Option Value) (base:Heap) (N:List Str) (qual:Str) (scope:Scope) (f:Addr) (cd:Value) (A:Around) (outer:List Env) (s:Shared) (H:Hp) (E:XK):Cx where
 prog:=P
 w:=w
 K:=K
 mg:=mg
 base:=base
 A:=A.deeper (envOfC qual scope s.heap.objs.size f cd)
 N:=N
 s₀:=s
 H₀:=H
 env:=envOfC qual scope s.heap.objs.size f cd
 outer:=outer
 stack:=envOfC qual scope s.heap.objs.size f cd::outer
 ex:=[]
 calm:=true
 fn:=fun _=>true
 pn:=[]
 xe:=fun e s'=>wpAny (model P w) (A.deeper (envOfC qual scope s.heap.objs.size f cd)) (leaving (envOfC qual scope s.heap.objs.size f cd) e) (fun _ s''=>CX outer H s E e s'') (fun e' s''=>CX outer H s E e' s'') s'
theorem zAt {sc:Scope} {n:Nat} {x:Str} (h:sc.names.lookup x=some .cell):∃ c,(cellsFrom n sc.names []).lookup x=some c:=by
 have q:=PySem.W.cellsFrom_some sc.names n [] (.inl h)
 exact Option.isSome_iff_exists.mp q
theorem zBR {CX:CXT} {P:Program} {w:World} {K:PySem.W.Frag} {mg:Str->Option Value} {base:Heap} {N ps:List Str} {qual:Str} {scope:Scope} {f:Addr} {cd:Value} {A:Around} {outer:List Env} {s s1:Shared} {H:Hp} {E:XK} {us:List Value} {vs:List V}
  (S:FnScope N ps scope) (hd:A.handled=none) (e0:Env0 P w K mg base A outer s H) (hl:vs.length=ps.length) (r:cM vs us)
  (x:InCallC s s.heap.objs.size (bindL (envOfC qual scope s.heap.objs.size f cd).kindOf (ps.zip us) fun _=>none) (cellsFrom (s.heap.objs.size+1) scope.names []) (bindC (envOfC qual scope s.heap.objs.size f cd).kindOf (ps.zip us) fun _=>none) s1):
  Inv (zAJ CX P w K mg base N qual scope f cd A outer s H E) [] (start N vs) H s1:=by
 have hpl:ps.length<=N.length:=by have:=congrArg List.length S.pre;rw [List.length_take] at this;omega
 obtain ⟨h1,tk,rfl,hk⟩:=x.done
 have noA:∀ b:Addr,b∉(zAJ CX P w K mg base N qual scope f cd A outer s H E).ex:=fun b z=>absurd (show b∈([]:List Addr) from z) (by simp)
 refine ⟨⟨e0.mod,S.kind,rfl,rfl,Nat.le_refl _,fun y z c h1 h2=>?_,fun y hy=>?_,fun y c _ h=>?_,fun _=>hd,Around.frames_deeper e0.frames,.inr ⟨rfl,rfl⟩,fun b z=>absurd z (noA b),e0.bs,e0.bsz,fun b _ _=>noA b,fun b z=>absurd z (noA b),e0.funs,e0.frf⟩,
  rfl,e0.bare,Un.kept hk,⟨_,x.toInCall.ns,fun i y v h1 h2 h3=>?_⟩,fun y c h=>⟨_,x.cell y c h⟩,e0.hok.fresh (Nat.le_refl _),fun y c h=>?_,fun p hp=>absurd (show p∈([]:List (Addr×Obj)) from hp) (by simp),e0.hok.kept hk,?_⟩
 ·exact name_of_addr x.apart (PySem.mem_of_lookup h1) (PySem.mem_of_lookup h2)
 ·have hy:scope.names.lookup y=some .cell∨scope.names.lookup y=some .free:=hy
  rcases hy with hy | hy
  ·exact zAt hy
  ·exact absurd rfl (S.nofree _ (PySem.mem_of_lookup hy))
 ·exact Nat.le_of_lt (x.above y c (PySem.mem_of_lookup h))
 ·have hi:i < vs.length:=by
   unfold start at h2
   by_cases hi:i < vs.length
   ·exact hi
   ·rw [List.getElem?_append_right (by simpa using hi)] at h2
    rw [List.getElem?_replicate] at h2
    split at h2<;>cases h2
  have ha:vs[i]?=some v:=by
   unfold start at h2
   rw [List.getElem?_append_left (by simpa using hi),List.getElem?_map] at h2
   cases e:vs[i]? with
   | none=>rw [e] at h2;cases h2
   | some a=>rw [e] at h2;cases h2;rfl
  obtain ⟨u,hu,rv⟩:=r.get ha
  have hp:ps[i]?=some y:=by
   rw [<-S.pre,List.getElem?_take_of_lt (by omega)];exact h1
  have ndP:ps.Nodup:=by rw [<-S.pre];exact S.nd.sublist (List.take_sublist _ _)
  refine ⟨u,rv,?_⟩
  rcases S.par y (List.mem_of_getElem? hp) with k | k
  ·exact .inl ⟨k,wP ndP hp hu k⟩
  ·obtain ⟨c,e⟩:=zAt (n:=s.heap.objs.size+1) k
   refine .inr ⟨.inl k,c,e,?_⟩
   have q:=x.cell y c e
   rw [vR ndP hp hu (by show scope.names.lookup y≠_;rw [k];decide)] at q
   exact q
 ·exact e0.hok.fresh (Nat.le_of_lt (x.above y c (PySem.mem_of_lookup h)))
 ·unfold start
  show _=N.length
  rw [List.length_append,List.length_map,List.length_replicate]
  omega
theorem zJp {CX:CXT} {P:Program} {w:World} {K:PySem.W.Frag} {mg:Str->Option Value} {base:Heap} {k:Nat} {f:Addr} {name qual:Str} {params:Arguments} {body:List Stmt} {scope:Scope} {dV kV doc pm cdv ct oc:Value} {an od:Option Addr}
  {osl:Array (Option Value)} {N ps:List Str} {sp:Sp} (lk:K.lookup f=some ⟨oc,od,.func (PySem.W.fnOf name qual params body scope dV kV doc pm an cdv ct),osl⟩) (hcd:PySem.W.codeIn K cdv qual=true) (S:FnScope N ps scope)
  (len:∀ vs H Q E,sp vs H Q E->vs.length=ps.length)
  (hbody:∀ (A:Around) (outer:List Env) (s:Shared) (H:Hp) (vs:List V) (Q:VK) (E:XK),Room k (A.deeper (envOfC qual scope s.heap.objs.size f cdv))->sp vs H Q E->
   ∃ t,PSs (zAJ CX P w K mg base N qual scope f cdv A outer s H E) body t/\t { nx:=fun _ H'=>Q .non H',rt:=Q } (start N vs) H):
  FnOk P w K mg base CX (k+1) f (PySem.W.fnOf name qual params body scope dV kV doc pm an cdv ct) ps sp:=by
 refine ⟨len,fun A outer s H args us vs Q E hr e0 hb r hsp=>?_⟩
 have hl:=len _ _ _ _ hsp
 have KX:K.In s.heap:=e0.mod.kin.keeps fun b o e=>(e0.bs b o e).1
 have lim:s.heap.NoLimit:=e0.mod.nolimit.keeps fun b o e=>(e0.bs b o e).1
 have hkind:∀ y∈ps.zip us,scope.names.lookup y.1=some .local∨(scope.names.lookup y.1=some .cell/\((cellsFrom (s.heap.objs.size+1) scope.names []).lookup y.1).isSome=true):=fun ⟨n,v⟩ hy=>by
  rcases S.par n (List.of_mem_zip hy).1 with q | q
  ·exact .inl q
  ·exact .inr ⟨q,PySem.W.cellsFrom_some _ _ _ (.inl q)⟩
 refine codeAny_call_function hr.depth (KX _ _ lk) rfl S.co S.gen rfl (PySem.W.codeRec_of KX hcd) (hb _ _ _ _ ?_)
 refine wpAny_newFunctionEnv_cells S.kind hkind fun env he s1 x=>?_
 subst he
 refine ⟨lim.keeps x.toInCall.keep,codeAny_func ?_⟩
 obtain ⟨t,ht,hq⟩:=hbody A outer s H vs Q E (hr.deeper _) hsp
 have I:Inv (zAJ CX P w K mg base N qual scope f cdv A outer s H E) [] (start N vs) H s1:=zBR S hr.hd e0 hl r x
 refine wpAny_mono (ht [] s1 (start N vs) H _ I hq) (fun fl s' hs=>?_) fun e s' hs=>hs
 have fin:∀ {σ':St} {H':Hp} {v:V} {u:Value},Inv (zAJ CX P w K mg base N qual scope f cdv A outer s H E) [] σ' H' s'->bW v u->Q v H'->CE outer P w H s Q u s':=
  fun {σ' H' v u} J rv q=>⟨v,H',J.os,J.bare,J.base,J.hok,rv,q⟩
 cases fl with
 | ret u=>
  obtain ⟨v,σ',H',J,rv,q⟩:=hs
  exact fin J rv q
 | next=>
  obtain ⟨σ',H',J,q⟩:=hs
  exact fin (v:=V.non) (u:=Value.none) J rfl q
 | brk=>
  obtain ⟨_,_,_,q⟩:=hs
  exact False.elim q
 | cont=>
  obtain ⟨_,_,_,q⟩:=hs
  exact False.elim q
end L2
namespace L2
open PySem PySem.Spec PyProof.Rows
section
variable {X:Cx} {x:Str} {p pos:Pos} {e:Expr} {es:List Expr} {t:TA} {id T:String} {r:List V->Hp->VK->Prop}
abbrev tCB (r:List V->Hp->VK->Prop) (t:TA):TE:=fun σ H Q=>t σ H fun vs H1=>r vs H1 Q
theorem sF (hc:oF X (.builtin id) r) (hg:Gl X x) (hm:X.mg x=none) (hv:bootBuiltins x=some (.builtin id)) (ha:PA X (e::es) t) (hn:x ≠ "__name__" := by decide) (hdb:(x==("__debug__" : Str))=false:=by decide)
  (he:starEach (e::es) X.env=(false,eval e X.env)::starEach es X.env:=by rfl) (hpl:(backTo pos (starEach es X.env)).any (·.1)=false:=by rfl):PE X (.Call (.Name x p) (e::es) [] pos) (tCB r t):=by
 intro pins s σ H Q I h
 refine wpAny_Call_Name_kw (jT I hg hm hv ?_ hn hdb)
 exact PyProof.Rows.callWith_builtin1 (thn (ha pos pins s σ H _ I h) fun us s1 ⟨vs,H1,I1,r1,q1⟩=>hc pins s1 σ H1 vs us Q I1 r1 q1) he hpl
theorem zBQ (hc:oF X (.type T) r) (hg:Gl X x) (hm:X.mg x=none) (hv:bootBuiltins x=some (.type T)) (ha:PA X (e::es) t) (hn:x ≠ "__name__" := by decide) (hdb:(x==("__debug__" : Str))=false:=by decide)
  (he:starEach (e::es) X.env=(false,eval e X.env)::starEach es X.env:=by rfl) (hpl:(backTo pos (starEach es X.env)).any (·.1)=false:=by rfl):PE X (.Call (.Name x p) (e::es) [] pos) (tCB r t):=by
 intro pins s σ H Q I h
 refine wpAny_Call_Name_kw (jT I hg hm hv ?_ hn hdb)
 exact PyProof.Rows.callWith_type1 (thn (ha pos pins s σ H _ I h) fun us s1 ⟨vs,H1,I1,r1,q1⟩=>hc pins s1 σ H1 vs us Q I1 r1 q1) he hpl
end
end L2
namespace HT
open PySem PyProof.Rows
section
open PySem.SeqAt
open PySem.AutoSeq1 (wpAny_loadPart')
open PySem.MeetsSeq PySem.MeetsSeq2 PySem.MeetsSeq3
end
section
variable {prog:Program} {w:World} {A:Around} {E:Value->Shared->Prop} {s:Shared}
theorem cat_tup {t b:Addr} {vs ws:List Value} {Q:Value->Shared->Prop} (ht:IsTup s.heap t vs.toArray) (hb:IsTup s.heap b ws.toArray) (hv:vs≠[])
  (h1:ws=[]->Q (.ref t) s) (h2:ws≠[]->Q (.ref s.heap.objs.size) { s with heap:=s.heap.push { cls:=.type "tuple", data:=.seq (vs++ws).toArray } })
  (hsz:vs.length+ws.length<=sizeLine):wpAny (model prog w) A (binaryOp .Add (.ref t) (.ref b)) Q E s:=by
 obtain ⟨⟨cls,dd,data,sl⟩,ho,hc,n,hd⟩:=id ht
 obtain ⟨⟨cls2,dd2,data2,sl2⟩,ho2,hc2,n2,hd2⟩:=id hb
 simp only at hc hd hc2 hd2
 subst hc hd hc2 hd2
 have e:vs.toArray++ws.toArray=(vs++ws).toArray:=by simp
 by_cases hw:ws=[]
 ·exact concat_meets ⟨_,ho,rfl⟩ ⟨_,ho2,rfl⟩ noFill_tuple_add seq_tuple_add PySem.F.slot_tuple_add PySem.F.entry_tuple_add (PySem.F.args_tuple_add_2 _ _)
   (tuple_addW1 t b vs.toArray ws.toArray n n2 dd dd2 sl sl2 (by simpa using hv) (by simp [hw])) ⟨ho,ho2,h1 hw⟩
 ·refine concat_meets ⟨_,ho,rfl⟩ ⟨_,ho2,rfl⟩ noFill_tuple_add seq_tuple_add PySem.F.slot_tuple_add PySem.F.entry_tuple_add (PySem.F.args_tuple_add_2 _ _)
   (tuple_addW2 t b vs.toArray ws.toArray n n2 dd dd2 sl sl2 (by simpa using hv) (by simpa using hw) (by rw [List.size_toArray,List.size_toArray];exact hsz)) ⟨ho,ho2,?_⟩
  rw [e]
  exact h2 hw
def sIx (n d:Nat):Option Int->Nat
 | none=>d
 | some v=>if v < 0 then (v+(n:Int)).toNat else min v.toNat n
end
end HT
namespace L2
open PySem PySem.Spec PyProof.Rows
abbrev TO:=St->Hp->(Option Int->Hp->Prop)->Prop
def PO (X:Cx) (e:Option Expr) (t:TO):Prop:=
 ∀ (pins:List (Addr×Obj)) (s:Shared) (σ:St) (H:Hp) (Q:Option Int->Hp->Prop),Inv X pins σ H s->t σ H Q->
  wpAny (model X.prog X.w) X.A (evalPart e X.env) (fun u s'=>∃ o H',Inv X pins σ H' s'/\IsPart u o/\Q o H') X.xe s
abbrev zGj:TO:=fun _ H Q=>Q none H
abbrev zKX (t:TE):TO:=fun σ H Q=>t σ H fun x H1=>∃ i,x=.int i/\Q (some i) H1
section
variable {X:Cx} {e:Expr} {te:TE} {lo hi:Option Expr} {tl th:TO} {pos p2:Pos}
theorem zHA:PO X none zGj:=by
 intro pins s σ H Q I h
 rw [evalPart_none]
 exact wpAny_pure ⟨none,H,I,.none,h⟩
theorem zGz (h:PE X e te):PO X (some e) (zKX te):=by
 intro pins s σ H Q I hw
 rw [evalPart_some]
 refine thn (h pins s σ H _ I hw) fun u s1 ⟨x,H1,I1,r1,q1⟩=>?_
 obtain ⟨i,rfl,q⟩:=q1
 obtain ⟨t,rfl⟩:=r1
 exact ⟨some i,H1,I1,.int i t,q⟩
def SlR (X:Cx) (r:V->Option Int->Option Int->Hp->VK->Prop):Prop:=
 ∀ (pins:List (Addr×Obj)) (s:Shared) (σ:St) (H:Hp) (x:V) (v vl vu:Value) (lo hi:Option Int) (sl:Addr) (Q:VK),Inv X pins σ H s->bW x v->s.heap.IsSliceOf sl vl vu .none->IsPart vl lo->IsPart vu hi->r x lo hi H Q->
  ∃ T id,typeLookup (.type T) "__getitem__" = pure (some (.builtin id))/\s.TypeIs v T/\wpAny (model X.prog X.w) X.A (getItem v (.ref sl)) (EP X pins σ Q) X.xe s
abbrev tSl (r:V->Option Int->Option Int->Hp->VK->Prop) (te:TE) (tl th:TO):TE:=fun σ H Q=>te σ H fun x H1=>tl σ H1 fun l H2=>th σ H2 fun u H3=>r x l u H3 Q
theorem zEY {r:V->Option Int->Option Int->Hp->VK->Prop} (hr:SlR X r) (he:PE X e te) (hl:PO X lo tl) (hu:PO X hi th):PE X (.Subscript e (.Slice lo hi none p2) pos) (tSl r te tl th):=by
 intro pins s σ H Q I h
 refine Subscript_ (thn (he pins s σ H _ I h) fun v s1 ⟨x,H1,I1,r1,q1⟩=>?_)
 refine wpAny_Slice (thn (hl pins s1 σ H1 _ I1 q1) fun vl s2 ⟨l,H2,I2,pl,q2⟩=>thn (hu pins s2 σ H2 _ I2 q2) fun vu s3 ⟨u,H3,I3,pu,q3⟩=>?_)
 rw [evalPart_none]
 refine wpAny_pure ?_
 have I4:Inv X pins σ H3 { s3 with heap:=s3.heap.push { cls:=.type "slice", data:=.fields #[vl,vu,.none] } }:=I3.kept (t':=s3.toks) fun b ob q=>Heap.get?_push_of_some _ q
 obtain ⟨T,id,hT,ht,hg⟩:=hr pins { s3 with heap:=s3.heap.push { cls:=.type "slice", data:=.fields #[vl,vu,.none] } } σ H3 x v vl vu l u s3.heap.objs.size Q I4 r1 (Heap.IsSliceOf.new ..) pl pu q3
 show wpAny (model X.prog X.w) X.A (subscriptTail e (.Slice lo hi none p2) v (.ref s3.heap.objs.size)) (EP X pins σ Q) X.xe { s3 with heap:=s3.heap.push { cls:=.type "slice", data:=.fields #[vl,vu,.none] } }
 exact tail_any (ops:=[.ref s3.heap.objs.size,v]) ht hT hg (by with_unfolding_all rfl)
def zIh (xs:List V) (lo hi:Option Int):List V:=(xs.drop (HT.sIx xs.length 0 lo)).take (HT.sIx xs.length xs.length hi - HT.sIx xs.length 0 lo)
theorem xF (xs:List V) (lo hi:Option Int):(zIh xs lo hi).length<=xs.length:=by
 unfold zIh
 rw [List.length_take,List.length_drop]
 omega
def zIR (K:PySem.W.Frag):R2:=fun x y H Q=>∃ a b xs ys,x=.ref a/\y=.ref b/\SqT K H a xs/\SqT K H b ys/\xs≠[]/\xs.length+ys.length<=sizeLine/\
 (ys=[]->Q (.ref a) H)/\(ys≠[]->∀ p,H p=none->Q (.ref p) (upd H p (.tup (xs++ys))))
theorem cM.nil_iff {xs:List V} {us:List Value} (r:cM xs us):us=[] ↔ xs=[]:=by
 cases r with
 | nil=>simp
 | cons _ _=>simp
theorem zGu:OpR X (binaryOp .Add) (zIR X.K):=by
 intro pins s σ H x y v u Q I rx ry h
 obtain ⟨a,b,xs,ys,rfl,rfl,ha,hb,hx,hz,q1,q2⟩:=h
 cases rx
 cases ry
 obtain ⟨its,r1,p1,_⟩:=I.tuple ha
 obtain ⟨its2,r2,p2,_⟩:=I.tuple hb
 refine HT.cat_tup p1 p2 (fun z=>hx (r1.nil_iff.mp z)) (fun z=>⟨.ref a,H,I,rfl,q1 (r2.nil_iff.mp z)⟩) (fun z=>?_) (by rw [<-r1.length,<-r2.length];exact hz)
 refine ⟨.ref s.heap.objs.size,_,I.laid (t':=s.toks) (o:=.tup (xs++ys)) (fun b ob q=>Heap.get?_push_of_some _ q) (Nat.le_refl _) ?_,rfl,q2 (fun w=>z (r2.nil_iff.mpr w)) _ (I.hok.fresh (Nat.le_refl _))⟩
 exact ⟨by rw [List.length_append];exact hz,_,r1.append r2,IsTup.new _ _⟩
end
end L2
namespace L2
open PySem PySem.Spec PyProof.Rows
def ixN (n:Nat) (i:Int):Option Nat:=if 0<=i then (if i < n then some i.toNat else none) else if -(n:Int)<=i then some (i+n).toNat else none
def atI {α:Type} (xs:List α) (i:Int):Option α:=(ixN xs.length i).bind fun j=>xs[j]?
theorem zBH {n:Nat} {i:Int} {j:Nat} (h:ixN n i=some j):seqIndex? i n=some j/\j < n/\-(n:Int)<=i/\i < n:=by
 unfold ixN at h
 by_cases h0:0<=i
 ·rw [if_pos h0] at h
  by_cases h1:i < n
  ·rw [if_pos h1] at h
   have e:i.toNat=j:=Option.some.inj h
   exact ⟨by rw [seqIndex_of h0 h1,e],by omega,by omega,h1⟩
  ·rw [if_neg h1] at h;cases h
 ·rw [if_neg h0] at h
  by_cases h1:-(n:Int)<=i
  ·rw [if_pos h1] at h
   have e:(i+n).toNat=j:=Option.some.inj h
   exact ⟨by rw [seqIndex_neg (by omega) h1,e],by omega,h1,by omega⟩
  ·rw [if_neg h1] at h;cases h
theorem zDx {α:Type} {xs:List α} {i:Int} {v:α} (h:atI xs i=some v):∃ j,seqIndex? i xs.length=some j/\xs[j]?=some v/\j < xs.length/\-(xs.length:Int)<=i/\i < xs.length:=by
 unfold atI at h
 cases e:ixN xs.length i with
 | none=>rw [e] at h;cases h
 | some j=>
  rw [e] at h
  obtain ⟨h1,h2,h3,h4⟩:=zBH e
  exact ⟨j,h1,h,h2,h3,h4⟩
theorem xP {α:Type} {xs:List α} {j:Nat} {v:α} (h:xs[j]?=some v):atI xs (j:Int)=some v:=by
 have hj:j < xs.length:=(List.getElem?_eq_some_iff.mp h).1
 have e:ixN xs.length (j:Int)=some j:=by
  unfold ixN
  rw [if_pos (by omega),if_pos (by omega)];simp
 unfold atI;rw [e];exact h
def xZ (b:Expr):Prop:=∀ o i,subscripted b false o i=operate [o,i] (getItem o i)
def IxR (X:Cx) (r:R2):Prop:=
 ∀ (value slice:Expr) (pins:List (Addr×Obj)) (s:Shared) (σ:St) (H:Hp) (x y:V) (v u:Value) (Q:VK),Inv X pins σ H s->bW x v->bW y u->r x y H Q->
  subscripted slice false v u=operate [v,u] (getItem v u)->wpAny (model X.prog X.w) X.A (subscriptTail value slice v u) (EP X pins σ Q) X.xe s
def MtR (X:Cx) (id:String) (r:V->List V->Hp->VK->Prop):Prop:=
 ∀ (pins:List (Addr×Obj)) (s:Shared) (σ:St) (H:Hp) (x:V) (xs:List V) (v:Value) (us:List Value) (Q:VK),Inv X pins σ H s->bW x v->cM xs us->r x xs H Q->
  wpAny (model X.prog X.w) X.A (call (.builtin id) (v::us)) (EP X pins σ Q) X.xe s
section
variable {X:Cx} {a b:Expr} {ta tb:TE} {pos:Pos}
theorem IxR.or {r r':R2} (h:IxR X r) (h':IxR X r'):IxR X (fun x y H Q=>r x y H Q∨r' x y H Q):=by
 intro value slice pins s σ H x y v u Q I rx ry q hs
 rcases q with q | q
 ·exact h value slice pins s σ H x y v u Q I rx ry q hs
 ·exact h' value slice pins s σ H x y v u Q I rx ry q hs
theorem zAK {r:R2} (hr:IxR X r) (ha:PE X a ta) (hb:PE X b tb) (hs:xZ b):PE X (.Subscript a b pos) (tOp r ta tb):=by
 intro pins s σ H Q I h
 exact Subscript_ (zLg ha hb I h fun v u s2 x y H2 I2 rx ry q=>hr a b pins s2 σ H2 x y v u Q I2 rx ry q (hs _ _))
def zKN (K:PySem.W.Frag):R2:=fun x y H Q=>∃ p xs i v,x=.ref p/\y=.int i/\SqL K H p xs/\atI xs i=some v/\Q v H
def zKK (K:PySem.W.Frag):R2:=fun x y H Q=>∃ p xs i v,x=.ref p/\y=.int i/\SqT K H p xs/\atI xs i=some v/\Q v H
theorem zHz:IxR X (zKN X.K):=by
 intro value slice pins s σ H x y v u Q I rx ry h hs
 obtain ⟨p,xs,i,z,rfl,rfl,hq,he,q⟩:=h
 cases rx
 obtain ⟨t,rfl⟩:=ry
 obtain ⟨its,r,pl,hz⟩:=I.list hq
 obtain ⟨j,h1,h2,h3,h4,h5⟩:=zDx he
 obtain ⟨w,ew,rw'⟩:=r.get h2
 have hl:=r.length
 have hn:=zAo
 have fin:EP X pins σ Q w s:=⟨z,H,I,rw',q⟩
 by_cases h0:0<=i
 ·have hj:i.toNat=j:=by
   rw [seqIndex_of h0 h5] at h1
   exact Option.some.inj h1
  exact item_listR pl.isList h0 (by omega) (by rw [hj];simpa using ew) fin hs
 ·have hj:(i+(its.toArray.size:Int)).toNat=j:=by
   rw [seqIndex_neg (by omega) h4] at h1
   rw [List.size_toArray,<-hl]
   exact Option.some.inj h1
  exact subscriptTail_builtinR (x:=w) pl.isList.typeIs slot_list_getitem.lookup
   (wpAny_getItem_list_neg (Q:=fun r s'=>r=w/\EP X pins σ Q r s') pl.isList (by omega) (by rw [List.size_toArray]<;>omega) (by omega) (by rw [hj];simpa using ew) ⟨rfl,fin⟩) hs
theorem zKn:IxR X (zKK X.K):=by
 intro value slice pins s σ H x y v u Q I rx ry h hs
 obtain ⟨p,xs,i,z,rfl,rfl,hq,he,q⟩:=h
 cases rx
 obtain ⟨t,rfl⟩:=ry
 obtain ⟨its,r,pl,hz⟩:=I.tuple hq
 obtain ⟨j,h1,h2,h3,h4,h5⟩:=zDx he
 obtain ⟨w,ew,rw'⟩:=r.get h2
 have hl:=r.length
 have hn:=zAo
 have fin:EP X pins σ Q w s:=⟨z,H,I,rw',q⟩
 exact subscriptTail_builtinR (x:=w) pl.typeIs slot_tuple_getitem.lookup
  (getItem_tuple (j:=j) (Q:=fun r s'=>r=w/\EP X pins σ Q r s') pl (by omega) (by omega) (by rw [List.size_toArray,<-hl];exact h1) (by simpa using ew) ⟨rfl,fin⟩) hs
theorem zAR (its:List Value) (n j:Nat) (u:Value):Obj.mapSeq (·.setIfInBounds j u) { cls:=.type "list", data:=.seq its.toArray n }={ cls:=.type "list", data:=.seq (its.set j u).toArray n }:=by
 simp [Obj.mapSeq]
theorem Inv.lst {pins:List (Addr×Obj)} {σ:St} {H:Hp} {s:Shared} {p:Addr} {xs:List V} (I:Inv X pins σ H s) (h:H p=some (.lst xs)):
  ∃ (its:List Value) (n:Nat),cM xs its/\s.heap.get? p=some { cls:=.type "list", data:=.seq its.toArray n }/\xs.length<=sizeLine:=by
 obtain ⟨z,its,n,r,e⟩:=I.hok p _ h
 exact ⟨its,n,r,e,z⟩
theorem Inv.lstUpd {pins:List (Addr×Obj)} {σ:St} {H:Hp} {s:Shared} {p:Addr} {xs ys:List V} {its its':List Value} {n n':Nat} {f:Obj->Obj} (I:Inv X pins σ H s) (h:H p=some (.lst xs))
  (ho:s.heap.get? p=some { cls:=.type "list", data:=.seq its.toArray n }) (hf:f { cls:=.type "list", data:=.seq its.toArray n }={ cls:=.type "list", data:=.seq its'.toArray n' }) (r:cM ys its') (hz:ys.length<=sizeLine) (t:Nat):
  Inv X pins σ (upd H p (.lst ys)) { s with heap:=s.heap.update p f,toks:=t }:=by
 have e:(s.heap.update p f).get? p=some { cls:=.type "list", data:=.seq its'.toArray n' }:=by
  rw [Heap.get?_update_self f ho (by rw [hf]<;>rfl),hf]
 refine I.write (x:=p) (e:=p) (by rw [h];trivial) (.inl rfl) (fun b u hb q=>(Heap.get?_update_other _ _ (Ne.symm hb)).trans q) ⟨_,e⟩ ?_
 exact ⟨hz,its',n',r,e⟩
def zLq:V->V->V->Hp->(Hp->Prop)->Prop:=fun o i v H Q=>∃ p xs k j,o=.ref p/\i=.int k/\H p=some (.lst xs)/\ixN xs.length k=some j/\Q (upd H p (.lst (xs.set j v)))
theorem zAe:zLz X zLq:=by
 intro pins s σ H o i v ov iv u Q I ro ri rv h
 obtain ⟨p,xs,k,j,rfl,rfl,hp,hj,q⟩:=h
 cases ro
 obtain ⟨t,rfl⟩:=ri
 obtain ⟨its,n,r,ho,hz⟩:=I.lst hp
 obtain ⟨h1,h2,h3,h4⟩:=zBH hj
 have hl:=r.length
 have hn:=zAo
 have I':Inv X pins σ (upd H p (.lst (xs.set j v))) { s with heap:=s.heap.update p (Obj.mapSeq (·.setIfInBounds j u)) }:=
  I.lstUpd hp ho (zAR its n j u) (r.set rv j) (by rw [List.length_set];exact hz) s.toks
 by_cases h0:0<=k
 ·have hk:k.toNat=j:=by
   rw [seqIndex_of h0 h4] at h1
   exact Option.some.inj h1
  exact PySem.W.ki_setAt ho h0 (by omega) (by rw [List.size_toArray,<-hl];exact h4) (by rw [hk];exact ⟨_,I',q⟩)
 ·have hk:(k+(its.toArray.size:Int)).toNat=j:=by
   rw [seqIndex_neg (by omega) h3] at h1
   rw [List.size_toArray,<-hl]
   exact Option.some.inj h1
  exact PySem.W.ki_setBack ho (by omega) (by rw [List.size_toArray,<-hl];exact h3) (by omega) (by rw [hk];exact ⟨_,I',q⟩)
theorem vA (lo hi:Option Int) (n:Nat):(sliceBounds lo hi none n).1=((HT.sIx n 0 lo:Nat):Int)/\(sliceBounds lo hi none n).2.1=((HT.sIx n n hi:Nat):Int)/\(sliceBounds lo hi none n).2.2=1:=by
 refine ⟨?_,?_,rfl⟩
 ·cases lo with
  | none=>simp [sliceBounds,HT.sIx]
  | some i=>
   simp only [sliceBounds,HT.sIx,Option.getD_none,show (1:Int) > 0 by decide,if_true]
   by_cases h:i < 0
   ·simp only [h,if_true]<;>omega
   ·simp only [h,if_false]<;>omega
 ·cases hi with
  | none=>simp [sliceBounds,HT.sIx]
  | some i=>
   simp only [sliceBounds,HT.sIx,Option.getD_none,show (1:Int) > 0 by decide,if_true]
   by_cases h:i < 0
   ·simp only [h,if_true]<;>omega
   ·simp only [h,if_false]<;>omega
theorem tH (its:List Value) (lo hi:Option Int):slicePick its.toArray lo hi none=((its.drop (HT.sIx its.length 0 lo)).take (HT.sIx its.length its.length hi - HT.sIx its.length 0 lo)).toArray:=by
 obtain ⟨h1,h2,h3⟩:=vA lo hi its.toArray.size
 unfold slicePick
 rw [h1,h2,h3]
 simp only [sliceRange_one,pick_run,List.size_toArray]<;>rfl
def zMy (K:PySem.W.Frag):V->Option Int->Option Int->Hp->VK->Prop:=fun x lo hi H Q=>∃ a xs,x=.ref a/\SqL K H a xs/\∀ p,H p=none->Q (.ref p) (upd H p (.lst (zIh xs lo hi)))
theorem zHh:SlR X (zMy X.K):=by
 intro pins s σ H x v vl vu lo hi sl Q I rx hs pl pu h
 obtain ⟨a,xs,rfl,hx,q⟩:=h
 cases rx
 obtain ⟨its,r,ht,hz⟩:=I.list hx
 have hlen:=r.length
 refine ⟨"list", _,slot_list_getitem.lookup,ht.isList.typeIs,?_⟩
 refine wpAny_getItem_list_slice ht.isList hs pl pu .none (by simp) ?_ (by rw [List.size_toArray]<;>omega)
 rw [tH,<-hlen]
 refine ⟨.ref s.heap.objs.size,_,I.laid (t':=s.toks) (o:=.lst (zIh xs lo hi)) (fun b ob q=>Heap.get?_push_of_some _ q) (Nat.le_refl _) ?_,rfl,q _ (I.hok.fresh (Nat.le_refl _))⟩
 exact ⟨Nat.le_trans (xF xs lo hi) hz,_,0,(r.drop (HT.sIx xs.length 0 lo)).take (HT.sIx xs.length xs.length hi - HT.sIx xs.length 0 lo),Heap.get?_push_size _ rfl⟩
theorem aQ:oF X (.builtin "len") (fun xs H Q=>∃ p ys,xs=[.ref p]/\(SqL X.K H p ys∨SqT X.K H p ys)/\Q (.int ys.length) H):=by
 intro pins s σ H xs us Q I r h
 obtain ⟨p,ys,rfl,hq,q⟩:=h
 obtain ⟨u,rfl,rx⟩:=wY r
 cases rx
 have hn:=zAo
 rcases hq with hq | hq
 ·obtain ⟨its,r',pl,hz⟩:=I.list hq
  have hlen:=r'.length
  exact Calls.call_len_list pl.isList (by simp only [List.size_toArray]<;>omega) ⟨.int ys.length,H,I.tok _,⟨s.toks+1,by rw [List.size_toArray,hlen]⟩,q⟩
 ·obtain ⟨its,r',pl,hz⟩:=I.tuple hq
  have hlen:=r'.length
  exact len_tuple pl (by simp only [List.size_toArray]<;>omega) ⟨.int ys.length,H,I.tok _,⟨s.toks+1,by rw [List.size_toArray,hlen]⟩,q⟩
theorem kY:oF X (.type "tuple") (fun xs H Q=>∃ p ys,xs=[.ref p]/\((SqL X.K H p ys/\∀ l,H l=none->Q (.ref l) (upd H l (.tup ys)))∨(SqT X.K H p ys/\Q (.ref p) H))):=by
 intro pins s σ H xs us Q I r h
 obtain ⟨p,ys,rfl,h⟩:=h
 obtain ⟨u,rfl,rx⟩:=wY r
 cases rx
 rcases h with ⟨hq,q⟩ | ⟨hq,q⟩
 ·obtain ⟨its,r',pl,hz⟩:=I.list hq
  have hlen:=r'.length
  refine call_tuple_list pl.isList (fun h' kp=>?_) (by simp only [List.size_toArray]<;>omega)
  have I1:Inv X pins σ H { s with heap:=h' }:=I.kept (t':=s.toks) kp
  have I2:Inv X pins σ (upd H h'.objs.size (.tup ys)) { s with heap:=h'.push { cls:=.type "tuple", data:=.seq its.toArray } }:=
   I1.laid (t':=s.toks) (fun b o e=>Heap.get?_push_of_some _ e) (Nat.le_refl _) (show iS X.prog X.w _ _ _ (.tup ys) from ⟨hz,its,r',IsTup.new _ _⟩)
  exact ⟨.ref h'.objs.size,_,I2,rfl,q _ (I1.hok.fresh (Nat.le_refl _))⟩
 ·obtain ⟨its,r',pl,hz⟩:=I.tuple hq
  exact call_tuple_same pl ⟨.ref p,H,I,rfl,q⟩
def tyV (K:PySem.W.Frag) (T:String) (x:V) (H:Hp):Prop:=match x with
 | .str _=>T = "str"
 | .int _=>T = "int"
 | .ref p=>(T = "list" /\ ∃ xs,SqL K H p xs)∨(T = "tuple" /\ ∃ o,K.lookup p=some o/\o.cls=.type "tuple" /\ o.dict=none)∨
   (T = "dict" /\ ((∃ kvs,H p=some (.dK kvs))∨∃ kvs,H p=some (.dT kvs)))∨(T = "set" /\ ∃ S n,H p=some (.set S n))
 | _=>False
theorem zIl {pins:List (Addr×Obj)} {σ:St} {H:Hp} {s:Shared} {T:String} {x:V} {v:Value} (I:Inv X pins σ H s) (r:bW x v) (ty:tyV X.K T x H):
  s.TypeIs v T/\∀ a,v=.ref a->∃ ob,s.heap.get? a=some ob/\ob.dict=none:=by
 cases x with
 | str z=>
  obtain ⟨t,rfl⟩:=r
  cases (show T = "str" from ty)
  exact ⟨typeIs_str s z t,fun _ e=>nomatch e⟩
 | int i=>
  obtain ⟨t,rfl⟩:=r
  cases (show T = "int" from ty)
  exact ⟨typeIs_int s i t,fun _ e=>nomatch e⟩
 | ref p=>
  cases r
  rcases ty with ⟨rfl,xs,hq⟩ | ⟨rfl,o,hk,hc,hd⟩ | ⟨rfl,hk⟩ | ⟨rfl,S,n,hk⟩
  ·obtain ⟨its,_,pl,_⟩:=I.list hq
   refine ⟨pl.isList.typeIs,fun a e=>?_⟩
   cases e
   obtain ⟨o,n,e,c,hd,_⟩:=pl
   exact ⟨o,e,hd⟩
  ·refine ⟨⟨o,I.kIn p o hk,hc⟩,fun a e=>?_⟩
   cases e
   exact ⟨o,I.kIn _ o hk,hd⟩
  ·have z:∃ o,s.heap.get? p=some o/\o.ExactDict:=by
    rcases hk with ⟨kvs,hk⟩ | ⟨kvs,hk⟩
    ·obtain ⟨_,_,_,_,o,_,_,e,ex,_⟩:=I.hok p _ hk
     exact ⟨o,e,ex⟩
    ·obtain ⟨_,_,_,_,o,_,_,e,ex,_⟩:=I.hok p _ hk
     exact ⟨o,e,ex⟩
   obtain ⟨o,e,ex⟩:=z
   refine ⟨⟨o,e,ex.1⟩,fun a e2=>?_⟩
   cases e2
   exact ⟨o,e,ex.2.1⟩
  ·obtain ⟨o,_,_,_,e,ex,_⟩:=I.hok p _ hk
   refine ⟨⟨o,e,ex.1⟩,fun a e2=>?_⟩
   cases e2
   exact ⟨o,e,ex.2.1⟩
 | _=>exact False.elim ty
abbrev tBM (K:PySem.W.Frag) (T:String) (r:V->List V->Hp->VK->Prop) (to:TE) (t:TA):TE:=fun σ H Q=>to σ H fun x H1=>tyV K T x H1/\t σ H1 fun xs H2=>r x xs H2 Q
variable {o e:Expr} {es:List Expr} {to:TE} {t:TA} {name:Str} {apos cpos:Pos} {T id:String} {r:V->List V->Hp->VK->Prop}
theorem zIY (pa:PlainAttrs T) (slot:Slot T name id) (hty:typeOf (.builtin id)=pure (.type "method_descriptor")) (hm:MtR X id r) (ho:PE X o to) (ha:PA X (e::es) t)
  (hbase:attributeBase o name X.env (eval o X.env)=eval o X.env:=by rfl)
  (hfew:((backTo cpos (starEach (e::es) X.env)).all (fun x=>!x.1) && (backToKw cpos (keywordEach [] X.env)).all (fun x=>x.1.isSome)
   && decide ((e::es).length+([]:List Keyword).length+(if ([]:List Keyword).isEmpty then 0 else 1) < 30))=true:=by rfl)
  (hline:(apos.endLine==cpos.line)=true:=by rfl) (hs:starEach (e::es) X.env=(false,eval e X.env)::starEach es X.env:=by rfl) (hplain:(backTo cpos (starEach es X.env)).any (·.1)=false:=by rfl):
  PE X (.Call (.Attribute o name apos) (e::es) [] cpos) (tBM X.K T r to t):=by
 intro pins s σ H Q I h
 refine wpAny_Call_method_late hbase hfew hline rfl (thn (ho pins s σ H _ I h) fun v s1 ⟨x,H1,I1,r1,ty,q1⟩=>?_)
 obtain ⟨h1,h2⟩:=zIl I1 r1 ty
 refine ⟨T,id,pa,slot,hty,h1,h2,?_⟩
 have hA:=ha cpos pins s1 σ H1 _ I1 q1
 rw [hs] at hA ⊢
 refine Calls.callWith_builtin (by show (false || (backTo cpos (starEach es X.env)).any (·.1))=false;rw [hplain]<;>rfl) (Calls.evalArgs_plain ?_)
 exact thn hA fun us s2 ⟨vs,H2,I2,r2,q2⟩=>hm pins s2 σ H2 x vs v us Q I2 r1 r2 q2
end
end L2
namespace L2
open PySem PySem.Spec PyProof.Rows
def MtM (X:Cx) (id:String) (r:V->List V->Hp->VK->Prop):Prop:=
 ∀ (pins:List (Addr×Obj)) (s:Shared) (σ:St) (H:Hp) (x:V) (xs:List V) (v:Value) (us:List Value) (Q:VK),Inv X pins σ H s->bW x v->cM xs us->r x xs H Q->
  wpAny (model X.prog X.w) X.A (call (.builtin id) (v::us)) (EP X pins σ Q) X.xe s
theorem cM.one:∀ {x:V} {us:List Value},cM [x] us->∃ u,us=[u]/\bW x u
 | _,_,.cons r .nil=>⟨_,rfl,r⟩
theorem cM.rep {xs:List V} {us:List Value} (h:cM xs us):∀ k:Nat,cM (List.replicate k xs).flatten (List.replicate k us).flatten
 | 0=>.nil
 | k+1=>by
  rw [List.replicate_succ,List.replicate_succ,List.flatten_cons,List.flatten_cons]
  exact cM.append h (cM.rep h k)
theorem uY (its:List Value):∀ (k:Nat) (acc:List Value),
  List.foldl (fun x1 x2=>x1++x2) acc.toArray (List.replicate k its.toArray)=(acc++(List.replicate k its).flatten).toArray
 | 0,acc=>by simp
 | k+1,acc=>by
  have e:acc.toArray++its.toArray=(acc++its).toArray:=by simp
  have e2:(acc++its)++(List.replicate k its).flatten=acc++(List.replicate (k+1) its).flatten:=by
   rw [List.replicate_succ,List.flatten_cons,List.append_assoc]
  rw [<-e2,<-uY its k (acc++its),<-e,List.replicate_succ,List.foldl_cons]
section
variable {X:Cx} {pins:List (Addr×Obj)} {σ:St} {H:Hp} {s:Shared} {l b:Addr} {xs ys zs:List V}
theorem Inv.lset {its its':List Value} {n:Nat} {f:Array Value->Array Value} {t':Nat} (I:Inv X pins σ H s) (hH:H l=some (.lst xs))
  (e:s.heap.get? l=some { cls:=.type "list", data:=.seq its.toArray n }) (hf:f its.toArray=its'.toArray) (hv:cM ys its') (hz:ys.length<=sizeLine):
  Inv X pins σ (upd H l (.lst ys)) { s with heap:=s.heap.update l (Obj.mapSeq f),toks:=t' }:=by
 have q:=PySem.IsL.update e f
 rw [hf] at q
 refine I.write (x:=l) (e:=l) (by rw [hH];exact trivial) (.inl rfl) (fun b' u hb hu=>(Heap.get?_update_other s.heap (Obj.mapSeq f) (Ne.symm hb)).trans hu) ⟨_,q⟩ ?_
 exact ⟨hz,its',_,hv,q⟩
theorem Inv.lnew {its:List Value} {t':Nat} (I:Inv X pins σ H s) (hv:cM ys its) (hz:ys.length<=sizeLine):
  Inv X pins σ (upd H s.heap.objs.size (.lst ys)) { s with heap:=s.heap.push { cls:=.type "list", data:=.seq its.toArray },toks:=t' }:=
 I.laid (fun _ _ q=>Heap.get?_push_of_some _ q) (Nat.le_refl _) ⟨hz,its,0,hv,Heap.get?_push_size _ rfl⟩
theorem Inv.fresh (I:Inv X pins σ H s):H s.heap.objs.size=none:=I.hok.fresh (Nat.le_refl _)
theorem Inv.lstM (I:Inv X pins σ H s) (hH:H l=some (.lst xs)):xs.length<=sizeLine/\∃ (its:List Value) (n:Nat),cM xs its/\xs.length=its.length/\s.heap.get? l=some { cls:=.type "list", data:=.seq its.toArray n }:=by
 obtain ⟨z,its,n,r,e⟩:=I.hok l _ hH
 exact ⟨z,its,n,r,r.length,e⟩
theorem zAx {n:Nat} (h:n<=sizeLine):Builtin.List.listTooLong n=false:=by
 unfold Builtin.List.listTooLong
 exact decide_eq_false (by omega)
end
section
variable {X:Cx}
def zHT:V->List V->Hp->VK->Prop:=fun x vs H Q=>∃ l xs y,x=.ref l/\vs=[y]/\H l=some (.lst xs)/\xs.length < sizeLine/\Q .non (upd H l (.lst (xs++[y])))
theorem oX:MtM X "list.append" zHT:=by
 intro pins s σ H x vs v us Q I rx rv h
 obtain ⟨l,xs,y,rfl,rfl,hH,hz,q⟩:=h
 cases rx
 obtain ⟨u,rfl,ru⟩:=rv.one
 obtain ⟨z,its,n,r,hl,e⟩:=I.lstM hH
 refine call_meets F.slot_list_append ⟨_,e,rfl⟩ F.entry_list_append (F.args_list_append_2 _ _) (PySem.list_append l its.toArray n u (by rw [List.size_toArray];omega)) ⟨e,?_⟩
 refine ⟨.non,_,I.lset (its':=its++[u]) hH e (by simp) (r.append (.cons ru .nil)) ?_,rfl,q⟩
 rw [List.length_append,List.length_singleton]
 omega
def zGW:V->List V->Hp->VK->Prop:=fun x vs H Q=>∃ l b xs zs,x=.ref l/\vs=[.ref b]/\H l=some (.lst xs)/\H b=some (.lst zs)/\xs.length+zs.length<=sizeLine/\Q .non (upd H l (.lst (xs++zs)))
theorem zBB:MtM X "list.extend" zGW:=by
 intro pins s σ H x vs v us Q I rx rv h
 obtain ⟨l,b,xs,zs,rfl,rfl,hH,hB,hz,q⟩:=h
 cases rx
 obtain ⟨u,rfl,ru⟩:=rv.one
 cases ru
 obtain ⟨z,its,n,r,hl,e⟩:=I.lstM hH
 obtain ⟨z2,its2,n2,r2,hl2,e2⟩:=I.lstM hB
 have hsz:its.toArray.size+its2.toArray.size<=sizeLine:=by rw [List.size_toArray,List.size_toArray];omega
 have hlong:¬ (!its.toArray.isEmpty && Builtin.List.listTooLong (its.toArray.size+its2.toArray.size))=true:=by
  rw [zAx hsz,Bool.and_false]
  exact Bool.false_ne_true
 refine call_meets F.slot_list_extend ⟨_,e,rfl⟩ F.entry_list_extend (F.args_list_extend_2 _ _)
  (AutoSeq1.list_extend_list_list_0 l its.toArray n b its2.toArray n2 hlong (by rw [List.size_toArray];omega) (by omega)) ⟨e,e2,?_⟩
 refine ⟨.non,_,I.lset (its':=its++its2) hH e (by simp) (r.append r2) ?_,rfl,q⟩
 rw [List.length_append]
 omega
def zMJ:R2:=fun x y H Q=>∃ l k xs,x=.ref l/\y=.int k/\H l=some (.lst xs)/\-(2^63)<=k/\k < 2^63/\xs.length * k.toNat<=sizeLine/\
 ∀ p,H p=none->Q (.ref p) (upd H p (.lst (List.replicate k.toNat xs).flatten))
theorem zHk {α:Type} (xs:List α) (k:Nat):(List.replicate k xs).flatten.length=k * xs.length:=by
 induction k with
 | zero=>simp
 | succ k ih=>rw [List.replicate_succ,List.flatten_cons,List.length_append,ih,Nat.succ_mul,Nat.add_comm]
theorem zKj:OpR X (binaryOp .Mult) zMJ:=by
 intro pins s σ H x y v u Q I rx ry h
 obtain ⟨l,k,xs,rfl,rfl,hH,h1,h2,hz,q⟩:=h
 cases rx
 obtain ⟨t,rfl⟩:=ry
 obtain ⟨z,its,n,r,hl,e⟩:=I.lstM hH
 have hlen:its.toArray.size * k.toNat<=sizeLine:=by rw [List.size_toArray,<-hl];exact hz
 have hcap:¬ its.toArray.size * k.toNat > (2^63 - 1) / 8:=by
  have:(sizeLine:Nat)<=(2^63 - 1) / 8:=by decide
  omega
 have hfit:¬ (!Builtin.List.listFitsIndex k)=true:=by
  rw [fitsIndex_both h1 h2]
  exact Bool.false_ne_true
 have hlong:¬ Builtin.List.listTooLong (its.toArray.size * k.toNat)=true:=by
  rw [zAx hlen]
  exact Bool.false_ne_true
 have hnew:List.foldl (fun x1 x2=>x1++x2) #[] (List.replicate (if its.toArray.isEmpty=true then 0 else k.toNat) its.toArray)=(List.replicate k.toNat its).flatten.toArray:=by
  have f0:∀ m:Nat,List.foldl (fun x1 x2=>x1++x2) #[] (List.replicate m its.toArray)=(List.replicate m its).flatten.toArray:=fun m=>by
   have:=uY its m []
   rw [List.nil_append] at this
   exact this
  rw [f0]
  cases its with
  | nil=>simp
  | cons a r'=>rw [if_neg (by simp)]
 refine wpAny_binaryOp_repeat_ref (T := "list") (U := "int") (by decide) ⟨_,e,rfl⟩ (fun s'=>typeIs_int s' k t) noFill_list_mul F.fills_int_mul F.slot_int_rmul repeat_list F.slot_int_index.lookup
  (call_meets F.slot_int_rmul (typeIs_int s k t) F.entry_int_rmul (F.args_int_rmul_2 _ _) (int___rmul___int_list k t l its.toArray n)
   ⟨e,rfl,⟨_,e,rfl⟩,call_meets F.slot_list_mul ⟨_,e,rfl⟩ F.entry_list_mul (F.args_list_mul_2 _ _) (AutoListH.list___mul___list_int_3 l its.toArray n k t hfit hcap hlong) ⟨e,?_⟩⟩)
 rw [hnew]
 exact ⟨.ref _,_,I.lnew (t':=s.toks) (r.rep k.toNat) (by rw [zHk,Nat.mul_comm];exact hz),rfl,q _ I.fresh⟩
end
section
variable {prog:Program} {w:World} {A:Around} {E:Value->Shared->Prop} {s:Shared}
set_option maxRecDepth 100000 in
end
section
variable {X:Cx}
end
end L2
namespace Att
open PySem PySem.W PySem.Calls PyProof.Rows
theorem pK {P:Params} {h:Heap}:∀ (ns:List Int) (vs:List Value),WellAll P h vs (ns.map WData.int)->IntsAre vs ns:=by
 intro ns
 induction ns with
 | nil=>
  intro vs w
  rw [List.map_nil] at w
  cases w
  exact .nil
 | cons n ns ih=>
  intro vs w
  rw [List.map_cons] at w
  cases w with
  | cons a b=>
   cases a
   exact .cons _ _ (ih _ b)
theorem script_of {l:OpenLaw} {n:Nat} (hn:l.most=some n) {P:Params} {h:Heap} {args:List WData} {vals:List Value}
  (hpre:l.row.toRowW.claim.pre args=true) (hwl:WellAll P h vals args):
  ∃ a vs ns,vals=[Value.ref a]/\args=[WData.list (ns.map WData.int)]/\h.get? a=some { cls:=.type "list", data:=.seq vs.toArray }/\IntsAre vs ns/\ns.length<=n:=by
 have hsh:WShape.hasAll [] args [.list .int]=true:=(pre_splitW hpre).1
 have hc:l.pre.holds [] { args:=args }=true:=(pre_splitW hpre).2
 obtain ⟨d,r,rfl,h1,h2⟩:=hasAllW_cons hsh
 obtain rfl:=hasAllW_nil h2
 obtain ⟨xs,rfl,h3⟩:=hasW_list h1
 obtain ⟨ns,rfl⟩:=items_int h3
 have hlen:ns.length<=n:=by
  unfold OpenLaw.pre at hc
  have h4:(WTm.not (.lt (.lit (.int (n:Int))) (.len (.arg 0)))).holds [] { args:=[.list (ns.map .int)] }=true:=by
   have h4:=(holds_andW hc).1
   rw [hn] at h4
   exact h4
  have h5:=condW_of h4 (w_not (w_lt w_lit (w_len_list (w_arg rfl))))
  rw [List.length_map] at h5
  refine Nat.le_of_not_lt fun q=>?_
  have q':(n:Int) < ((ns.length:Nat):Int):=by omega
  first
   | (rw [decide_eq_true q'] at h5;exact absurd h5 (by decide))
   | (simp at h5;omega)
 cases hwl with
 | cons w1 w2=>
  cases w2
  cases w1 with
  | list ho hall=>exact ⟨_,_,ns,rfl,rfl,ho,pK ns _ hall,hlen⟩
theorem post_true (l:OpenLaw) (args:List WData):l.row.toRowW.claim.post args (.bool true) args=true:=
 postW_of (r:=l.row.toRowW) (X:=(true==true))
  (show WShape.has [] (.bool true) .bool=true by first | rfl | decide | simp [WShape.has,WShape.arms,WShape.armsAll])
  (show (WTm.eq .res (.lit (.bool true))).value [] { args:=args,res:=some (.bool true),after:=args }=some (.bool (true==true)) from w_eq_bool (w_res rfl) w_lit) rfl
section
variable {prog:Program} {w:World} {A:Around} {E:Value->Shared->Prop} {s:Shared} {K:Frag}
end
end Att
namespace L2
open PySem PySem.Spec PyProof.Rows
theorem vJ:∀ {vs:List Value} {ns:List Int},IntsAre vs ns->cM (ns.map V.int) vs
 | _,_,.nil=>.nil
 | _,_,.cons n t h=>.cons ⟨t,rfl⟩ (vJ h)
def zMQ (H:Hp):Prop:=∀ b,H b=none∨∃ o xs,H b=some (.frz o (.lst xs))
end L2
namespace L2
open PySem PySem.Spec PyProof.Rows
end L2
namespace L2
open PySem PySem.Spec PyProof.Rows
def gA (s:Stmt):Arguments:=match s with
 | .FunctionDef _ a _ _ _ _ _ _ _ _=>a
 | _=>{ posonlyargs:=[],args:=[],vararg:=none,kwonlyargs:=[],kw_defaults:=[],kwarg:=none,defaults:=[] }
def cS (s:Stmt):List Stmt:=match s with
 | .FunctionDef _ _ b _ _ _ _ _ _ _=>b
 | _=>[]
def aD (s:Stmt):Scope:=match s with
 | .FunctionDef _ _ _ _ _ _ sc _ _ _=>sc
 | _=>{ kind:=.function,names:=[],isGenerator:=false,isCoroutine:=false }
structure Fun (K:PySem.W.Frag) (x qual:Str) (st:Stmt) (f:Addr) (fd:FuncData):Prop where
 ex:∃ (oc:Value) (od:Option Addr) (kV doc pm:Value) (an:Option Addr) (cdv ct:Value) (osl:Array (Option Value)),
  fd=PySem.W.fnOf x qual (gA st) (cS st) (aD st) .none kV doc pm an cdv ct/\K.lookup f=some ⟨oc,od,.func fd,osl⟩/\PySem.W.codeIn K cdv qual=true
 kp:PySem.W.keepIn K (.ref f)=true
section
variable {P:Program} {w:World} {K:PySem.W.Frag} {mg:Str->Option Value} {base:Heap}
theorem Fun.binds {x qual:Str} {st:Stmt} {f:Addr} {fd:FuncData} {ps:List Str} (F:Fun K x qual st f fd)
  (h:∀ (kV doc pm:Value) (an:Option Addr) (cdv ct:Value) (us:List Value),us.length=ps.length->bindArgs (PySem.W.fnOf x qual (gA st) (cS st) (aD st) .none kV doc pm an cdv ct) ⟨us,[]⟩=pure (ps.zip us)):vH K fd ps []:=by
 obtain ⟨oc,od,kV,doc,pm,an,cdv,ct,osl,rfl,lk,hcd⟩:=F.ex
 exact .all (h kV doc pm an cdv ct)
theorem qU {x qual:Str} {st:Stmt} {f:Addr} {oc:Value} {od an:Option Addr} {osl:Array (Option Value)} {kV doc pm cdv ct:Value} (l:K.lookup f=some ⟨oc,od,.func (PySem.W.fnOf x qual (gA st) (cS st) (aD st) .none kV doc pm an cdv ct),osl⟩)
  (c:PySem.W.codeIn K cdv qual=true) (k:PySem.W.keepIn K (.ref f)=true):Fun K x qual st f (PySem.W.fnOf x qual (gA st) (cS st) (aD st) .none kV doc pm an cdv ct):=⟨⟨oc,od,kV,doc,pm,an,cdv,ct,osl,rfl,l,c⟩,k⟩
end
section
variable {X:Cx}
theorem pv (i:Nat) {x:Str} {pos:Pos} (hN:X.N[i]?=some x:=by rfl) (hv:Vis X.env.scope x:=by first | exact Or.inl rfl | exact Or.inr (Or.inl rfl) | exact Or.inr (Or.inr rfl)) (hd:(x==("__debug__" : Str))=false:=by decide)
  (hcd:(x==("__classdict__" : Str))=false:=by decide):PE X (.Name x pos) (zAb i):=pJ hN hv hd hcd
end
def Same (H H':Hp):Prop:=∀ b o,H b=some o->H' b=some o
theorem Same.refl (H:Hp):Same H H:=fun _ _ h=>h
theorem Same.trans {H H1 H2:Hp} (a:Same H H1) (b:Same H1 H2):Same H H2:=fun c o h=>b c o (a c o h)
end L2
set_option maxHeartbeats 4000000
set_option exponentiation.threshold 20000
namespace L2
open PySem PySem.Spec PyProof.Rows
section
variable {X:Cx}
variable {tg:Expr}
end
end L2
namespace L2
open PySem PySem.Spec PyProof.Rows
end L2
namespace L2
open PySem PySem.Spec PyProof.Rows
section
variable {P:Program} {w:World} {H H':Hp} {h:Heap} {a:Addr} {o:HO}
theorem iS.here (x:iS P w H h a o):∃ ob,h.get? a=some ob:=by
 cases o with
 | lst xs=>obtain ⟨_,_,_,_,e⟩:=x;exact ⟨_,e⟩
 | tup xs=>obtain ⟨_,_,_,e⟩:=x;obtain ⟨ob,e,_⟩:=e;exact ⟨_,e⟩
 | dK kvs=>obtain ⟨_,_,_,_,e⟩:=x;obtain ⟨ob,_,_,e,_⟩:=e;exact ⟨_,e⟩
 | dT kvs=>obtain ⟨_,_,_,_,ob,_,_,e,_⟩:=x;exact ⟨_,e⟩
 | set S n=>obtain ⟨ob,_,_,_,e,_⟩:=x;exact ⟨_,e⟩
 | ins C dx fs=>obtain ⟨_,_,_,e,_⟩:=x;exact ⟨_,e⟩
 | own y=>exact x
 | xd fs=>obtain ⟨_,⟨ob,_,_,e,_⟩,_⟩:=x;exact ⟨_,e⟩
 | met f y=>exact ⟨_,x⟩
 | rng lo hi=>obtain ⟨_,_,_,e⟩:=x;exact ⟨_,e⟩
 | frz ob u=>exact ⟨_,x.1⟩
 | tbl ps=>exact ⟨_,x⟩
 | ext φ=>exact x.2.1
theorem HOk.none_of (ok:HOk P w H h) (e:h.get? a=none):H a=none:=by
 cases q:H a with
 | none=>rfl
 | some o=>
  obtain ⟨ob,z⟩:=(ok a o q).here
  rw [e] at z;cases z
end
structure Fly (P:Program) (w:World) (l:List Env) (H H':Hp) (s:Shared) (ea:Addr) (cls:Value) (s':Shared):Prop where
 os:s'.os=s.os
 bare:AllBare s'.gens
 un:Un (frs l) [] H H' s.heap s'.heap
 hok:HOk P w H' s'.heap
 ne:H' ea=none
 new:s.heap.get? ea=none
 fly:∃ B a0,Heap.FlyingW B l ea cls a0 s'.heap/\(∀ b o,s'.heap.get? b=some o->((∃ o',s.heap.get? b=some o')∨H' b≠none)->b∉frs l->B.get? b=some o)
def CX1 (P:Program) (w:World):CXT:=fun outer H s E e s'=>∃ ea cls H',e=.ref ea/\Fly P w outer H H' s ea cls s'/\E cls none H'
structure Own (X:Cx):Prop where
 stk:X.stack=X.env::X.outer
 fr:X.env.frame=some X.env.locals
 ex:X.ex=[]
section
variable {X:Cx} {pins:List (Addr×Obj)} {σ:St} {H H':Hp} {s s':Shared} {ea:Addr} {cls:Value}
theorem zX (O:Own X):frs X.stack=X.env.locals::X.fs:=by
 rw [O.stk]
 show List.filterMap _ (_::_)=_
 rw [List.filterMap_cons,O.fr]
 rfl
theorem Inv.there0 (I:Inv X pins σ H s) (O:Own X) {b:Addr} {o:Obj} (e:X.s₀.heap.get? b=some o):∃ o',s.heap.get? b=some o':=I.base.there b o e (by rw [O.ex];simp)
theorem Inv.ne0 (I:Inv X pins σ H s) {b:Addr} {o:Obj} (e:X.s₀.heap.get? b=some o):b≠X.env.locals:=Nat.ne_of_lt (Nat.lt_of_lt_of_le (Heap.lt_size e) I.ok.above)
theorem Fly.leave (I:Inv X pins σ H s) (O:Own X) (F:Fly X.prog X.w X.stack H H' s ea cls s') {h':Heap} {B:Heap} {a0:Value}
  (hf:Heap.FlyingW B X.stack ea cls a0 s'.heap) (cov:∀ b o,s'.heap.get? b=some o->((∃ o',s.heap.get? b=some o')∨H' b≠none)->b∉frs X.stack->B.get? b=some o)
  (hf':Heap.FlyingW B X.outer ea cls a0 h') (up:s'.heap.UpToSlots h'):Fly X.prog X.w X.outer X.H₀ H' X.s₀ ea cls { s' with heap:=h' }:=by
 have fst:frs X.stack=X.env.locals::X.fs:=zX O
 have nin:∀ {b:Addr},b≠X.env.locals->b∉X.fs->b∉frs X.stack:=fun h1 h2=>by rw [fst];simp [h1,h2]
 have trk:∀ {b:Addr},H' b≠none->b∉frs X.stack:=fun {b} hb hm=>by
  have h1:=I.stkFree b hm
  obtain ⟨_,o,ho,_⟩:=I.stack.mem hm
  exact hb (F.un.free b o ho h1 (by simp))
 have keepB:∀ {b:Addr} {o:Obj},s'.heap.get? b=some o->((∃ o',s.heap.get? b=some o')∨H' b≠none)->b∉frs X.stack->h'.get? b=some o:=fun e1 e2 e3=>hf'.1 _ _ (cov _ _ e1 e2 e3)
 have slotOf:∀ {b:Addr} {o:Obj},b∈frs X.stack->s'.heap.get? b=some o->∃ sl,h'.get? b=some { o with slots:=sl }:=fun {b o} hm e=>by
  obtain ⟨_,o',ho',hn⟩:=hf.2.2.1.mem hm
  rw [e] at ho';cases ho'
  exact up b o e hn
 refine ⟨F.os.trans I.os,F.bare,⟨?_,?_,?_,?_,?_,?_,?_⟩,?_,F.ne,?_,⟨B,a0,hf',?_⟩⟩
 ·intro b o e n hb hx
  have e1:=I.base.keep b o e n hb (by rw [O.ex];simp)
  have n1:=I.base.free b o e n (by rw [O.ex];simp)
  have hs:b∉frs X.stack:=nin (I.ne0 e) hb
  exact keepB (F.un.keep b o e1 n1 hs (by simp)) (.inl ⟨o,e1⟩) hs
 ·intro b o e n hb hx
  obtain ⟨sl,e1⟩:=I.base.slot b o e n hb (by rw [O.ex];simp)
  have n1:=I.base.free b o e n (by rw [O.ex];simp)
  have hs:b∈frs X.stack:=by rw [fst];exact List.mem_cons_of_mem _ hb
  obtain ⟨sl2,e2⟩:=F.un.slot b _ e1 n1 hs (by simp)
  obtain ⟨sl3,e3⟩:=slotOf hs e2
  exact ⟨sl3,e3⟩
 ·intro b o e n hx
  obtain ⟨o1,e1⟩:=I.there0 O e
  exact F.un.free b o1 e1 (I.base.free b o e n (by rw [O.ex];simp)) (by simp)
 ·intro b o e hx
  obtain ⟨o1,e1⟩:=I.there0 O e
  obtain ⟨o2,e2⟩:=F.un.there b o1 e1 (by simp)
  by_cases hs:b∈frs X.stack
  ·obtain ⟨sl,e3⟩:=slotOf hs e2
   exact ⟨_,e3⟩
  ·exact ⟨o2,keepB e2 (.inl ⟨o1,e1⟩) hs⟩
 ·exact fun b xs e=>F.un.tups b xs (I.base.tups b xs e)
 ·exact fun b o u e=>F.un.frzs b o u (I.base.frzs b o u e)
 ·intro b ps e
  obtain ⟨m1,e1⟩:=I.base.tbls b ps e
  obtain ⟨m2,e2⟩:=F.un.tbls b _ e1
  exact ⟨m1++m2,by rw [e2,Array.append_assoc]⟩
 ·intro a o e
  refine (F.hok a o e).stay (fun b u hb z=>?_) (fun b z=>z) (fun b xs z=>z)
  have hb':H' b≠none:=by
   rcases hb with rfl | hb
   ·rw [e];simp
   ·rw [hb];simp
  exact keepB z (.inr hb') (trk hb')
 ·show X.s₀.heap.get? ea=none
  cases q:X.s₀.heap.get? ea with
  | none=>rfl
  | some o=>
   obtain ⟨o1,e1⟩:=I.there0 O q
   rw [F.new] at e1;cases e1
 ·intro b o e c hb
  have c':(∃ o',s.heap.get? b=some o')∨H' b≠none:=by
   rcases c with ⟨o',c⟩ | c
   ·exact .inl (I.there0 O c)
   ·exact .inr c
  have hs:b∉frs X.stack:=by
   rcases c with ⟨o',c⟩ | c
   ·exact nin (I.ne0 c) hb
   ·exact trk c
  have ex:∃ o2,s'.heap.get? b=some o2:=by
   rcases c' with ⟨o',c1⟩ | c1
   ·exact F.un.there b o' c1 (by simp)
   ·cases q:H' b with
    | none=>exact absurd q c1
    | some u=>exact (F.hok b u q).here
  obtain ⟨o2,e2⟩:=ex
  have z:=keepB e2 c' hs
  have z':h'.get? b=some o:=e
  rw [z] at z';cases z'
  exact cov b o e2 c' hs
end
end L2
namespace L2
open PySem PySem.Spec PyProof.Rows
section
variable {X:Cx} {pins:List (Addr×Obj)} {σ:St} {H H':Hp} {s s':Shared} {ea:Addr} {cls:Value}
theorem zKH (l:List Env):∀ env∈l,∀ b,env.frame=some b->b∈frs l:=fun env he b hb=>List.mem_filterMap.mpr ⟨env,he,hb⟩
theorem Fly.made (I:Inv X pins σ H s) (O:Own X) {vs:List Value} (hx:Heap.MadeExcOf s.heap s'.heap ea cls vs) (hos:s'.os=s.os) (hg:AllBare s'.gens) {h':Heap} {t:Addr}
  (hf':Heap.FlyingW (PySem.W.hideAll s.heap (frs X.stack)) X.outer ea cls (.ref t) h') (up:s'.heap.UpToSlots h'):Fly X.prog X.w X.outer X.H₀ H X.s₀ ea cls { s' with heap:=h' }:=by
 have fst:frs X.stack=X.env.locals::X.fs:=zX O
 have nin:∀ {b:Addr},b≠X.env.locals->b∉X.fs->b∉frs X.stack:=fun h1 h2=>by rw [fst];simp [h1,h2]
 have trk:∀ {b:Addr},H b≠none->b∉frs X.stack:=fun {b} hb hm=>hb (I.stkFree b hm)
 have keepB:∀ {b:Addr} {o:Obj},s.heap.get? b=some o->b∉frs X.stack->h'.get? b=some o:=fun e1 e3=>hf'.1 _ _ (PySem.W.hideAll_get _ e1 e3)
 have slotOf:∀ {b:Addr} {o:Obj},b∈frs X.stack->s.heap.get? b=some o->∃ sl,h'.get? b=some { o with slots:=sl }:=fun {b o} hm e=>by
  obtain ⟨_,o',ho',hn⟩:=I.stack.mem hm
  rw [e] at ho';cases ho'
  exact up b o (hx.keeps b o e) hn
 refine ⟨hos.trans I.os,hg,⟨?_,?_,?_,?_,?_,?_,?_⟩,?_,?_,?_,⟨_,_,hf',?_⟩⟩
 ·intro b o e n hb hx'
  exact keepB (I.base.keep b o e n hb (by rw [O.ex];simp)) (nin (I.ne0 e) hb)
 ·intro b o e n hb hx'
  obtain ⟨sl,e1⟩:=I.base.slot b o e n hb (by rw [O.ex];simp)
  have hs:b∈frs X.stack:=by rw [fst];exact List.mem_cons_of_mem _ hb
  obtain ⟨sl3,e3⟩:=slotOf hs e1
  exact ⟨sl3,e3⟩
 ·exact fun b o e n hx'=>I.base.free b o e n (by rw [O.ex];simp)
 ·intro b o e hx'
  obtain ⟨o1,e1⟩:=I.there0 O e
  by_cases hs:b∈frs X.stack
  ·obtain ⟨sl,e3⟩:=slotOf hs e1
   exact ⟨_,e3⟩
  ·exact ⟨o1,keepB e1 hs⟩
 ·exact fun b xs e=>I.base.tups b xs e
 ·exact fun b o u e=>I.base.frzs b o u e
 ·exact fun b ps e=>I.base.tbls b ps e
 ·intro a o e
  refine (I.hok a o e).stay (fun b u hb z=>?_) (fun b z=>z) (fun b xs z=>z)
  have hb':H b≠none:=by
   rcases hb with rfl | hb
   ·rw [e];simp
   ·rw [hb];simp
  exact keepB z (trk hb')
 ·exact I.hok.none_of hx.new
 ·show X.s₀.heap.get? ea=none
  cases q:X.s₀.heap.get? ea with
  | none=>rfl
  | some o=>
   obtain ⟨o1,e1⟩:=I.there0 O q
   rw [hx.new] at e1;cases e1
 ·intro b o e c hb
  have hs:b∉frs X.stack:=by
   rcases c with ⟨o',c⟩ | c
   ·exact nin (I.ne0 c) hb
   ·exact trk c
  have ex:∃ o2,s.heap.get? b=some o2:=by
   rcases c with ⟨o',c1⟩ | c1
   ·exact I.there0 O c1
   ·cases q:H b with
    | none=>exact absurd q c1
    | some u=>exact (I.hok b u q).here
  obtain ⟨o2,e2⟩:=ex
  have z:=keepB e2 hs
  have z':h'.get? b=some o:=e
  rw [z] at z';cases z'
  exact PySem.W.hideAll_get _ e2 hs
end
section
variable {CX:CXT} {P:Program} {w:World} {K:PySem.W.Frag} {mg:Str->Option Value} {base:Heap} {N:List Str} {qual:Str} {scope:Scope} {f:Addr} {cd:Value} {A:Around} {outer:List Env} {s₀:Shared} {H₀:Hp} {E:XK}
theorem zFL:Own (zAJ CX P w K mg base N qual scope f cd A outer s₀ H₀ E):=⟨rfl,rfl,rfl⟩
theorem zLn {E':XK} (h:∀ c H',E' c none H'->E c none H'):zAg (CX1 P w) (zAJ (CX1 P w) P w K mg base N qual scope f cd A outer s₀ H₀ E) E':=by
 intro pins σ H s e s' I hc
 obtain ⟨ea,cls,H',rfl,F,q⟩:=hc
 obtain ⟨B,a0,hf,cov⟩:=F.fly
 have O:Own (zAJ (CX1 P w) P w K mg base N qual scope f cd A outer s₀ H₀ E):=zFL
 exact wpAny_leaves_onW (I.ok.frames.trans (congrArg some O.stk)) O.fr hf fun h' hf' up=>⟨ea,cls,H',rfl,F.leave I O hf cov hf' up,h _ _ q⟩
theorem wT {pins:List (Addr×Obj)} {σ:St} {H:Hp} {s s':Shared} {ea:Addr} {cls:Value} {vs:List Value} (I:Inv (zAJ (CX1 P w) P w K mg base N qual scope f cd A outer s₀ H₀ E) pins σ H s)
  (hx:Heap.MadeExcOf s.heap s'.heap ea cls vs) (hos:s'.os=s.os) (hg:AllBare s'.gens) (q:E cls none H):(zAJ (CX1 P w) P w K mg base N qual scope f cd A outer s₀ H₀ E).xe (.ref ea) s':=by
 have O:Own (zAJ (CX1 P w) P w K mg base N qual scope f cd A outer s₀ H₀ E):=zFL
 have hst:=O.stk
 exact wpAny_leaves_madeW (base:=PySem.W.hideAll s.heap (frs (zAJ (CX1 P w) P w K mg base N qual scope f cd A outer s₀ H₀ E).stack)) (h:=s.heap) (I.ok.frames.trans (congrArg some O.stk)) O.fr (fun b o z=>PySem.W.of_hideAll _ z)
  (PySem.W.funFrames_hide (I.stack) (zKH _)) hx fun h' t hf' _ _ up=>⟨ea,cls,H,rfl,Fly.made I O hx hos hg hf' up,q⟩
end
structure Err (K:PySem.W.Frag) (mg:Str->Option Value) (x:Str) (C:Addr):Prop where
 own:∀ h:Heap,K.In h->∃ bm newId B initId,OwnCls x C bm newId mg h/\ExcBaseFacts B newId initId bm
end L2
namespace L3
open PySem
inductive D where
 | non | bl (b:Bool) | int (i:Int) | str (x:Str) | tup (ds:List D) | lst (ds:List D)
inductive Res (α:Type) where
 | ok (a:α) | err (c:Str) | no
def Res.bind {α β:Type} (x:Res α) (f:α->Res β):Res β:=match x with
 | .ok a=>f a
 | .err c=>.err c
 | .no=>.no
theorem Res.ok_bind {α β:Type} {a:α} {f:α->Res β}:(Res.ok a).bind f=f a:=rfl
inductive Sl where
 | un | val (d:D) | own (ds:List D) | exc (c:Str) | tab (T:List (Str×Str))
abbrev Rho:=List Sl
inductive Rt where
 | v (d:D) | f (ds:List D)
def Rt.d:Rt->D
 | .v d=>d
 | .f ds=>.lst ds
inductive Fl where
 | nx (ρ:Rho) | ret (r:Rt) | brk (ρ:Rho) | ctn (ρ:Rho)
abbrev Ev:=Rho->Res D
abbrev Fv:=Rho->Res (List D)
abbrev Tv:=Rho->Res Bool
abbrev Sv:=Rho->Res Fl
abbrev Mir:=List D->Res Rt
mutual
def eqD:D->D->Bool
 | .non,.non=>true
 | .bl a,.bl b=>a==b
 | .bl a,.int b=>(if a then 1 else 0)==b
 | .int a,.bl b=>a==(if b then 1 else 0)
 | .int a,.int b=>a==b
 | .str a,.str b=>a==b
 | .tup ds,.tup es=>zDP ds es
 | .lst ds,.lst es=>zDP ds es
 | _,_=>false
def zDP:List D->List D->Bool
 | [],[]=>true
 | d::ds,e::es=>eqD d e && zDP ds es
 | _,_=>false
end
mutual
def dep:D->Nat
 | .tup ds=>depS ds+1
 | .lst ds=>depS ds+1
 | _=>0
def depS:List D->Nat
 | []=>0
 | d::ds=>max (dep d) (depS ds)
end
mutual
def noL:D->Bool
 | .tup ds=>noLs ds
 | .lst _=>false
 | _=>true
def noLs:List D->Bool
 | []=>true
 | d::ds=>noL d && noLs ds
end
theorem oM:∀ {ds:List D} {d:D},d∈ds->dep d<=depS ds
 | e::ds,d,h=>by
  rw [depS]
  rcases List.mem_cons.mp h with rfl | h
  ·exact Nat.le_max_left ..
  ·exact Nat.le_trans (oM h) (Nat.le_max_right ..)
theorem zK:∀ {ds:List D},noLs ds=true ↔ ∀ d∈ds,noL d=true
 | []=>by simp [noLs]
 | d::ds=>by rw [noLs,Bool.and_eq_true,zK];simp
theorem jC:∀ (ds es:List D),zDP ds es=((List.range (min ds.length es.length)).all (fun j=>eqD (ds.getD j .non) (es.getD j .non)) && ds.length==es.length)
 | [],[]=>rfl
 | [],e::es=>by simp [zDP]
 | d::ds,[]=>by simp [zDP]
 | d::ds,e::es=>by
  rw [zDP,jC ds es]
  have h:min (d::ds).length (e::es).length=min ds.length es.length+1:=by simp only [List.length_cons];omega
  rw [h,List.range_succ_eq_map]
  simp [List.all_map,Function.comp_def,Bool.and_assoc]
mutual
theorem rX:∀ d:D,eqD d d=true
 | .non=>rfl
 | .bl b=>by simp [eqD]
 | .int i=>by simp [eqD]
 | .str x=>by simp [eqD]
 | .tup ds=>by rw [eqD];exact pF ds
 | .lst ds=>by rw [eqD];exact pF ds
theorem pF:∀ ds:List D,zDP ds ds=true
 | []=>rfl
 | d::ds=>by rw [zDP,rX d,pF ds];rfl
end
def nb (i:Int):Nat:=i.natAbs.log2+1
theorem zHw (i:Int):i.natAbs < 2^nb i:=Nat.lt_log2_self
theorem zLr {i:Int} {m:Nat} (h:i.natAbs < 2^m) (hm:0 < m):nb i<=m:=by
 unfold nb
 by_cases h0:i.natAbs=0
 ·rw [h0];exact hm
 ·exact (Nat.log2_lt h0).mpr h
def fM (i j:Int):Bool:=(decide (-(2^64) < i) && decide (i < 2^64)) || (decide (-(2^64) < j) && decide (j < 2^64)) || decide (nb i+nb j<=134217728)
def iL (j:Int):Bool:=decide (j≠0) && decide (nb j<=9000)
def nQ (i j:Int):Bool:=decide (0<=j) && decide ((nb i:Int) * j<=2^27)
abbrev Op2:=D->D->Res D
def oU:Op2
 | .int i,.int j=>.ok (.int (i+j))
 | .tup a,.tup b=>if a.length+b.length<=16777216 then .ok (.tup (a++b)) else .no
 | _,_=>.no
def zMK:Op2
 | .int i,.int j=>.ok (.int (i+j))
 | _,_=>.no
def zAr:Op2
 | .int i,.int j=>.ok (.int (i - j))
 | _,_=>.no
def oC:Op2
 | .int i,.int j=>if fM i j=true then .ok (.int (i * j)) else .no
 | _,_=>.no
def yJ:Op2
 | .int i,.int j=>if iL j=true then .ok (.int (i.fdiv j)) else .no
 | _,_=>.no
def rK:Op2
 | .int i,.int j=>if j≠0 then .ok (.int (i.fmod j)) else .no
 | _,_=>.no
def zDR:Op2
 | .int i,.int j=>if nQ i j=true then .ok (.int (i^j.toNat)) else .no
 | _,_=>.no
def oEq (x y:D):Res D:=if dep x<=50 then .ok (.bl (eqD x y)) else .no
def oNe (x y:D):Res D:=if dep x<=50 then .ok (.bl (!eqD x y)) else .no
def oLt:Op2
 | .int i,.int j=>.ok (.bl (decide (i < j)))
 | _,_=>.no
def oLe:Op2
 | .int i,.int j=>.ok (.bl (decide (i<=j)))
 | _,_=>.no
def oGt:Op2
 | .int i,.int j=>.ok (.bl (decide (j < i)))
 | _,_=>.no
def oGe:Op2
 | .int i,.int j=>.ok (.bl (decide (j<=i)))
 | _,_=>.no
def atD (ds:List D) (i:Int):Option D:=if 0<=i then ds[i.toNat]? else if 0<=(ds.length:Int)+i then ds[((ds.length:Int)+i).toNat]? else none
def ofO {α:Type}:Option α->Res α
 | some a=>.ok a
 | none=>.no
def oIx:Op2
 | .tup ds,.int i=>ofO (atD ds i)
 | .lst ds,.int i=>ofO (atD ds i)
 | _,_=>.no
def oIn:Op2
 | d,.lst ds=>if depS ds<=50 then .ok (.bl (ds.any fun e=>eqD e d)) else .no
 | d,.tup ds=>if depS ds<=50 then .ok (.bl (ds.any fun e=>eqD e d)) else .no
 | _,_=>.no
def zKd:D->Res D
 | .int i=>.ok (.int (-i))
 | _=>.no
def zMM:D->Res D
 | .bl b=>.ok (.bl (!b))
 | _=>.no
def aE (i:Nat) (ρ:Rho):Res D:=match ρ[i]? with
 | some (.val d)=>.ok d
 | _=>.no
def eC (d:D) (_ρ:Rho):Res D:=.ok d
def eOp (o:Op2) (a b:Ev) (ρ:Rho):Res D:=(a ρ).bind fun x=>(b ρ).bind fun y=>o x y
def eUn (o:D->Res D) (a:Ev) (ρ:Rho):Res D:=(a ρ).bind o
def zKR (a b:Ev) (ρ:Rho):Res D:=(a ρ).bind fun x=>match x with
 | .bl c=>if c=true then b ρ else .ok (.bl false)
 | _=>.no
def eOr (a b:Ev) (ρ:Rho):Res D:=(a ρ).bind fun x=>match x with
 | .bl c=>if c=true then .ok (.bl true) else b ρ
 | _=>.no
def eIf (t:Tv) (a b:Ev) (ρ:Rho):Res D:=(t ρ).bind fun c=>if c=true then a ρ else b ρ
def aNil (_ρ:Rho):Res (List D):=.ok []
def aB (e:Ev) (r:Fv) (ρ:Rho):Res (List D):=(e ρ).bind fun d=>(r ρ).bind fun ds=>.ok (d::ds)
def zFT (a:Fv) (ρ:Rho):Res D:=(a ρ).bind fun ds=>if ds.length<=16777216 then .ok (.tup ds) else .no
def aV (m:Mir) (a:Fv) (ρ:Rho):Res D:=(a ρ).bind fun ds=>(m ds).bind fun r=>.ok r.d
def kQ:List D->Res D
 | [.lst ds]=>.ok (.int ds.length)
 | [.tup ds]=>.ok (.int ds.length)
 | _=>.no
def zGt:List D->Res D
 | [.int i]=>.ok (.int (if i < 0 then -i else i))
 | _=>.no
def zMW:List D->Res D
 | [.int i,.int j]=>.ok (.int (if j > i then j else i))
 | _=>.no
def zIt:List D->Res D
 | [.int i,.int j]=>.ok (.int (if j < i then j else i))
 | _=>.no
def zFY:List D->Res D
 | [.lst ds]=>.ok (.tup ds)
 | [.tup ds]=>.ok (.tup ds)
 | _=>.no
def eB (b:List D->Res D) (a:Fv) (ρ:Rho):Res D:=(a ρ).bind b
def tyN:D->String
 | .non => "NoneType" | .bl _ => "bool" | .int _ => "int" | .str _ => "str" | .tup _ => "tuple" | .lst _ => "list"
def isT (T:String) (d:D):Bool:=tyN d==T || (T == "int" && tyN d == "bool")
def zJT (T:String) (a:Ev) (ρ:Rho):Res D:=(a ρ).bind fun d=>.ok (.bl (isT T d))
def isNon:D->Bool
 | .non=>true
 | _=>false
def Sl.frz:Sl->Sl
 | .own ds=>.val (.lst ds)
 | s=>s
def zIi (e:Ev) (ρ:Rho):Res D:=(e (ρ.map Sl.frz)).bind fun d=>if noL d=true then .ok d else .no
def wC (a:Fv) (ρ:Rho):Res (List D):=(a ρ).bind fun ds=>if ds.length<=16777216 then .ok ds else .no
def eQ (m:Mir) (a:Fv) (ρ:Rho):Res (List D):=(a ρ).bind fun ds=>(m ds).bind fun r=>match r with
 | .f ds=>.ok ds
 | .v _=>.no
def zLH (a:Fv) (ρ:Rho):Res (List D):=(a ρ).bind fun ds=>match ds with
 | [.lst ds]=>.ok ds
 | [.tup ds]=>.ok ds
 | _=>.no
def zKY (a b:Ev) (ρ:Rho):Res (List D):=(a ρ).bind fun x=>(b ρ).bind fun y=>match x,y with
 | .lst ds,.lst es=>if ds.length+es.length<=16777216 then .ok (ds++es) else .no
 | _,_=>.no
def eF (f:Fv) (ρ:Rho):Res D:=(f ρ).bind fun ds=>.ok (.lst ds)
def zGL (f:Fv) (ρ:Rho):Res (List D):=(f (ρ.map Sl.frz)).bind fun ds=>if noLs ds=true then .ok ds else .no
def cut (n:Nat) (i:Option Int) (d:Nat):Nat:=match i with
 | none=>d
 | some i=>if 0<=i then min i.toNat n else ((n:Int)+i).toNat
def dY (ds:List D) (lo hi:Option Int):List D:=(ds.drop (cut ds.length lo 0)).take (cut ds.length hi ds.length - cut ds.length lo 0)
abbrev Ov:=Rho->Res (Option Int)
def oN (_ρ:Rho):Res (Option Int):=.ok none
def oS (e:Ev) (ρ:Rho):Res (Option Int):=(e ρ).bind fun d=>match d with
 | .int i=>.ok (some i)
 | _=>.no
def fSl (a:Ev) (lo hi:Ov) (ρ:Rho):Res (List D):=(a ρ).bind fun x=>(lo ρ).bind fun l=>(hi ρ).bind fun h=>match x with
 | .lst ds=>.ok (dY ds l h)
 | _=>.no
def zMY (a:Ev) (lo hi:Ov) (ρ:Rho):Res D:=(a ρ).bind fun x=>(lo ρ).bind fun l=>(hi ρ).bind fun h=>match x with
 | .tup ds=>if (dY ds l h).length < ds.length then .ok (.tup (dY ds l h)) else .no
 | _=>.no
def eX (e:Ev) (ρ:Rho):Res Bool:=(e ρ).bind fun d=>match d with
 | .bl b=>.ok b
 | _=>.no
def xV (t:Tv) (ρ:Rho):Res Bool:=(t ρ).bind fun b=>.ok (!b)
def zAP (t u:Tv) (ρ:Rho):Res Bool:=(t ρ).bind fun b=>if b=true then u ρ else .ok false
def zBg (t u:Tv) (ρ:Rho):Res Bool:=(t ρ).bind fun b=>if b=true then .ok true else u ρ
def sNext (ρ:Rho):Res Fl:=.ok (.nx ρ)
def bP (a b:Sv) (ρ:Rho):Res Fl:=(a ρ).bind fun f=>match f with
 | .nx ρ'=>b ρ'
 | f=>.ok f
def sIf (t:Tv) (a b:Sv) (ρ:Rho):Res Fl:=(t ρ).bind fun c=>if c=true then a ρ else b ρ
def fL (i:Nat) (e:Ev) (ρ:Rho):Res Fl:=(e ρ).bind fun d=>.ok (.nx (ρ.set i (.val d)))
def zBf (i:Nat) (f:Fv) (ρ:Rho):Res Fl:=(f ρ).bind fun ds=>.ok (.nx (ρ.set i (.own ds)))
def pQ (e:Ev) (ρ:Rho):Res Fl:=(e ρ).bind fun _=>.ok (.nx ρ)
def iM (e:Ev) (ρ:Rho):Res Fl:=(e (ρ.map Sl.frz)).bind fun d=>.ok (.ret (.v d))
def jO (f:Fv) (ρ:Rho):Res Fl:=(f (ρ.map Sl.frz)).bind fun ds=>.ok (.ret (.f ds))
def fX (i:Nat) (ρ:Rho):Res Fl:=match ρ[i]? with
 | some (.own ds)=>.ok (.ret (.f ds))
 | _=>.no
def sRetN (_ρ:Rho):Res Fl:=.ok (.ret (.v .non))
def iY (c:Str) (a:Fv) (ρ:Rho):Res Fl:=(a ρ).bind fun ds=>if ds.length<=16777216 then .err c else .no
def sNo (_ρ:Rho):Res Fl:=.no
def zFF (i:Nat) (e:Ev) (ρ:Rho):Res Fl:=match ρ[i]? with
 | some (.own ds)=>(e ρ).bind fun d=>if ds.length < 16777216 then .ok (.nx (ρ.set i (.own (ds++[d])))) else .no
 | _=>.no
def zIf (i:Nat) (e:Fv) (ρ:Rho):Res Fl:=match ρ[i]? with
 | some (.own ds)=>(e ρ).bind fun es=>if ds.length+es.length<=16777216 then .ok (.nx (ρ.set i (.own (ds++es)))) else .no
 | _=>.no
def zKO (i:Nat) (k e:Ev) (ρ:Rho):Res Fl:=(e ρ).bind fun d=>match ρ[i]? with
 | some (.own ds)=>(k ρ).bind fun j=>match j with
  | .int j=>if 0<=j/\j < ds.length then .ok (.nx (ρ.set i (.own (ds.set j.toNat d)))) else if -(ds.length:Int)<=j/\j < 0 then .ok (.nx (ρ.set i (.own (ds.set (j+ds.length).toNat d)))) else .no
  | _=>.no
 | _=>.no
def zJB (i:Nat) (o:Op2) (e:Ev) (ρ:Rho):Res Fl:=match ρ[i]? with
 | some (.val x)=>(e ρ).bind fun y=>(o x y).bind fun d=>.ok (.nx (ρ.set i (.val d)))
 | _=>.no
def sFrz (s:Sv) (ρ:Rho):Res Fl:=s (ρ.map Sl.frz)
def frzAt (i:Nat) (ρ:Rho):Rho:=match ρ[i]? with
 | some (.own ds)=>ρ.set i (.val (.lst ds))
 | _=>ρ
def sFrzAt (i:Nat) (s:Sv) (ρ:Rho):Res Fl:=s (frzAt i ρ)
def noErr {α:Type}:Res α->Res α
 | .err _=>.no
 | r=>r
abbrev Gv:=D->Rho->Res Rho
def gName (i:Nat) (d:D) (ρ:Rho):Res Rho:=.ok (ρ.set i (.val d))
def zBE (gs:List D->Rho->Res Rho) (d:D) (ρ:Rho):Res Rho:=match d with
 | .tup ds=>gs ds ρ
 | _=>.no
def zBK (ds:List D) (ρ:Rho):Res Rho:=match ds with
 | []=>.ok ρ
 | _=>.no
def iZ (g:Gv) (r:List D->Rho->Res Rho) (ds:List D) (ρ:Rho):Res Rho:=match ds with
 | d::ds=>(g d ρ).bind fun ρ'=>r ds ρ'
 | []=>.no
def zMz (g:Gv) (f:Ev) (ρ:Rho):Res Fl:=(f ρ).bind fun d=>(g d ρ).bind fun ρ'=>.ok (.nx ρ')
def loop (g:Gv) (b:Sv):List D->Rho->Res Fl
 | [],ρ=>.ok (.nx ρ)
 | d::ds,ρ=>(g d ρ).bind fun ρ1=>(b ρ1).bind fun f=>match f with
  | .nx ρ2=>loop g b ds ρ2
  | .ctn ρ2=>loop g b ds ρ2
  | .brk ρ2=>.ok (.nx ρ2)
  | .ret r=>.ok (.ret r)
def xM (it:Fv) (g:Gv) (b:Sv) (ρ:Rho):Res Fl:=(it ρ).bind fun ds=>loop g b ds ρ
def wR (e:Ev) (ρ:Rho):Res (List D):=(e ρ).bind fun d=>match d with
 | .lst ds=>.ok ds
 | .tup ds=>.ok ds
 | _=>.no
def rng (lo:Int) (n:Nat) (c:Int):List D:=(List.range n).map fun (i:Nat)=>D.int (lo+(i:Int) * c)
def pO (a:Fv) (ρ:Rho):Res (List D):=(a ρ).bind fun ds=>match ds with
 | [.int j]=>if -(2^62)<=j/\j < 2^62 then .ok (rng 0 j.toNat 1) else .no
 | _=>.no
def wh (t:Tv) (b:Sv):Nat->Rho->Res Fl
 | 0,_=>.no
 | n+1,ρ=>(t ρ).bind fun c=>if c=true then (b ρ).bind fun f=>match f with
   | .nx ρ2=>wh t b n ρ2
   | .ctn ρ2=>wh t b n ρ2
   | .brk ρ2=>.ok (.nx ρ2)
   | .ret r=>.ok (.ret r)
  else .ok (.nx ρ)
open Classical in
def dI (t:Tv) (b:Sv) (ρ:Rho):Res Fl:=if h:∃ n,wh t b n ρ≠.no then wh t b h.choose ρ else .no
theorem sS {t:Tv} {b:Sv}:∀ {n:Nat} {ρ:Rho} {k:Nat},wh t b n ρ≠.no->n<=k->wh t b k ρ=wh t b n ρ
 | 0,ρ,k,h,_=>absurd rfl h
 | n+1,ρ,0,h,l=>absurd l (by omega)
 | n+1,ρ,k+1,h,l=>by
  rw [wh,wh]
  rw [wh] at h
  cases ht:t ρ with
  | no=>rfl
  | err c=>rfl
  | ok c=>
   rw [ht] at h
   simp only [Res.bind] at h ⊢
   cases c with
   | false=>rfl
   | true=>
    simp only [if_true] at h ⊢
    cases hb:b ρ with
    | no=>rfl
    | err c=>rfl
    | ok f=>
     rw [hb] at h
     cases f with
     | nx ρ2=>exact sS h (by omega)
     | ctn ρ2=>exact sS h (by omega)
     | brk ρ2=>rfl
     | ret r=>rfl
theorem eE {t:Tv} {b:Sv} {n:Nat} {ρ:Rho} (h:wh t b n ρ≠.no):dI t b ρ=wh t b n ρ:=by
 have hx:∃ n,wh t b n ρ≠.no:=⟨n,h⟩
 unfold dI
 rw [dif_pos hx]
 rcases Nat.le_total n hx.choose with l | l
 ·exact sS h l
 ·exact (sS hx.choose_spec l).symm
theorem kJ {t:Tv} {b:Sv} {ρ:Rho} (h:dI t b ρ≠.no):∃ n,dI t b ρ=wh t b n ρ:=by
 unfold dI at h ⊢
 split
 ·exact ⟨_,rfl⟩
 ·rename_i hx;rw [dif_neg hx] at h;exact absurd rfl h
theorem uT {t:Tv} {b:Sv} {ρ:Rho}:dI t b ρ=((t ρ).bind fun c=>if c=true then (b ρ).bind fun f=>match f with
   | .nx ρ2=>dI t b ρ2
   | .ctn ρ2=>dI t b ρ2
   | .brk ρ2=>.ok (.nx ρ2)
   | .ret r=>.ok (.ret r)
  else .ok (.nx ρ)):=by
 have key:∀ n,wh t b (n+1) ρ≠.no->wh t b (n+1) ρ=((t ρ).bind fun c=>if c=true then (b ρ).bind fun f=>match f with
   | .nx ρ2=>dI t b ρ2
   | .ctn ρ2=>dI t b ρ2
   | .brk ρ2=>.ok (.nx ρ2)
   | .ret r=>.ok (.ret r)
  else .ok (.nx ρ)):=by
  intro n h
  rw [wh] at h ⊢
  cases ht:t ρ with
  | no=>rfl
  | err c=>rfl
  | ok c=>
   rw [ht] at h
   simp only [Res.bind] at h ⊢
   cases c with
   | false=>rfl
   | true=>
    simp only [if_true] at h ⊢
    cases hb:b ρ with
    | no=>rfl
    | err c=>rfl
    | ok f=>
     rw [hb] at h
     cases f with
     | nx ρ2=>exact (eE h).symm
     | ctn ρ2=>exact (eE h).symm
     | brk ρ2=>rfl
     | ret r=>rfl
 by_cases h:dI t b ρ=.no
 ·rw [h]
  cases ht:t ρ with
  | no=>rfl
  | err c=>
   exfalso
   have q:wh t b 1 ρ=.err c:=by rw [wh,ht];rfl
   have:=eE (t:=t) (b:=b) (ρ:=ρ) (n:=1) (by rw [q];exact fun z=>by cases z)
   rw [h,q] at this;cases this
  | ok c=>
   simp only [Res.bind]
   cases c with
   | false=>
    exfalso
    have q:wh t b 1 ρ=.ok (.nx ρ):=by rw [wh,ht];rfl
    have:=eE (t:=t) (b:=b) (ρ:=ρ) (n:=1) (by rw [q];exact fun z=>by cases z)
    rw [h,q] at this;cases this
   | true=>
    simp only [if_true]
    cases hb:b ρ with
    | no=>rfl
    | err c=>
     exfalso
     have q:wh t b 1 ρ=.err c:=by rw [wh,ht];simp [Res.bind,hb]
     have:=eE (t:=t) (b:=b) (ρ:=ρ) (n:=1) (by rw [q];exact fun z=>by cases z)
     rw [h,q] at this;cases this
    | ok f=>
     have again:∀ ρ2,(f=.nx ρ2∨f=.ctn ρ2)->dI t b ρ2=.no:=by
      intro ρ2 hf
      by_cases h2:dI t b ρ2=.no
      ·exact h2
      ·exfalso
       obtain ⟨n,e⟩:=kJ h2
       have q:wh t b (n+1) ρ=wh t b n ρ2:=by
        rw [wh,ht]
        simp only [Res.bind,if_true,hb]
        rcases hf with rfl | rfl<;>rfl
       have h3:wh t b (n+1) ρ≠.no:=by rw [q,<-e];exact h2
       have:=eE h3
       rw [h] at this
       exact h3 this.symm
     cases f with
     | nx ρ2=>exact (again ρ2 (.inl rfl)).symm
     | ctn ρ2=>exact (again ρ2 (.inr rfl)).symm
     | brk ρ2=>
      exfalso
      have q:wh t b 1 ρ=.ok (.nx ρ2):=by rw [wh,ht];simp [Res.bind,hb]
      have:=eE (t:=t) (b:=b) (ρ:=ρ) (n:=1) (by rw [q];exact fun z=>by cases z)
      rw [h,q] at this;cases this
     | ret r=>
      exfalso
      have q:wh t b 1 ρ=.ok (.ret r):=by rw [wh,ht];simp [Res.bind,hb]
      have:=eE (t:=t) (b:=b) (ρ:=ρ) (n:=1) (by rw [q];exact fun z=>by cases z)
      rw [h,q] at this;cases this
 ·obtain ⟨n,e⟩:=kJ h
  cases n with
  | zero=>rw [e] at h;exact absurd rfl h
  | succ n=>rw [e];exact key n (by rw [<-e];exact h)
def zIk (f:Fv) (g:Ev) (ρ:Rho):Res (List D):=(f ρ).bind fun ds=>(g ρ).bind fun d=>match d with
 | .int k=>if 0<=k/\k < 2^62/\ds.length * k.toNat<=16777216 then .ok (List.replicate k.toNat ds).flatten else .no
 | _=>.no
def jN (_ρ:Rho):Res Bool:=.ok true
def dN (t:Tv) (f:Ev) (ρ:Rho):List D->Res (List D)
 | []=>.ok []
 | d::ds=>(noErr (t (ρ++[.val d]))).bind fun c=>if c=true then (noErr (f (ρ++[.val d]))).bind fun e=>(dN t f ρ ds).bind fun es=>.ok (e::es) else dN t f ρ ds
def jU (it:Fv) (t:Tv) (f:Ev) (ρ:Rho):Res (List D):=(it ρ).bind fun ds=>if ds.length<=16777215 then dN t f ρ ds else .no
def start (n:Nat) (ds:List D):Rho:=ds.map Sl.val++List.replicate (n - ds.length) .un
def fin:Fl->Res Rt
 | .nx _=>.ok (.v .non)
 | .ret r=>.ok r
 | .brk _=>.no
 | .ctn _=>.no
def fn (p n:Nat) (b:Sv) (ds:List D):Res Rt:=if ds.length=p then (b (start n ds)).bind fin else .no
def pM:D->Option (List D)
 | .lst ds=>some ds
 | .tup ds=>some ds
 | _=>none
def iI:List D->List D->List D
 | a::r,b::q=>.tup [a,b]::iI r q
 | _,_=>[]
def zGP (a:Fv) (ρ:Rho):Res (List D):=(a ρ).bind fun ds=>match ds with
 | [x,y]=>match pM x,pM y with
  | some xs,some ys=>.ok (iI xs ys)
  | _,_=>.no
 | _=>.no
def lI:Nat->List D->List D
 | _,[]=>[]
 | n,d::r=>.tup [.int n,d]::lI (n+1) r
def zFs (e:Ev) (ρ:Rho):Res (List D):=(e ρ).bind fun d=>match d with
 | .lst ds=>.ok (lI 0 ds)
 | .tup ds=>.ok (lI 0 ds)
 | _=>.no
def dH (f:Ev) (ρ:Rho):List D->Res (List D)
 | []=>.ok []
 | .tup [a,b]::ds=>(noErr (f (ρ++[.val a,.val b]))).bind fun e=>(dH f ρ ds).bind fun es=>.ok (e::es)
 | _::_=>.no
def kR (it:Fv) (f:Ev) (ρ:Rho):Res (List D):=(it ρ).bind fun ds=>if ds.length<=16777215 then dH f ρ ds else .no
def zMF:D->Option Str
 | .str x=>some x
 | .int i=>if i.natAbs.log2 < 1920 then some (toString i) else none
 | _=>none
def zMC:Str->List D->Option Str
 | a,[]=>some a
 | a,d::r=>match zMF d with
  | some x=>if x.length<=sizeLine/\(a++x).length<=sizeLine then zMC (a++x) r else none
  | none=>none
def jM:List D->Option (List Int)
 | []=>some []
 | .int i::ds=>match jM ds with
  | some ns=>some (i::ns)
  | none=>none
 | _::_=>none
def tV:List D->Res D
 | [.lst ds]=>(match jM ds with
  | some ns=>.ok (.int ns.sum)
  | none=>.no)
 | [.tup ds]=>(match jM ds with
  | some ns=>.ok (.int ns.sum)
  | none=>.no)
 | _=>.no
def chO:Option Nat->Res D
 | some c=>.ok (.str ⟨#[c]⟩)
 | none=>.no
def nG:List D->Option (List Bool)
 | []=>some []
 | .bl b::r=>(nG r).map (b::·)
 | _=>none
def zJC:List D->Res D
 | [.lst ds]=>(match nG ds with | some bs=>.ok (.bl (bs.all id)) | none=>.no)
 | _=>.no
def slS (l u:Option Int):D->Res D
 | .str x=>if x.length<=sizeLine then .ok (.str (Txt.slice x l u)) else .no
 | _=>.no
def mE (T:List (Str×Str)):D->Res D
 | .str x=>.ok (.bl (!(T.lookup x).isSome))
 | _=>.no
def zKr:Option Str->Res D
 | some y=>.ok (.str y)
 | none=>.no
def wH (T:List (Str×Str)):D->Res D
 | .str x=>zKr (T.lookup x)
 | _=>.no
def rQ:Int->List Int->Int
 | a,[]=>a
 | a,b::r=>rQ (if b > a then b else a) r
def yN:List D->Res D
 | [.lst ds,.int d]=>(match jM ds with | some (a::r)=>.ok (.int (rQ a r)) | some []=>.ok (.int d) | none=>.no)
 | _=>.no
end L3
namespace L3
open PySem
end L3
namespace L3
open PySem
def dX (kz:List Int) (π:List Nat):Prop:=π.Perm (List.range kz.length)/\π.Pairwise (fun i j=>kz.getD i 0<=kz.getD j 0)/\π.Pairwise (fun i j=>kz.getD i 0=kz.getD j 0->i < j)
def zDk (b:Int):D->Res Int
 | .tup [.int t,.int d]=>if iL d && fM t (b.fdiv d) then .ok (t * b.fdiv d) else .no
 | _=>.no
def hZ (b:Int):List D->Res (List Int)
 | []=>.ok []
 | d::r=>(zDk b d).bind fun k=>(hZ b r).bind fun ks=>.ok (k::ks)
def dZ (π:List Nat):List D:=π.map fun i:Nat=>D.int (i:Int)
theorem zGi {b k:Int} {d:D} (h:zDk b d=.ok k):∃ t c,d=.tup [.int t,.int c]/\iL c=true/\fM t (b.fdiv c)=true/\k=t * b.fdiv c:=by
 unfold zDk at h
 split at h
 ·rename_i t c
  split at h
  ·rename_i hc
   rw [Bool.and_eq_true] at hc
   cases h
   exact ⟨t,c,rfl,hc.1,hc.2,rfl⟩
  ·cases h
 ·cases h
theorem sH {b:Int}:∀ {rows:List D} {kz:List Int},hZ b rows=.ok kz->kz.length=rows.length/\∀ (j:Nat) (k:Int),kz[j]?=some k->∃ d,rows[j]?=some d/\zDk b d=.ok k
 | [],kz,h=>by cases h;exact ⟨rfl,fun j k z=>by simp at z⟩
 | d::r,kz,h=>by
  unfold hZ at h
  cases e:zDk b d with
  | no=>rw [e] at h;cases h
  | err c=>rw [e] at h;cases h
  | ok k0=>
   rw [e] at h
   have h':(hZ b r).bind (fun ks=>Res.ok (k0::ks))=.ok kz:=h
   cases e2:hZ b r with
   | no=>rw [e2] at h';cases h'
   | err c=>rw [e2] at h';cases h'
   | ok ks=>
    rw [e2] at h'
    cases h'
    obtain ⟨h1,h2⟩:=sH e2
    refine ⟨by rw [List.length_cons,List.length_cons,h1],fun j k z=>?_⟩
    cases j with
    | zero=>simp at z;subst z;exact ⟨d,rfl,e⟩
    | succ j=>exact h2 j k (by simpa using z)
def uP (ρ:Rho):Res (List Int):=match ρ[0]?,ρ[1]? with
 | some (Sl.val (.lst rows)),some (Sl.val (.int b))=>if rows.length < 64 then hZ b rows else .no
 | _,_=>.no
def pS (sa sb:Sv) (ds:List D):Res (List Int):=if ds.length=1 then (match sa (L3.start 3 ds) with
 | .ok (.nx ρ)=>(match sb ρ with
  | .ok (.nx ρ')=>uP ρ'
  | _=>.no)
 | _=>.no) else .no
theorem zE {b:Int}:∀ {rows:List D} {c:Str},hZ b rows≠.err c
 | [],c,h=>by cases h
 | d::r,c,h=>by
  unfold hZ at h
  have k0:∀ c,zDk b d≠.err c:=fun c z=>by
   unfold zDk at z
   split at z
   ·split at z<;>cases z
   ·cases z
  cases e:zDk b d with
  | no=>rw [e] at h;cases h
  | err c'=>exact k0 _ e
  | ok k=>
   rw [e] at h
   have h':(hZ b r).bind (fun ks=>Res.ok (k::ks))=.err c:=h
   cases e2:hZ b r with
   | no=>rw [e2] at h';cases h'
   | err c'=>exact zE e2
   | ok ks=>rw [e2] at h';cases h'
theorem zIs {sa sb:Sv} (ds:List D) (c:Str):pS sa sb ds≠.err c:=fun h=>by
 unfold pS uP at h
 split at h
 ·split at h
  ·split at h
   ·split at h
    ·split at h
     ·exact zE h
     ·cases h
    ·cases h
   ·cases h
  ·cases h
 ·cases h
theorem zFK {sa sb:Sv} (ds:List D) (h:pS sa sb ds≠.no):ds.length=1:=by
 unfold pS at h
 split at h
 ·assumption
 ·exact absurd rfl h
open Classical in
def jV (kz:List Int) (F:List Nat->Res Fl):Res Fl:=if h:∃ x,∀ π,dX kz π->F π=x then h.choose else .no
theorem zAU {kz:List Int} {F:List Nat->Res Fl} {π:List Nat} (h:jV kz F≠.no) (hπ:dX kz π):F π=jV kz F:=by
 unfold jV at h ⊢
 split at h
 ·rename_i z;rw [dif_pos z];exact z.choose_spec π hπ
 ·exact absurd rfl h
theorem zAH {kz:List Int} {F:List Nat->Res Fl} {x:Res Fl} {π:List Nat} (hπ:dX kz π) (h:∀ π,dX kz π->F π=x):jV kz F=x:=by
 have z:∃ x,∀ π,dX kz π->F π=x:=⟨x,h⟩
 unfold jV
 rw [dif_pos z,<-z.choose_spec π hπ]
 exact h π hπ
def zEM (fs:Fv) (kf:List D->Res (List Int)) (g:Gv) (b r:Sv):Sv:=fun ρ=>((fs ρ).bind kf).bind fun kz=>jV kz fun π=>bP (fun ρ=>loop g b (dZ π) ρ) r ρ
end L3
namespace L3
open PySem
end L3
namespace L3
open PySem
abbrev Tri:=D×List D×List D
end L3
namespace L3
open PySem
end L3
namespace L3
open PySem
end L3
namespace L3
open PySem
end L3
namespace L3
open PySem
def zGS (kz:List Int) (i j:Nat):Bool:=decide (kz.getD i 0 < kz.getD j 0) || decide (kz.getD i 0=kz.getD j 0) && decide (i<=j)
theorem hU {kz:List Int} {i j:Nat}:zGS kz i j=true ↔ kz.getD i 0 < kz.getD j 0∨kz.getD i 0=kz.getD j 0/\i<=j:=by
 unfold zGS
 rw [Bool.or_eq_true,Bool.and_eq_true,decide_eq_true_eq,decide_eq_true_eq,decide_eq_true_eq]
def aZ (kz:List Int):List Nat:=(List.range kz.length).mergeSort (zGS kz)
theorem zCh (kz:List Int):(aZ kz).Pairwise fun i j=>zGS kz i j=true:=
 List.pairwise_mergeSort (le:=zGS kz) (fun a b c h1 h2=>by rw [hU] at *;omega) (fun a b=>by rw [Bool.or_eq_true,hU,hU];omega) _
theorem gJ (kz:List Int):dX kz (aZ kz):=by
 have p:(aZ kz).Perm (List.range kz.length):=List.mergeSort_perm _ _
 have nd:(aZ kz).Nodup:=p.nodup_iff.mpr List.nodup_range
 have w:=zCh kz
 refine ⟨p,w.imp fun h=>?_,(List.Pairwise.and w nd).imp fun h=>?_⟩
 ·rw [hU] at h;omega
 ·obtain ⟨h1,h2⟩:=h
  rw [hU] at h1
  intro e
  omega
theorem zAM {kz:List Int} {π:List Nat} (h:dX kz π):π=aZ kz:=by
 have r:=gJ kz
 have pw:∀ {σ:List Nat},dX kz σ->σ.Pairwise fun i j=>zGS kz i j=true:=fun h=>(List.Pairwise.and h.2.1 h.2.2).imp fun z=>by
  rw [hU]
  obtain ⟨z1,z2⟩:=z
  rcases Int.lt_or_eq_of_le z1 with y | y
  ·exact .inl y
  ·exact .inr ⟨y,Nat.le_of_lt (z2 y)⟩
 exact (h.1.trans r.1.symm).eq_of_pairwise (le:=fun i j=>zGS kz i j=true) (fun a b _ _ h1 h2=>by rw [hU] at h1 h2;omega) (pw h) (pw r)
def zAD (kf:List D->Res (List Int)) (fs:Fv) (ρ:Rho):Res (List D):=((fs ρ).bind kf).bind fun kz=>.ok (dZ (aZ kz))
def zIj (j:Int):Bool:=decide (0<=j) && decide (j < 1000)
theorem zAu {j:Int}:zIj j=true ↔ 0<=j/\j < 1000:=by
 unfold zIj
 rw [Bool.and_eq_true,decide_eq_true_eq,decide_eq_true_eq]
def zBX (i:Nat) (k e:Ev) (ρ:Rho):Res Fl:=match ρ[i]? with
 | some (.own ds)=>(k ρ).bind fun j=>match j with
  | .int j=>if zIj j=true then (match ds[j.toNat]? with
   | some (.int x)=>(e ρ).bind fun y=>match y with
    | .int y=>.ok (.nx (ρ.set i (.own (ds.set j.toNat (.int (x+y))))))
    | _=>.no
   | _=>.no) else .no
  | _=>.no
 | _=>.no
end L3
namespace L3
open PySem
def nU:List D->List D->List D->List D
 | a::r,b::q,c::t=>.tup [a,b,c]::nU r q t
 | _,_,_=>[]
def zFk (a:Fv) (ρ:Rho):Res (List D):=(a ρ).bind fun ds=>match ds with
 | [x,y,z]=>match pM x,pM y,pM z with
  | some xs,some ys,some zs=>.ok (nU xs ys zs)
  | _,_,_=>.no
 | _=>.no
def zIV:List D->Res (List D)
 | [x,y,z]=>match pM x,pM y,pM z with
  | some xs,some ys,some zs=>.ok (nU xs ys zs)
  | _,_,_=>.no
 | _=>.no
theorem iZip3_at {a:Fv} {ρ:Rho}:zFk a ρ=(a ρ).bind zIV:=by
 unfold zFk;congr
theorem zEs {x y z:D} {xs ys zs:List D} (hx:pM x=some xs) (hy:pM y=some ys) (hz:pM z=some zs):zIV [x,y,z]=.ok (nU xs ys zs):=by
 show (match pM x,pM y,pM z with | some xs,some ys,some zs=>Res.ok (nU xs ys zs) | _,_,_=>.no)=_
 rw [hx,hy,hz]
theorem rZ:∀ (xs ys zs:List D) (i:Nat) (d:D),(nU xs ys zs)[i]?=some d->∃ a b c,xs[i]?=some a/\ys[i]?=some b/\zs[i]?=some c/\d=.tup [a,b,c]
 | a::r,b::q,c::t,0,d,h=>by cases h;exact ⟨a,b,c,rfl,rfl,rfl,rfl⟩
 | a::r,b::q,c::t,i+1,d,h=>rZ r q t i d h
 | [],_,_,i,d,h=>by cases i<;>cases h
 | a::r,[],_,i,d,h=>by cases i<;>cases h
 | a::r,b::q,[],i,d,h=>by cases i<;>cases h
end L3
namespace Fq
theorem zEq {a b:Int} (ha:0<=a) (hb:0 < b):Int.gcd b (a % b)=Int.gcd a b:=by
 obtain ⟨m,rfl⟩:=Int.eq_ofNat_of_zero_le ha
 obtain ⟨n,rfl⟩:=Int.eq_ofNat_of_zero_le (Int.le_of_lt hb)
 show Nat.gcd n (m % n)=Nat.gcd m n
 rw [Nat.gcd_comm n (m % n),Nat.gcd_comm m n,Nat.gcd_rec n m]
def dv (t b:Int):Int:=if b < 0 then -(Int.gcd t b:Int) else (Int.gcd t b:Int)
theorem zGU {t b:Int} (hb:b≠0):0 < (Int.gcd t b:Int):=by
 have h:Int.gcd t b≠0:=fun h=>hb (Int.gcd_eq_zero_iff.mp h).2
 omega
theorem zLa {t b:Int} (hb:b≠0):dv t b≠0:=by
 have:=zGU (t:=t) hb
 unfold dv;split<;>omega
theorem sB (t b:Int):dv t b ∣ t:=by
 unfold dv;split
 ·exact Int.neg_dvd.mpr (Int.gcd_dvd_left ..)
 ·exact Int.gcd_dvd_left ..
theorem zH (t b:Int):dv t b ∣ b:=by
 unfold dv;split
 ·exact Int.neg_dvd.mpr (Int.gcd_dvd_right ..)
 ·exact Int.gcd_dvd_right ..
theorem kC {t d:Int} (h:d ∣ t):t.fdiv d=t / d:=by
 rw [Int.fdiv_eq_ediv]
 simp [h]
theorem zAp {t b:Int} (hb:b≠0):t.fdiv (dv t b)=(Rat.divInt t b).num:=by
 rw [kC (sB t b),Rat.num_divInt,Int.gcd_comm b t]
 unfold dv
 rcases Int.lt_trichotomy b 0 with h | h | h
 ·rw [if_pos h,Int.sign_eq_neg_one_of_neg h,Int.ediv_neg]
  have:(-1:Int) * t=-t:=by omega
  rw [this,Int.neg_ediv_of_dvd (Int.gcd_dvd_left ..)]
 ·exact absurd h hb
 ·rw [if_neg (by omega),Int.sign_eq_one_of_pos h,Int.one_mul]
theorem zAh {t b:Int} (hb:b≠0):b.fdiv (dv t b)=((Rat.divInt t b).den:Int):=by
 rw [kC (zH t b),Rat.den_divInt,if_neg hb,Int.gcd_comm b t]
 unfold dv
 rcases Int.lt_trichotomy b 0 with h | h | h
 ·rw [if_pos h,Int.ediv_neg,Int.natCast_ediv]
  have e:((b.natAbs:Nat):Int)=-b:=by omega
  rw [e,Int.neg_ediv_of_dvd (Int.gcd_dvd_right ..)]
 ·exact absurd h hb
 ·rw [if_neg (by omega),Int.natCast_ediv]
  have e:((b.natAbs:Nat):Int)=b:=by omega
  rw [e]
theorem eN (q:Rat):(q.den:Int)≠0:=by have:=q.den_nz;omega
theorem bI (q:Rat):(0:Int) < (q.den:Int):=by have:=q.den_nz;omega
theorem zJi (p q:Rat):Rat.divInt (p.num * q.den+q.num * p.den) (p.den * q.den)=p+q:=by
 rw [<-Rat.divInt_add_divInt _ _ (eN p) (eN q),Rat.num_divInt_den,Rat.num_divInt_den]
theorem zFy (p q:Rat):Rat.divInt (p.num * q.den - q.num * p.den) (p.den * q.den)=p - q:=by
 rw [<-Rat.divInt_sub_divInt _ _ (eN p) (eN q),Rat.num_divInt_den,Rat.num_divInt_den]
theorem zFM (p q:Rat):Rat.divInt (p.num * q.num) (p.den * q.den)=p * q:=by
 rw [<-Rat.divInt_mul_divInt,Rat.num_divInt_den,Rat.num_divInt_den]
theorem zCB (p q:Rat):Rat.divInt (p.num * q.den) (p.den * q.num)=p / q:=by
 rw [<-Rat.divInt_mul_divInt,Rat.num_divInt_den,Rat.div_def,Rat.inv_def]
theorem zFW {q:Rat}:q.num≠0 ↔ q≠0:=by
 constructor
 ·intro h e;exact h (by rw [e];rfl)
 ·intro h e;exact h (Rat.num_eq_zero.mp e)
def Sz (n:Nat) (q:Rat):Prop:=q.num.natAbs < 2^n/\q.den < 2^n
theorem Sz.mono {m n:Nat} {q:Rat} (h:Sz m q) (l:m<=n):Sz n q:=
 ⟨Nat.lt_of_lt_of_le h.1 (Nat.pow_le_pow_right (by decide) l),Nat.lt_of_lt_of_le h.2 (Nat.pow_le_pow_right (by decide) l)⟩
theorem zJQ {t b:Int} (hb:b≠0):(Rat.divInt t b).num.natAbs<=t.natAbs:=by
 rw [<-zAp hb,kC (sB t b),Int.natAbs_ediv_of_dvd (sB t b)]
 exact Nat.div_le_self ..
theorem zC {t b:Int} (hb:b≠0):(Rat.divInt t b).den<=b.natAbs:=by
 rw [Rat.den_divInt,if_neg hb]
 exact Nat.div_le_self ..
theorem Sz.of {n:Nat} {t b:Int} (hb:b≠0) (ht:t.natAbs < 2^n) (h:b.natAbs < 2^n):Sz n (Rat.divInt t b):=
 ⟨Nat.lt_of_le_of_lt (zJQ hb) ht,Nat.lt_of_le_of_lt (zC hb) h⟩
theorem eM {a b:Int} {m n:Nat} (ha:a.natAbs < 2^m) (hb:b.natAbs < 2^n):(a * b).natAbs < 2^(m+n):=by
 rw [Int.natAbs_mul,Nat.pow_add]
 exact Nat.mul_lt_mul'' ha hb
theorem zJk {a b:Int} {m:Nat} (ha:a.natAbs < 2^m) (hb:b.natAbs < 2^m):(a - b).natAbs < 2^(m+1):=by
 rw [Nat.pow_succ];omega
theorem Sz.d {n:Nat} {q:Rat} (h:Sz n q):((q.den:Int)).natAbs < 2^n:=h.2
theorem Sz.sub {m n:Nat} {p q:Rat} (hp:Sz m p) (hq:Sz n q):Sz (m+n+1) (p - q):=by
 rw [<-zFy]
 refine Sz.of (Int.mul_ne_zero (eN p) (eN q)) (zJk (eM hp.1 hq.d) ?_) ?_
 ·rw [Nat.add_comm m n];exact eM hq.1 hp.d
 ·exact Nat.lt_of_lt_of_le (eM hp.d hq.d) (Nat.pow_le_pow_right (by decide) (by omega))
theorem Sz.mul {m n:Nat} {p q:Rat} (hp:Sz m p) (hq:Sz n q):Sz (m+n) (p * q):=by
 rw [<-zFM]
 exact Sz.of (Int.mul_ne_zero (eN p) (eN q)) (eM hp.1 hq.1) (eM hp.d hq.d)
theorem Sz.div {m n:Nat} {p q:Rat} (hp:Sz m p) (hq:Sz n q) (h:q≠0):Sz (m+n) (p / q):=by
 rw [<-zCB]
 exact Sz.of (Int.mul_ne_zero (eN p) (zFW.mpr h)) (eM hp.1 hq.d) (eM hp.d hq.1)
end Fq
namespace Fr
open L3 PySem Fq
theorem zJI {t:Tv} {b:Sv} {ρ:Rho} (P:Rho->Prop) (μ:Rho->Nat) (Q:Res Fl->Prop) (h0:P ρ)
  (step:∀ ρ,P ρ->(t ρ=.ok false/\Q (.ok (.nx ρ)))∨(t ρ=.ok true/\∃ ρ',b ρ=.ok (.nx ρ')/\P ρ'/\μ ρ' < μ ρ)):Q (dI t b ρ):=by
 have main:∀ n ρ,μ ρ<=n->P ρ->Q (dI t b ρ):=by
  intro n
  induction n with
  | zero=>
   intro ρ hn hp
   rw [uT]
   rcases step ρ hp with ⟨h1,h2⟩ | ⟨h1,ρ',h2,h3,h4⟩
   ·rw [h1];exact h2
   ·omega
  | succ n ih=>
   intro ρ hn hp
   rw [uT]
   rcases step ρ hp with ⟨h1,h2⟩ | ⟨h1,ρ',h2,h3,h4⟩
   ·rw [h1];exact h2
   ·rw [h1]
    simp only [Res.bind,if_true,h2]
    exact ih ρ' (by omega) h3
 exact main _ ρ (Nat.le_refl _) h0
theorem zBD {i:Int} {m:Nat} (h:i.natAbs < 2^m):nb i<=m+1:=zLr (Nat.lt_of_lt_of_le h (Nat.pow_le_pow_right (by decide) (by omega))) (by omega)
theorem bE {i j:Int} {m n:Nat} (hi:i.natAbs < 2^m) (hj:j.natAbs < 2^n) (h:m+n<=100000000):fM i j=true:=by
 unfold fM
 have h1:=zBD hi
 have h2:=zBD hj
 rw [Bool.or_eq_true]
 exact .inr (decide_eq_true (by omega))
theorem zHr {i j:Int} (h1:-(2^64) < j) (h2:j < 2^64):fM i j=true:=by
 unfold fM
 rw [Bool.or_eq_true,Bool.or_eq_true]
 exact .inl (.inr (by rw [decide_eq_true h1,decide_eq_true h2];rfl))
theorem zGn {i j:Int} (h1:-(2^64) < i) (h2:i < 2^64):fM i j=true:=by
 unfold fM
 rw [Bool.or_eq_true,Bool.or_eq_true]
 exact .inl (.inl (by rw [decide_eq_true h1,decide_eq_true h2];rfl))
theorem kL {j:Int} {m:Nat} (h0:j≠0) (hj:j.natAbs < 2^m) (h:m<=8999):iL j=true:=by
 unfold iL
 have h1:=zBD hj
 rw [decide_eq_true h0,decide_eq_true (show nb j<=9000 by omega)]
 rfl
theorem okDiv_lit {j:Int} (h0:0 < j) (h:j < 1000000000000000000):iL j=true:=kL (m:=64) (by omega) (by omega) (by decide)
theorem okMul_litr {i j:Int} (h1:-1000000000000000000 < j) (h2:j < 1000000000000000000):fM i j=true:=zHr (by omega) (by omega)
theorem okMul_litl {i j:Int} (h1:-1000000000000000000 < i) (h2:i < 1000000000000000000):fM i j=true:=zGn (by omega) (by omega)
theorem p10 (n:Nat):(0:Int) < 10^n:=Int.pow_pos (by decide)
theorem p10ne (n:Nat):((10:Int)^n=0)=False:=eq_false (by have:=p10 n;omega)
theorem p10pos2 (n:Nat):(0:Int) < 2 * 10^n:=by have:=p10 n;omega
theorem p10ne2 (n:Nat):((2:Int) * 10^n=0)=False:=eq_false (by have:=p10 n;omega)
theorem okp9:nQ 10 9=true:=by decide
theorem okp30:nQ 10 30=true:=by decide
def dq (q:Rat):D:=.tup [.int q.num,.int (q.den:Int)]
def dp (p:Rat×Rat):D:=.tup [dq p.1,dq p.2]
theorem eq_dq (p q:Rat):eqD (dq p) (dq q)=decide (p=q):=by
 show ((p.num==q.num) && (((p.den:Int)==(q.den:Int)) && true))=decide (p=q)
 by_cases h:p=q
 ·subst h;simp
 ·rw [decide_eq_false h]
  by_cases h1:p.num=q.num
  ·have h2:p.den≠q.den:=fun e=>h (Rat.ext h1 e)
   have:((p.den:Int)==(q.den:Int))=false:=by simp;omega
   rw [this];simp
  ·simp [h1]
theorem dep_dq (q:Rat):dep (dq q)=1:=rfl
theorem ix_dq0 (q:Rat):oIx (dq q) (.int 0)=.ok (.int q.num):=rfl
theorem ix_dq1 (q:Rat):oIx (dq q) (.int 1)=.ok (.int (q.den:Int)):=rfl
theorem ty_dq (q:Rat):tyN (dq q) = "tuple" := rfl
theorem len_dq (q:Rat):kQ [dq q]=.ok (.int 2):=rfl
theorem oEq_dq (p q:Rat):oEq (dq p) (dq q)=.ok (.bl (decide (p=q))):=by
 rw [<-eq_dq];rfl
theorem oNe_dq (p q:Rat):oNe (dq p) (dq q)=.ok (.bl (!decide (p=q))):=by
 rw [<-eq_dq];rfl
theorem noL_dq (q:Rat):noL (dq q)=true:=rfl
theorem fdiv_pos (a:Int) {b:Int} (h:0 < b):a.fdiv b=a / b:=Int.fdiv_eq_ediv_of_nonneg a (by omega)
theorem fmod_pos (a:Int) {b:Int} (h:0 < b):a.fmod b=a % b:=Int.fmod_eq_emod_of_nonneg a (by omega)
theorem zHo (a:Int) {b:Int} (h:0<=b):a.fdiv b=a / b:=Int.fdiv_eq_ediv_of_nonneg a h
theorem yZ (a:Int) {b:Int} (h:0<=b):a.fmod b=a % b:=Int.fmod_eq_emod_of_nonneg a h
theorem rC {α:Type} {l:List α} {i:Nat} {a:α} (h:l[i]?=some a):l.take (i+1)=l.take i++[a]:=by rw [List.take_succ,h];rfl
theorem zIr {b:Int} (h:0 < b):(.tup [.int 1,.int b]:D)=dq (Rat.divInt 1 b):=by
 have hb:b≠0:=by omega
 have e:Fq.dv 1 b=1:=by unfold Fq.dv;rw [if_neg (by omega)];simp
 unfold dq
 rw [<-Fq.zAp hb,<-Fq.zAh hb,e]
 simp
theorem zKF (k:Int):(.tup [.int k,.int 1]:D)=dq (k:Rat):=rfl
end Fr
namespace L3
open PySem
def zDW (b:Sv):Fl->Res Fl
 | .nx ρ=>b ρ
 | .ret r=>.ok (.ret r)
 | .brk ρ=>.ok (.brk ρ)
 | .ctn ρ=>.ok (.ctn ρ)
theorem sSeq_at {a b:Sv} {ρ:Rho}:bP a b ρ=(a ρ).bind (zDW b):=by
 unfold bP;congr;funext f;cases f<;>rfl
def ifF (a b:Sv) (ρ:Rho):Bool->Res Fl
 | true=>a ρ
 | false=>b ρ
theorem sIf_at {t:Tv} {a b:Sv} {ρ:Rho}:sIf t a b ρ=(t ρ).bind (ifF a b ρ):=by
 unfold sIf;congr;funext c;cases c<;>rfl
def zLN (a b:Ev) (ρ:Rho):Bool->Res D
 | true=>a ρ
 | false=>b ρ
theorem eIf_at {t:Tv} {a b:Ev} {ρ:Rho}:eIf t a b ρ=(t ρ).bind (zLN a b ρ):=by
 unfold eIf;congr;funext c;cases c<;>rfl
def zLL (b:Ev) (ρ:Rho):D->Res D
 | .bl true=>b ρ
 | .bl false=>.ok (.bl false)
 | _=>.no
theorem eAnd_at {a b:Ev} {ρ:Rho}:zKR a b ρ=(a ρ).bind (zLL b ρ):=by
 unfold zKR;congr;funext c;cases c<;>try rfl
 rename_i c;cases c<;>rfl
def orF (b:Ev) (ρ:Rho):D->Res D
 | .bl true=>.ok (.bl true)
 | .bl false=>b ρ
 | _=>.no
theorem eOr_at {a b:Ev} {ρ:Rho}:eOr a b ρ=(a ρ).bind (orF b ρ):=by
 unfold eOr;congr;funext c;cases c<;>try rfl
 rename_i c;cases c<;>rfl
def opF (o:Op2) (b:Ev) (ρ:Rho) (x:D):Res D:=(b ρ).bind (o x)
theorem eOp_at {o:Op2} {a b:Ev} {ρ:Rho}:eOp o a b ρ=(a ρ).bind (opF o b ρ):=rfl
def consG (d:D) (ds:List D):Res (List D):=.ok (d::ds)
def consF (r:Fv) (ρ:Rho) (d:D):Res (List D):=(r ρ).bind (consG d)
theorem aCons_at {e:Ev} {r:Fv} {ρ:Rho}:aB e r ρ=(e ρ).bind (consF r ρ):=rfl
def tupF (ds:List D):Res D:=if ds.length<=16777216 then .ok (.tup ds) else .no
theorem eTup_at {a:Fv} {ρ:Rho}:zFT a ρ=(a ρ).bind tupF:=rfl
def rtF (r:Rt):Res D:=.ok r.d
def callF (m:Mir) (ds:List D):Res D:=(m ds).bind rtF
theorem eCall_at {m:Mir} {a:Fv} {ρ:Rho}:aV m a ρ=(a ρ).bind (callF m):=rfl
def isTF (T:String) (d:D):Res D:=.ok (.bl (isT T d))
theorem eIsT_at {T:String} {a:Ev} {ρ:Rho}:zJT T a ρ=(a ρ).bind (isTF T):=rfl
def frzF (d:D):Res D:=if noL d=true then .ok d else .no
theorem eFrz_at {e:Ev} {ρ:Rho}:zIi e ρ=(e (ρ.map Sl.frz)).bind frzF:=rfl
def fLstF (ds:List D):Res (List D):=if ds.length<=16777216 then .ok ds else .no
theorem fLst_at {a:Fv} {ρ:Rho}:wC a ρ=(a ρ).bind fLstF:=rfl
def rtFF:Rt->Res (List D)
 | .f ds=>.ok ds
 | .v _=>.no
def fcallF (m:Mir) (ds:List D):Res (List D):=(m ds).bind rtFF
theorem fCall_at {m:Mir} {a:Fv} {ρ:Rho}:eQ m a ρ=(a ρ).bind (fcallF m):=by
 unfold eQ fcallF;congr
def zCU:List D->Res (List D)
 | [.lst ds]=>.ok ds
 | [.tup ds]=>.ok ds
 | _=>.no
theorem fListF_l {ds:List D}:zCU [.lst ds]=.ok ds:=rfl
theorem fListF_t {ds:List D}:zCU [.tup ds]=.ok ds:=rfl
theorem fList_at {a:Fv} {ρ:Rho}:zLH a ρ=(a ρ).bind zCU:=rfl
def catG (x y:D):Res (List D):=match x,y with
 | .lst ds,.lst es=>if ds.length+es.length<=16777216 then .ok (ds++es) else .no
 | _,_=>.no
def catF (b:Ev) (ρ:Rho) (x:D):Res (List D):=(b ρ).bind (catG x)
theorem fCat_at {a b:Ev} {ρ:Rho}:zKY a b ρ=(a ρ).bind (catF b ρ):=rfl
def efF (ds:List D):Res D:=.ok (.lst ds)
theorem eF_at {f:Fv} {ρ:Rho}:eF f ρ=(f ρ).bind efF:=rfl
def fFrzF (ds:List D):Res (List D):=if noLs ds=true then .ok ds else .no
theorem fFrz_at {f:Fv} {ρ:Rho}:zGL f ρ=(f (ρ.map Sl.frz)).bind fFrzF:=rfl
def oSF:D->Res (Option Int)
 | .int i=>.ok (some i)
 | _=>.no
theorem oS_at {e:Ev} {ρ:Rho}:oS e ρ=(e ρ).bind oSF:=by
 unfold oS;congr
def fSlH (x:D) (l h:Option Int):Res (List D):=match x with
 | .lst ds=>.ok (dY ds l h)
 | _=>.no
def fSlG (hi:Ov) (ρ:Rho) (x:D) (l:Option Int):Res (List D):=(hi ρ).bind (fSlH x l)
def fSlF (lo hi:Ov) (ρ:Rho) (x:D):Res (List D):=(lo ρ).bind (fSlG hi ρ x)
theorem fSl_at {a:Ev} {lo hi:Ov} {ρ:Rho}:fSl a lo hi ρ=(a ρ).bind (fSlF lo hi ρ):=rfl
def zMX (x:D) (l h:Option Int):Res D:=match x with
 | .tup ds=>if (dY ds l h).length < ds.length then .ok (.tup (dY ds l h)) else .no
 | _=>.no
def blF:D->Res Bool
 | .bl b=>.ok b
 | _=>.no
theorem tVal_at {e:Ev} {ρ:Rho}:eX e ρ=(e ρ).bind blF:=by
 unfold eX;congr
def notF (b:Bool):Res Bool:=.ok (!b)
theorem tNotB_at {t:Tv} {ρ:Rho}:xV t ρ=(t ρ).bind notF:=rfl
def zHW (u:Tv) (ρ:Rho):Bool->Res Bool
 | true=>u ρ
 | false=>.ok false
theorem tAndB_at {t u:Tv} {ρ:Rho}:zAP t u ρ=(t ρ).bind (zHW u ρ):=by
 unfold zAP;congr;funext c;cases c<;>rfl
def zLK (u:Tv) (ρ:Rho):Bool->Res Bool
 | true=>.ok true
 | false=>u ρ
theorem tOrB_at {t u:Tv} {ρ:Rho}:zBg t u ρ=(t ρ).bind (zLK u ρ):=by
 unfold zBg;congr;funext c;cases c<;>rfl
def setF (i:Nat) (ρ:Rho) (d:D):Res Fl:=.ok (.nx (ρ.set i (.val d)))
theorem sSet_at {i:Nat} {e:Ev} {ρ:Rho}:fL i e ρ=(e ρ).bind (setF i ρ):=rfl
def ownF (i:Nat) (ρ:Rho) (ds:List D):Res Fl:=.ok (.nx (ρ.set i (.own ds)))
theorem sOwn_at {i:Nat} {f:Fv} {ρ:Rho}:zBf i f ρ=(f ρ).bind (ownF i ρ):=rfl
def dropF (ρ:Rho) (_d:D):Res Fl:=.ok (.nx ρ)
theorem sDrop_at {e:Ev} {ρ:Rho}:pQ e ρ=(e ρ).bind (dropF ρ):=rfl
def retF (d:D):Res Fl:=.ok (.ret (.v d))
theorem sRet_at {e:Ev} {ρ:Rho}:iM e ρ=(e (ρ.map Sl.frz)).bind retF:=rfl
def retFF (ds:List D):Res Fl:=.ok (.ret (.f ds))
theorem sRetF_at {f:Fv} {ρ:Rho}:jO f ρ=(f (ρ.map Sl.frz)).bind retFF:=rfl
def raiseF (c:Str) (ds:List D):Res Fl:=if ds.length<=16777216 then .err c else .no
theorem sRaise_at {c:Str} {a:Fv} {ρ:Rho}:iY c a ρ=(a ρ).bind (raiseF c):=rfl
def appF (i:Nat) (ρ:Rho) (ds:List D) (d:D):Res Fl:=if ds.length < 16777216 then .ok (.nx (ρ.set i (.own (ds++[d])))) else .no
def appS (i:Nat) (e:Ev) (ρ:Rho):Option Sl->Res Fl
 | some (.own ds)=>(e ρ).bind (appF i ρ ds)
 | _=>.no
theorem sApp_at {i:Nat} {e:Ev} {ρ:Rho}:zFF i e ρ=appS i e ρ ρ[i]?:=by
 unfold zFF appS;rfl
def extF (i:Nat) (ρ:Rho) (ds:List D) (es:List D):Res Fl:=if ds.length+es.length<=16777216 then .ok (.nx (ρ.set i (.own (ds++es)))) else .no
def extS (i:Nat) (e:Fv) (ρ:Rho):Option Sl->Res Fl
 | some (.own ds)=>(e ρ).bind (extF i ρ ds)
 | _=>.no
theorem sExt_at {i:Nat} {e:Fv} {ρ:Rho}:zIf i e ρ=extS i e ρ ρ[i]?:=by
 unfold zIf extS;rfl
def augF (i:Nat) (ρ:Rho) (o:Op2) (x y:D):Res Fl:=(o x y).bind (setF i ρ)
def augS (i:Nat) (o:Op2) (e:Ev) (ρ:Rho):Option Sl->Res Fl
 | some (.val x)=>(e ρ).bind (augF i ρ o x)
 | _=>.no
theorem sAug_at {i:Nat} {o:Op2} {e:Ev} {ρ:Rho}:zJB i o e ρ=augS i o e ρ ρ[i]?:=by
 unfold zJB augS;rfl
def dropG (ρ:Rho) (_r:Rt):Res Fl:=.ok (.nx ρ)
def setG (i:Nat) (ρ:Rho) (r:Rt):Res Fl:=.ok (.nx (ρ.set i (.val r.d)))
def varS:Option Sl->Res D
 | some (.val d)=>.ok d
 | _=>.no
theorem eVar_at {i:Nat} {ρ:Rho}:aE i ρ=varS ρ[i]?:=by
 unfold aE varS;rfl
def retS:Option Sl->Res Fl
 | some (.own ds)=>.ok (.ret (.f ds))
 | _=>.no
theorem sRetOwn_at {i:Nat} {ρ:Rho}:fX i ρ=retS ρ[i]?:=by
 unfold fX retS;rfl
def nxF (ρ:Rho):Res Fl:=.ok (.nx ρ)
def unpF (g:Gv) (ρ:Rho) (d:D):Res Fl:=(g d ρ).bind nxF
theorem sUnp_at {g:Gv} {f:Ev} {ρ:Rho}:zMz g f ρ=(f ρ).bind (unpF g ρ):=rfl
def gtF (gs:List D->Rho->Res Rho) (ρ:Rho):D->Res Rho
 | .tup ds=>gs ds ρ
 | _=>.no
theorem gTup_at {gs:List D->Rho->Res Rho} {d:D} {ρ:Rho}:zBE gs d ρ=gtF gs ρ d:=by
 unfold zBE gtF;rfl
theorem gCons_at {g:Gv} {r:List D->Rho->Res Rho} {d:D} {ds:List D} {ρ:Rho}:iZ g r (d::ds) ρ=(g d ρ).bind (r ds):=rfl
theorem gNil_at {ρ:Rho}:zBK [] ρ=.ok ρ:=rfl
def forF (g:Gv) (b:Sv) (ρ:Rho) (ds:List D):Res Fl:=loop g b ds ρ
theorem sFor_at {it:Fv} {g:Gv} {b:Sv} {ρ:Rho}:xM it g b ρ=(it ρ).bind (forF g b ρ):=rfl
def zFQ:D->Res (List D)
 | .lst ds=>.ok ds
 | .tup ds=>.ok ds
 | _=>.no
theorem seqD_l {ds:List D}:zFQ (.lst ds)=.ok ds:=rfl
theorem seqD_t {ds:List D}:zFQ (.tup ds)=.ok ds:=rfl
theorem iSeq_at {e:Ev} {ρ:Rho}:wR e ρ=(e ρ).bind zFQ:=by
 unfold wR;congr
def zKi:List D->Res (List D)
 | [.int j]=>if -(2^62)<=j/\j < 2^62 then .ok (rng 0 j.toNat 1) else .no
 | _=>.no
theorem iRng1_at {a:Fv} {ρ:Rho}:pO a ρ=(a ρ).bind zKi:=rfl
theorem fn_at {p n:Nat} {b:Sv} {ds:List D} (h:ds.length=p):fn p n b ds=(b (start n ds)).bind fin:=by
 unfold fn;rw [if_pos h]
theorem nr {α:Sort _} {a b:α} (h:a=b):a=b:=h
theorem okb {α β:Type} {a:α} {f:α->Res β}:(Res.ok a).bind f=f a:=nr rfl
theorem erb {α β:Type} {c:Str} {f:α->Res β}:(Res.err c).bind f=.err c:=nr rfl
theorem seqF_nx {b:Sv} {ρ:Rho}:zDW b (.nx ρ)=b ρ:=nr rfl
theorem seqF_ret {b:Sv} {r:Rt}:zDW b (.ret r)=.ok (.ret r):=nr rfl
theorem gtF_t {gs:List D->Rho->Res Rho} {ρ:Rho} {ds:List D}:gtF gs ρ (.tup ds)=gs ds ρ:=nr rfl
theorem ifF_t {a b:Sv} {ρ:Rho}:ifF a b ρ true=a ρ:=nr rfl
theorem ifF_f {a b:Sv} {ρ:Rho}:ifF a b ρ false=b ρ:=nr rfl
theorem eifF_t {a b:Ev} {ρ:Rho}:zLN a b ρ true=a ρ:=nr rfl
theorem eifF_f {a b:Ev} {ρ:Rho}:zLN a b ρ false=b ρ:=nr rfl
theorem andF_t {b:Ev} {ρ:Rho}:zLL b ρ (.bl true)=b ρ:=nr rfl
theorem andF_f {b:Ev} {ρ:Rho}:zLL b ρ (.bl false)=.ok (.bl false):=nr rfl
theorem orF_t {b:Ev} {ρ:Rho}:orF b ρ (.bl true)=.ok (.bl true):=nr rfl
theorem orF_f {b:Ev} {ρ:Rho}:orF b ρ (.bl false)=b ρ:=nr rfl
theorem tandF_t {u:Tv} {ρ:Rho}:zHW u ρ true=u ρ:=nr rfl
theorem tandF_f {u:Tv} {ρ:Rho}:zHW u ρ false=.ok false:=nr rfl
theorem torF_t {u:Tv} {ρ:Rho}:zLK u ρ true=.ok true:=nr rfl
theorem torF_f {u:Tv} {ρ:Rho}:zLK u ρ false=u ρ:=nr rfl
theorem oAdd_i {i j:Int}:oU (.int i) (.int j)=.ok (.int (i+j)):=rfl
theorem oSub_i {i j:Int}:zAr (.int i) (.int j)=.ok (.int (i - j)):=rfl
theorem oMul_i {i j:Int} (h:fM i j=true):oC (.int i) (.int j)=.ok (.int (i * j)):=if_pos h
theorem oDiv_i {i j:Int} (h:iL j=true):yJ (.int i) (.int j)=.ok (.int (i.fdiv j)):=if_pos h
theorem oMod_i {i j:Int} (h:j≠0):rK (.int i) (.int j)=.ok (.int (i.fmod j)):=if_pos h
theorem oPow_i {i j:Int} (h:nQ i j=true):zDR (.int i) (.int j)=.ok (.int (i^j.toNat)):=if_pos h
theorem oEq_i {i j:Int}:oEq (.int i) (.int j)=.ok (.bl (decide (i=j))):=rfl
theorem oNe_i {i j:Int}:oNe (.int i) (.int j)=.ok (.bl (!decide (i=j))):=rfl
theorem oLt_i {i j:Int}:oLt (.int i) (.int j)=.ok (.bl (decide (i < j))):=rfl
theorem oLe_i {i j:Int}:oLe (.int i) (.int j)=.ok (.bl (decide (i<=j))):=rfl
theorem oGt_i {i j:Int}:oGt (.int i) (.int j)=.ok (.bl (decide (j < i))):=rfl
theorem oGe_i {i j:Int}:oGe (.int i) (.int j)=.ok (.bl (decide (j<=i))):=rfl
theorem ofO_some {α:Type} {a:α}:ofO (some a)=.ok a:=rfl
theorem oNeg_i {i:Int}:zKd (.int i)=.ok (.int (-i)):=rfl
theorem oNot_b {b:Bool}:zMM (.bl b)=.ok (.bl (!b)):=rfl
theorem bAbs_i {i:Int}:zGt [.int i]=.ok (.int (i.natAbs:Int)):=by
 show Res.ok (D.int (if i < 0 then -i else i))=_
 congr 2;split<;>omega
theorem bMin_i {i j:Int}:zIt [.int i,.int j]=.ok (.int (min i j)):=by
 show Res.ok (D.int (if j < i then j else i))=_
 congr 2;split<;>omega
theorem rT {j:Int} (h1:-(2^62)<=j) (h2:j < 2^62):zKi [.int j]=.ok (rng 0 j.toNat 1):=if_pos ⟨h1,h2⟩
theorem yP {α:Type} {g:Gv} {b:Sv} {ds:List D} {ρ:Rho} {k:Fl->Res α} {Q:Res α->Prop} (P:Rho->Prop) (h0:P ρ)
  (st:∀ d ρ,d∈ds->P ρ->∃ ρ2,(g d ρ).bind b=.ok (.nx ρ2)/\P ρ2) (fi:∀ ρ',P ρ'->Q (k (.nx ρ'))):Q ((loop g b ds ρ).bind k):=by
 suffices h:∃ ρ',loop g b ds ρ=.ok (.nx ρ')/\P ρ' by
  obtain ⟨ρ',e,hp⟩:=h
  rw [e]
  exact fi ρ' hp
 clear fi
 induction ds generalizing ρ with
 | nil=>exact ⟨ρ,rfl,h0⟩
 | cons d ds ih=>
  obtain ⟨ρ2,e,hp⟩:=st d ρ List.mem_cons_self h0
  obtain ⟨ρ',e',hp'⟩:=ih hp fun d' ρ' hd=>st d' ρ' (List.mem_cons_of_mem _ hd)
  refine ⟨ρ',?_,hp'⟩
  rw [loop]
  cases hg:g d ρ with
  | no=>rw [hg] at e;cases e
  | err c=>rw [hg] at e;cases e
  | ok ρ1=>
   rw [hg] at e
   have e2:b ρ1=.ok (.nx ρ2):=e
   simp only [Res.bind,e2]
   exact e'
theorem ty_i {i:Int}:tyN (.int i) = "int" := rfl
theorem ty_b {b:Bool}:tyN (.bl b) = "bool" := rfl
theorem ty_t {ds:List D}:tyN (.tup ds) = "tuple" := rfl
theorem ty_l {ds:List D}:tyN (.lst ds) = "list" := rfl
theorem ty_s {x:Str}:tyN (.str x) = "str" := rfl
theorem ty_n:tyN .non = "NoneType" := rfl
theorem bLen_t {ds:List D}:kQ [.tup ds]=.ok (.int ds.length):=rfl
theorem bLen_l {ds:List D}:kQ [.lst ds]=.ok (.int ds.length):=rfl
theorem bTup_t {ds:List D}:zFY [.tup ds]=.ok (.tup ds):=rfl
theorem bTup_l {ds:List D}:zFY [.lst ds]=.ok (.tup ds):=rfl
theorem kH {α:Type} {g:Gv} {b:Sv} {ds:List D} {ρ:Rho} {k:Fl->Res α} {Q:Res α->Prop} (P:Nat->Rho->Prop) (h0:P 0 ρ)
  (st:∀ i d ρ,ds[i]?=some d->P i ρ->∃ ρ2,(g d ρ).bind b=.ok (.nx ρ2)/\P (i+1) ρ2) (fi:∀ ρ',P ds.length ρ'->Q (k (.nx ρ'))):Q ((loop g b ds ρ).bind k):=by
 suffices h:∀ (ds:List D) (j:Nat) (ρ:Rho),P j ρ->(∀ i d ρ,ds[i]?=some d->P (j+i) ρ->∃ ρ2,(g d ρ).bind b=.ok (.nx ρ2)/\P (j+i+1) ρ2)->∃ ρ',loop g b ds ρ=.ok (.nx ρ')/\P (j+ds.length) ρ' by
  obtain ⟨ρ',e,hp⟩:=h ds 0 ρ h0 (fun i d ρ hd hp=>by rw [Nat.zero_add] at hp ⊢;exact st i d ρ hd hp)
  rw [e]
  exact fi ρ' (by rw [Nat.zero_add] at hp;exact hp)
 intro ds
 induction ds with
 | nil=>intro j ρ hp _;exact ⟨ρ,rfl,hp⟩
 | cons d ds ih=>
  intro j ρ hp st
  obtain ⟨ρ2,e,hp2⟩:=st 0 d ρ rfl hp
  obtain ⟨ρ',e',hp'⟩:=ih (j+1) ρ2 hp2 fun i d' ρ' hd hp=>by
   have:=st (i+1) d' ρ' (by simpa using hd) (by rw [show j+(i+1)=j+1+i by omega];exact hp)
   rw [show j+(i+1)=j+1+i by omega] at this
   exact this
  refine ⟨ρ',?_,by rw [List.length_cons,show j+(ds.length+1)=j+1+ds.length by omega];exact hp'⟩
  rw [loop]
  cases hg:g d ρ with
  | no=>rw [hg] at e;cases e
  | err c=>rw [hg] at e;cases e
  | ok ρ1=>
   rw [hg] at e
   have e2:b ρ1=.ok (.nx ρ2):=e
   simp only [Res.bind,e2]
   exact e'
theorem zBj {lo c:Int} {n i:Nat} {d:D} (h:(rng lo n c)[i]?=some d):i < n/\d=.int (lo+(i:Int) * c):=by
 unfold rng at h
 rw [List.getElem?_map] at h
 by_cases hi:i < n
 ·rw [List.getElem?_range hi] at h
  cases h
  exact ⟨hi,rfl⟩
 ·rw [List.getElem?_eq_none (by rw [List.length_range];omega)] at h
  cases h
theorem zS {f:Ev} {ρ:Rho} {h:D->D}:∀ {ds:List D},(∀ d∈ds,f (ρ++[.val d])=.ok (h d))->dN jN f ρ ds=.ok (ds.map h)
 | [],_=>rfl
 | d::ds,hf=>by
  rw [dN,hf d List.mem_cons_self]
  simp only [jN,noErr,Res.bind,if_true]
  rw [zS fun e he=>hf e (List.mem_cons_of_mem _ he)]
  rfl
def zDt (t:Tv) (f:Ev) (ρ:Rho) (ds:List D):Res (List D):=if ds.length<=16777215 then dN t f ρ ds else .no
theorem fComp_at {it:Fv} {t:Tv} {f:Ev} {ρ:Rho}:jU it t f ρ=(it ρ).bind (zDt t f ρ):=rfl
theorem zCy {f:Ev} {ρ:Rho} {h:D->D} {ds:List D} (hl:ds.length<=16777215) (hf:∀ d∈ds,f (ρ++[.val d])=.ok (h d)):zDt jN f ρ ds=.ok (ds.map h):=by
 unfold zDt;rw [if_pos hl,zS hf]
theorem zEL {ds:List D} {k:Int} (h:0<=k):dY ds none (some k)=ds.take k.toNat:=by
 unfold dY cut
 simp only [h,if_true,List.drop_zero,Nat.sub_zero]
 rcases Nat.le_total k.toNat ds.length with l | l
 ·rw [Nat.min_eq_left l]
 ·rw [Nat.min_eq_right l,List.take_length,List.take_of_length_le l]
theorem zFg {α:Type} (l:List α) (a:Nat):l.drop (min a l.length)=l.drop a:=by
 rcases Nat.le_total a l.length with h | h
 ·rw [Nat.min_eq_left h]
 ·rw [Nat.min_eq_right h,List.drop_length,List.drop_eq_nil_of_le h]
theorem zBZ {ds:List D} {a b:Int} (h1:0<=a) (h2:0<=b):dY ds (some a) (some b)=(ds.drop a.toNat).take (b.toNat - a.toNat):=by
 unfold dY cut
 simp only [h1,h2,if_true]
 rw [zFg]
 rcases Nat.le_total ds.length a.toNat with c | c
 ·rw [List.drop_eq_nil_of_le c,List.take_nil,List.take_nil]
 ·rw [Nat.min_eq_left c]
  rcases Nat.le_total b.toNat ds.length with d | d
  ·rw [Nat.min_eq_left d]
  ·rw [Nat.min_eq_right d,List.take_of_length_le (by rw [List.length_drop];exact Nat.le_refl _),List.take_of_length_le (by rw [List.length_drop];exact Nat.sub_le_sub_right d _)]
theorem oK {α:Type} {f:α->D} {l:List α} {i:Int} {a:α} (h0:0<=i) (h:l[i.toNat]?=some a):oIx (.lst (l.map f)) (.int i)=.ok (f a):=by
 show ofO (atD (l.map f) i)=_
 unfold atD
 rw [if_pos h0,List.getElem?_map,h]
 rfl
theorem oIx_tc {d:D} {ds:List D} {i:Int}:oIx (.tup (d::ds)) (.int i)=ofO (atD (d::ds) i):=rfl
theorem zHb {α:Type} {f:α->D} {l:List α} {i:Int} {a:α} (h0:0<=i) (h:l[i.toNat]?=some a):oIx (.tup (l.map f)) (.int i)=.ok (f a):=by
 show ofO (atD (l.map f) i)=_
 unfold atD
 rw [if_pos h0,List.getElem?_map,h]
 rfl
def zKU (ds:List D):D->Res (List D)
 | .int k=>if 0<=k/\k < 2^62/\ds.length * k.toNat<=16777216 then .ok (List.replicate k.toNat ds).flatten else .no
 | _=>.no
def repF (g:Ev) (ρ:Rho) (ds:List D):Res (List D):=(g ρ).bind (zKU ds)
theorem fRep_at {f:Fv} {g:Ev} {ρ:Rho}:zIk f g ρ=(f ρ).bind (repF g ρ):=by
 unfold zIk repF;congr
theorem zBs {d:D} {k:Nat} (h:k<=16777216):zKU [d] (.int (k:Int))=.ok (List.replicate k d):=by
 have e:∀ n,(List.replicate n [d]).flatten=List.replicate n d:=by
  intro n
  induction n with
  | zero=>rfl
  | succ n ih=>rw [List.replicate_succ,List.flatten_cons,ih];rfl
 unfold zKU
 dsimp only
 rw [if_pos ⟨by omega,by omega,by simp only [List.length_cons,List.length_nil,Int.toNat_natCast];omega⟩,Int.toNat_natCast,e]
theorem zCu {α:Type} {u:α->D} {f:Ev} {ρ:Rho} {g:α->D}:∀ {l:List α},(∀ a∈l,f (ρ++[.val (u a)])=.ok (g a))->dN jN f ρ (l.map u)=.ok (l.map g)
 | [],_=>rfl
 | a::l,h=>by
  rw [List.map_cons,dN,h a List.mem_cons_self]
  simp only [jN,noErr,Res.bind,if_true]
  rw [zCu fun b hb=>h b (List.mem_cons_of_mem _ hb)]
  rfl
theorem jK {α:Type} {u:α->D} {f:Ev} {ρ:Rho} {g:α->D} {l:List α} (hl:l.length<=16777215) (h:∀ a∈l,f (ρ++[.val (u a)])=.ok (g a)):zDt jN f ρ (l.map u)=.ok (l.map g):=by
 unfold zDt;rw [if_pos (by rw [List.length_map];exact hl),zCu h]
theorem bSum_l {ns:List Int}:tV [.lst (ns.map D.int)]=.ok (.int ns.sum):=by
 have e:∀ ns:List Int,jM (ns.map D.int)=some ns:=by
  intro ns
  induction ns with
  | nil=>rfl
  | cons i ns ih=>rw [List.map_cons,jM,ih]
 show (match jM (ns.map D.int) with | some ns=>Res.ok (D.int ns.sum) | none=>.no)=_
 rw [e]
theorem bSum_t {ns:List Int}:tV [.tup (ns.map D.int)]=.ok (.int ns.sum):=by
 have e:∀ ns:List Int,jM (ns.map D.int)=some ns:=by
  intro ns
  induction ns with
  | nil=>rfl
  | cons i ns ih=>rw [List.map_cons,jM,ih]
 show (match jM (ns.map D.int) with | some ns=>Res.ok (D.int ns.sum) | none=>.no)=_
 rw [e]
def slI (i:Nat) (ρ:Rho):Int:=match ρ[i]? with
 | some (.val (.int x))=>x
 | _=>0
theorem rD {α:Type} (p:α->Bool):∀ l:List α,nG (l.map fun a=>D.bl (p a))=some (l.map p)
 | []=>rfl
 | a::l=>by rw [List.map_cons,nG,rD p l];rfl
theorem zEN {α:Type} {p:α->Bool} {l:List α}:zJC [.lst (l.map fun a=>D.bl (p a))]=.ok (.bl (l.all p)):=by
 show (match nG (l.map fun a=>D.bl (p a)) with | some bs=>Res.ok (D.bl (bs.all id)) | none=>.no)=_
 rw [rD]
 show Res.ok (D.bl ((l.map p).all id))=_
 rw [List.all_map]
 rfl
theorem chO_s {c:Nat}:chO (some c)=.ok (.str ⟨#[c]⟩):=rfl
theorem zJP {x:Str}:dep (.str x)<=50:=by simp [dep]
theorem oEq_s {x y:Str}:oEq (.str x) (.str y)=.ok (.bl (x==y)):=by
 unfold oEq;rw [if_pos zJP,eqD]
theorem oNe_s {x y:Str}:oNe (.str x) (.str y)=.ok (.bl (!(x==y))):=by
 unfold oNe;rw [if_pos zJP,eqD]
theorem fA {g:Gv} {b:Sv} {d:D} {ds:List D} {ρ ρ1 ρ2:Rho} (hg:g d ρ=.ok ρ1) (hb:b ρ1=.ok (.nx ρ2)):loop g b (d::ds) ρ=loop g b ds ρ2:=by
 rw [loop]
 simp only [hg,Res.bind,hb]
theorem oTabNot_s {T:List (Str×Str)} {x:Str}:mE T (.str x)=.ok (.bl (!(T.lookup x).isSome)):=rfl
theorem wJ {α:Type} (p:α->Int):∀ l:List α,jM (l.map fun a=>D.int (p a))=some (l.map p)
 | []=>rfl
 | a::l=>by rw [List.map_cons,jM,wJ p l];rfl
def mx0:List Int->Int
 | []=>0
 | a::r=>rQ a r
theorem zDm {α:Type} {p:α->Int} {l:List α}:yN [.lst (l.map fun a=>D.int (p a)),.int 0]=.ok (.int (mx0 (l.map p))):=by
 show (match jM (l.map fun a=>D.int (p a)) with | some (a::r)=>Res.ok (D.int (rQ a r)) | some []=>.ok (.int 0) | none=>.no)=_
 rw [wJ]
 cases l<;>rfl
def zLY:List D->Res (List D)
 | [x,y]=>match pM x,pM y with
  | some xs,some ys=>.ok (iI xs ys)
  | _,_=>.no
 | _=>.no
theorem iZip_at {a:Fv} {ρ:Rho}:zGP a ρ=(a ρ).bind zLY:=by
 unfold zGP;congr
theorem mW {x y:D} {xs ys:List D} (hx:pM x=some xs) (hy:pM y=some ys):zLY [x,y]=.ok (iI xs ys):=by
 show (match pM x,pM y with | some xs,some ys=>Res.ok (iI xs ys) | _,_=>.no)=_
 rw [hx,hy]
def zHq:D->Res (List D)
 | .lst ds=>.ok (lI 0 ds)
 | .tup ds=>.ok (lI 0 ds)
 | _=>.no
theorem enumF_t {ds:List D}:zHq (.tup ds)=.ok (lI 0 ds):=rfl
theorem enumF_l {ds:List D}:zHq (.lst ds)=.ok (lI 0 ds):=rfl
theorem iEnum_at {e:Ev} {ρ:Rho}:zFs e ρ=(e ρ).bind zHq:=by
 unfold zFs;congr
def zCk (f:Ev) (ρ:Rho) (ds:List D):Res (List D):=if ds.length<=16777215 then dH f ρ ds else .no
theorem fComp2_at {it:Fv} {f:Ev} {ρ:Rho}:kR it f ρ=(it ρ).bind (zCk f ρ):=rfl
theorem zAm {α β:Type} {u:α->D} {v:β->D} {f:Ev} {ρ:Rho} {g:α->β->D}:∀ {l:List α} {m:List β},(∀ p∈l.zip m,f (ρ++[.val (u p.1),.val (v p.2)])=.ok (g p.1 p.2))->
  dH f ρ (iI (l.map u) (m.map v))=.ok ((l.zip m).map fun p=>g p.1 p.2)
 | [],m,h=>by cases m<;>rfl
 | a::l,[],h=>rfl
 | a::l,b::m,h=>by
  have h1:=h (a,b) List.mem_cons_self
  have h2:=zAm (l:=l) (m:=m) (u:=u) (v:=v) (g:=g) fun p hp=>h p (List.mem_cons_of_mem _ hp)
  show (noErr (f (ρ++[.val (u a),.val (v b)]))).bind (fun e=>(dH f ρ (iI (l.map u) (m.map v))).bind fun es=>.ok (e::es))=_
  rw [h1,h2]
  rfl
theorem iV {α β:Type} {u:α->D} {v:β->D} {f:Ev} {ρ:Rho} {g:α->β->D} {l:List α} {m:List β} (hl:l.length<=16777215) (h:∀ p∈l.zip m,f (ρ++[.val (u p.1),.val (v p.2)])=.ok (g p.1 p.2)):
  zCk f ρ (iI (l.map u) (m.map v))=.ok ((l.zip m).map fun p=>g p.1 p.2):=by
 unfold zCk
 rw [if_pos,zAm h]
 have:∀ (a b:List D),(iI a b).length<=a.length:=by
  intro a
  induction a with
  | nil=>intro b;cases b<;>exact Nat.le_refl _
  | cons x a ih=>intro b;cases b with
   | nil=>exact Nat.zero_le _
   | cons y b=>exact Nat.succ_le_succ (ih b)
 exact Nat.le_trans (this _ _) (by rw [List.length_map];exact hl)
end L3
namespace Ln
open Fq
abbrev Pt:=Rat×Rat
def btw (a b c:Pt):Bool:=decide ((b.2 - a.2) * (c.1 - b.1)=(c.2 - b.2) * (b.1 - a.1))
def push:List Pt->Pt->List Pt
 | b::a::s,c=>if btw a b c=true then c::a::s else c::b::a::s
 | s,c=>c::s
def few:Pt->List Pt->List Pt
 | _,[]=>[]
 | _,[b]=>[b]
 | a,b::c::r=>if btw a b c=true then few b (c::r) else b::few b (c::r)
theorem lt_iff {p q:Rat}:p.num * q.den < q.num * p.den ↔ p < q:=Rat.lt_iff p q |>.symm
end Ln
namespace L3
open PySem PySem.Spec PyProof.Rows L2
abbrev St:=L2.St
mutual
inductive IsD (K:PySem.W.Frag) (H:Hp):V->D->Prop where
 | non:IsD K H .non .non
 | bl (b:Bool):IsD K H (.bl b) (.bl b)
 | int (i:Int):IsD K H (.int i) (.int i)
 | str (x:Str):IsD K H (.str x) (.str x)
 | tup {a:Addr} {xs:List V} {ds:List D}:SqT K H a xs->IsDs K H xs ds->IsD K H (.ref a) (.tup ds)
 | lst {a:Addr} {xs:List V} {ds:List D}:SqL K H a xs->IsDs K H xs ds->IsD K H (.ref a) (.lst ds)
inductive IsDs (K:PySem.W.Frag) (H:Hp):List V->List D->Prop where
 | nil:IsDs K H [] []
 | cons {v:V} {d:D} {vs:List V} {ds:List D}:IsD K H v d->IsDs K H vs ds->IsDs K H (v::vs) (d::ds)
end
theorem _root_.L2.Same.rd {H H':Hp} (e:Same H H') {a:Addr} {u:HO} (h:Rd H a u):Rd H' a u:=by
 rcases h with h | ⟨o,h⟩
 ·exact .inl (e _ _ h)
 ·exact .inr ⟨o,e _ _ h⟩
theorem bN {K:PySem.W.Frag} {H H':Hp} (e:Same H H') {a:Addr} {xs:List V} (h:SqT K H a xs):SqT K H' a xs:=h.imp (Same.rd e) id
theorem bS {K:PySem.W.Frag} {H H':Hp} (e:Same H H') {a:Addr} {xs:List V} (h:SqL K H a xs):SqL K H' a xs:=h.imp (Same.rd e) id
section
variable {K:PySem.W.Frag} {H H':Hp}
mutual
theorem IsD.mono (e:Same H H'):∀ {v:V} {d:D},IsD K H v d->IsD K H' v d
 | _,_,.non=>.non
 | _,_,.bl b=>.bl b
 | _,_,.int i=>.int i
 | _,_,.str x=>.str x
 | _,_,.tup h hs=>.tup (bN e h) (IsDs.mono e hs)
 | _,_,.lst h hs=>.lst (bS e h) (IsDs.mono e hs)
theorem IsDs.mono (e:Same H H'):∀ {vs:List V} {ds:List D},IsDs K H vs ds->IsDs K H' vs ds
 | _,_,.nil=>.nil
 | _,_,.cons h hs=>.cons (IsD.mono e h) (IsDs.mono e hs)
end
theorem IsDs.length:∀ {vs:List V} {ds:List D},IsDs K H vs ds->vs.length=ds.length
 | _,_,.nil=>rfl
 | _,_,.cons _ hs=>by rw [List.length_cons,List.length_cons,IsDs.length hs]
theorem IsDs.at:∀ {vs:List V} {ds:List D} {j:Nat} {d:D},IsDs K H vs ds->ds[j]?=some d->∃ v,vs[j]?=some v/\IsD K H v d
 | _,_,_,_,.nil,e=>by simp at e
 | _,_,0,_,.cons r _,e=>by simp at e;subst e;exact ⟨_,rfl,r⟩
 | _,_,j+1,d,.cons _ t,e=>by
  obtain ⟨v,h1,h2⟩:=IsDs.at (j:=j) (d:=d) t (by simpa using e)
  exact ⟨v,by simpa using h1,h2⟩
theorem IsDs.append:∀ {vs ws:List V} {ds es:List D},IsDs K H vs ds->IsDs K H ws es->IsDs K H (vs++ws) (ds++es)
 | _,_,_,_,.nil,s=>s
 | _,_,_,_,.cons r t,s=>.cons r (IsDs.append t s)
theorem IsDs.take:∀ {vs:List V} {ds:List D} (n:Nat),IsDs K H vs ds->IsDs K H (vs.take n) (ds.take n)
 | _,_,0,_=>.nil
 | _,_,_+1,.nil=>.nil
 | _,_,n+1,.cons r t=>.cons r (IsDs.take n t)
theorem IsDs.drop:∀ {vs:List V} {ds:List D} (n:Nat),IsDs K H vs ds->IsDs K H (vs.drop n) (ds.drop n)
 | _,_,0,r=>r
 | _,_,_+1,.nil=>.nil
 | _,_,n+1,.cons _ t=>IsDs.drop n t
theorem IsDs.set {v:V} {d:D} (h:IsD K H v d):∀ {vs:List V} {ds:List D} (j:Nat),IsDs K H vs ds->IsDs K H (vs.set j v) (ds.set j d)
 | _,_,_,.nil=>.nil
 | _,_,0,.cons _ t=>.cons h t
 | _,_,j+1,.cons q t=>.cons q (IsDs.set h j t)
mutual
theorem IsD.noL (k:∀ b xs,Rd H b (.tup xs)->Rd H' b (.tup xs)):∀ {v:V} {d:D},IsD K H v d->L3.noL d=true->IsD K H' v d
 | _,_,.non,_=>.non
 | _,_,.bl b,_=>.bl b
 | _,_,.int i,_=>.int i
 | _,_,.str x,_=>.str x
 | _,_,.tup h hs,e=>.tup (h.imp (k _ _) id) (IsDs.noL k hs (by rw [L3.noL] at e;exact e))
 | _,_,.lst h hs,e=>by rw [L3.noL] at e;cases e
theorem IsDs.noL (k:∀ b xs,Rd H b (.tup xs)->Rd H' b (.tup xs)):∀ {vs:List V} {ds:List D},IsDs K H vs ds->L3.noLs ds=true->IsDs K H' vs ds
 | _,_,.nil,_=>.nil
 | _,_,.cons h hs,e=>by
  rw [L3.noLs,Bool.and_eq_true] at e
  exact .cons (IsD.noL k h e.1) (IsDs.noL k hs e.2)
end
end
theorem IsD.intI {K:PySem.W.Frag} {H:Hp} {v:V} {i:Int} (h:IsD K H v (.int i)):v=.int i:=by cases h;rfl
theorem IsD.blI {K:PySem.W.Frag} {H:Hp} {v:V} {b:Bool} (h:IsD K H v (.bl b)):v=.bl b:=by cases h;rfl
theorem IsD.strI {K:PySem.W.Frag} {H:Hp} {v:V} {x:Str} (h:IsD K H v (.str x)):v=.str x:=by cases h;rfl
theorem IsD.tupI {K:PySem.W.Frag} {H:Hp} {v:V} {ds:List D} (h:IsD K H v (.tup ds)):∃ a xs,v=.ref a/\SqT K H a xs/\IsDs K H xs ds:=by
 cases h with
 | tup h hs=>exact ⟨_,_,rfl,h,hs⟩
theorem IsD.lstI {K:PySem.W.Frag} {H:Hp} {v:V} {ds:List D} (h:IsD K H v (.lst ds)):∃ a xs,v=.ref a/\SqL K H a xs/\IsDs K H xs ds:=by
 cases h with
 | lst h hs=>exact ⟨_,_,rfl,h,hs⟩
def nY:Str := "ranked.<locals>.<lambda>"
def vT (P:Addr) (H:Hp):Prop:=∃ ps,H P=some (.tbl ps)/\TriplesOk ps.toList/\∀ (pos:Pos) (cv:Value),codeAmong pos ps.toList=some cv->∃ c oc vs t u,cv=.ref c/\H c=some (.frz oc u)/\oc.data=.fields vs/\vs[1]?=some (.str nY t)
theorem vT.put {P a:Addr} {H:Hp} {x:HO} (h:vT P H) (h1:∀ ps,H a≠some (.tbl ps)) (h2:∀ o u,H a≠some (.frz o u)):vT P (upd H a x):=by
 obtain ⟨ps,e,t,k⟩:=h
 refine ⟨ps,by rw [aO (show P≠a from fun z=>h1 ps (by rw [<-z];exact e))];exact e,t,fun pos cv q=>?_⟩
 obtain ⟨c,oc,vs,tk,u,r1,r2,r3⟩:=k pos cv q
 exact ⟨c,oc,vs,tk,u,r1,by rw [aO (show c≠a from fun z=>h2 oc u (by rw [<-z];exact r2))];exact r2,r3⟩
structure Keep (H H':Hp):Prop where
 k:∀ b o,H b=some o->H' b=some o∨∃ ps ps',o=.tbl ps/\H' b=some (.tbl ps')
 t:∀ P,vT P H->vT P H'
theorem Keep.refl (H:Hp):Keep H H:=⟨fun _ _ e=>.inl e,fun _ e=>e⟩
theorem Keep.trans {H H1 H2:Hp} (a:Keep H H1) (b:Keep H1 H2):Keep H H2:=
 ⟨fun c o e=>by
  rcases a.k c o e with z | ⟨ps,ps',rfl,z⟩
  ·exact b.k c o z
  ·rcases b.k c _ z with y | ⟨qs,qs',_,y⟩
   ·exact .inr ⟨ps,ps',rfl,y⟩
   ·exact .inr ⟨ps,qs',rfl,y⟩,fun P e=>b.t P (a.t P e)⟩
theorem Keep.at {H H':Hp} (k:Keep H H') {b:Addr} {o:HO} (e:H b=some o) (ho:∀ ps,o≠.tbl ps:=by intro ps z;cases z):H' b=some o:=by
 rcases k.k b o e with z | ⟨ps,ps',z,_⟩
 ·exact z
 ·exact absurd z (ho ps)
theorem Keep.none {H H':Hp} (k:Keep H H') {p:Addr} (e:H' p=none):H p=none:=by
 cases z:H p with
 | none=>rfl
 | some o=>rcases k.k p o z with y | ⟨_,_,_,y⟩<;>(rw [y] at e;cases e)
structure Ext (Hi H Hi' H':Hp):Prop where
 i:Same Hi Hi'
 h:Keep H H'
 s:Same Hi' H'
 n:∀ b,Hi b=none->Hi' b≠none->H b=none
theorem Ext.refl {Hi H:Hp} (h:Same Hi H):Ext Hi H Hi H:=⟨Same.refl _,Keep.refl _,h,fun _ e q=>absurd e q⟩
theorem Ext.trans {Hi H Hi1 H1 Hi2 H2:Hp} (a:Ext Hi H Hi1 H1) (b:Ext Hi1 H1 Hi2 H2):Ext Hi H Hi2 H2:=
 ⟨a.i.trans b.i,a.h.trans b.h,b.s,fun c e q=>by
  cases z:Hi1 c with
  | some o=>exact a.n c e (by rw [z];exact fun w=>by cases w)
  | none=>
   have z2:=b.n c z q
   exact a.h.none z2⟩
theorem bM {H:Hp} {p:Addr} (h:H p=none) (o:HO):Same H (upd H p o):=fun b u q=>by rw [aO (aS q h)];exact q
theorem zAf {H:Hp} {p:Addr} (h:H p=none) (o:HO):Keep H (upd H p o):=⟨fun b u q=>.inl (bM h o b u q),fun P e=>e.put (fun ps z=>by rw [h] at z;cases z) (fun ob u z=>by rw [h] at z;cases z)⟩
theorem _root_.L2.Same.none {H H':Hp} (h:Same H H') {p:Addr} (e:H' p=none):H p=none:=by
 cases z:H p with
 | none=>rfl
 | some o=>rw [h _ _ z] at e;cases e
theorem Ext.new {Hi H:Hp} {p:Addr} {o:HO} (h:Same Hi H) (hp:H p=none):Ext Hi H (upd Hi p o) (upd H p o) where
 i:=bM (h.none hp) o
 h:=zAf hp o
 s:=fun b u q=>by
  by_cases e:b=p
  ·subst e;rw [aP] at q ⊢;exact q
  ·rw [aO e] at q ⊢;exact h _ _ q
 n:=fun b e q=>by
  by_cases z:b=p
  ·rw [z];exact hp
  ·rw [aO z] at q;exact absurd e q
theorem Ext.newF {Hi H:Hp} {p:Addr} {o:HO} (h:Same Hi H) (hp:H p=none):Ext Hi H Hi (upd H p o) where
 i:=Same.refl _
 h:=zAf hp o
 s:=h.trans (bM hp o)
 n:=fun b e q=>absurd e q
theorem Ext.out {Hi H Hi' H':Hp} (e:Ext Hi H Hi' H') {a:Addr} {o:HO} (h:H a=some o) (hi:Hi a=none) (ho:∀ ps,o≠.tbl ps:=by intro ps z;cases z):H' a=some o/\Hi' a=none:=by
 refine ⟨e.h.at h ho,?_⟩
 cases z:Hi' a with
 | none=>rfl
 | some u=>have:=e.n a hi (by rw [z];exact fun w=>by cases w);rw [h] at this;cases this
theorem Ext.hold {Hi H Hi' H':Hp} (e:Ext Hi H Hi' H') {a:Addr} {o:HO} (hn:H a=none) (h:H' a=some o) (hi:Hi' a=none):Ext Hi H (upd Hi' a o) H' where
 i:=e.i.trans (bM hi o)
 h:=e.h
 s:=fun b u q=>by
  by_cases z:b=a
  ·subst z;rw [aP] at q;cases q;exact h
  ·rw [aO z] at q;exact e.s _ _ q
 n:=fun b z q=>by
  by_cases w:b=a
  ·rw [w];exact hn
  ·rw [aO w] at q;exact e.n b z q
def zLD (a C:Addr):Heap->Prop:=fun h=>∃ o vs,h.get? a=some o/\o.cls=.ref C/\o.data=.fields vs
def kvT (T:List (Str×Str)):List (Key×V):=T.map fun q=>(Sum.inr q.1,V.str q.2)
def zQ (K:PySem.W.Frag) (mg:Str->Option Value) (B Hi H:Hp) (o:Option (Option V)):Sl->Prop
 | .un=>True
 | .val d=>∃ v,o=some (some v)/\IsD K Hi v d
 | .own ds=>∃ a xs,o=some (some (.ref a))/\H a=some (.lst xs)/\Hi a=none/\B a=none/\IsDs K Hi xs ds
 | .exc c=>∃ a C,o=some (some (.ref a))/\H a=some (.ext (zLD a C))/\Hi a=none/\B a=none/\mg c=some (.ref C)
 | .tab T=>∃ a,o=some (some (.ref a))/\Hi a=some (.dK (kvT T))
structure Rel (K:PySem.W.Frag) (mg:Str->Option Value) (B Bi Hi H:Hp) (σ:St) (ρ:Rho):Prop where
 len:σ.length=ρ.length
 ext:Ext Bi B Hi H
 slot:∀ (i:Nat) (s:Sl),ρ[i]?=some s->zQ K mg B Hi H σ[i]? s
 dist:∀ (i j:Nat) (a:Addr) (ds es:List D),ρ[i]?=some (.own ds)->ρ[j]?=some (.own es)->σ[i]?=some (some (.ref a))->σ[j]?=some (some (.ref a))->i=j
section
variable {K:PySem.W.Frag} {mg:Str->Option Value} {B Bi Hi H Hi' H':Hp} {σ:St} {ρ:Rho}
theorem zQ.ext {o:Option (Option V)} {s:Sl} (h:zQ K mg B Hi H o s) (e:Ext Hi H Hi' H'):zQ K mg B Hi' H' o s:=by
 cases s with
 | un=>trivial
 | val d=>obtain ⟨v,q,r⟩:=h;exact ⟨v,q,r.mono e.i⟩
 | own ds=>
  obtain ⟨a,xs,q,h1,h2,h3,h4⟩:=h
  obtain ⟨e1,e2⟩:=e.out h1 h2
  exact ⟨a,xs,q,e1,e2,h3,h4.mono e.i⟩
 | exc c=>
  obtain ⟨a,C,q,h1,h2,h3,h4⟩:=h
  obtain ⟨e1,e2⟩:=e.out h1 h2
  exact ⟨a,C,q,e1,e2,h3,h4⟩
 | tab T=>obtain ⟨a,q,h1⟩:=h;exact ⟨a,q,e.i _ _ h1⟩
theorem Rel.grow (R:Rel K mg B Bi Hi H σ ρ) (e:Ext Hi H Hi' H'):Rel K mg B Bi Hi' H' σ ρ:=⟨R.len,R.ext.trans e,fun i s q=>(R.slot i s q).ext e,R.dist⟩
theorem Rel.s (R:Rel K mg B Bi Hi H σ ρ):Same Hi H:=R.ext.s
theorem Rel.set {i:Nat} {v:V} {d:D} (R:Rel K mg B Bi Hi H σ ρ) (h:IsD K Hi v d):Rel K mg B Bi Hi H (σ.set i (some v)) (ρ.set i (.val d)) where
 len:=by rw [List.length_set,List.length_set];exact R.len
 ext:=R.ext
 slot:=fun j s q=>by
  by_cases e:i=j
  ·subst e
   by_cases hl:i < ρ.length
   ·rw [List.getElem?_set_self hl] at q;cases q
    exact ⟨v,by rw [List.getElem?_set_self (by rw [R.len];exact hl)],h⟩
   ·rw [List.getElem?_eq_none (by rw [List.length_set];omega)] at q;cases q
  ·rw [List.getElem?_set_ne e] at q ⊢
   exact R.slot j s q
 dist:=fun j k a ds es q1 q2 q3 q4=>by
  have h1:∀ {j:Nat} {ds:List D},(ρ.set i (.val d))[j]?=some (.own ds)->i≠j:=fun {j ds} q e=>by
   subst e
   by_cases hl:i < ρ.length
   ·rw [List.getElem?_set_self hl] at q;cases q
   ·rw [List.getElem?_eq_none (by rw [List.length_set];omega)] at q;cases q
  have n1:=h1 q1
  have n2:=h1 q2
  rw [List.getElem?_set_ne n1] at q1 q3
  rw [List.getElem?_set_ne n2] at q2 q4
  exact R.dist j k a ds es q1 q2 q3 q4
theorem Rel.setOwn {i:Nat} {a:Addr} {xs:List V} {ds:List D} (R:Rel K mg B Bi Hi H σ ρ) (e:Ext Hi H Hi' H') (hn:H a=none) (h:H' a=some (.lst xs)) (hi:Hi' a=none) (hs:IsDs K Hi' xs ds):
  Rel K mg B Bi Hi' H' (σ.set i (some (.ref a))) (ρ.set i (.own ds)) where
 len:=by rw [List.length_set,List.length_set];exact R.len
 ext:=R.ext.trans e
 slot:=fun j s q=>by
  by_cases z:i=j
  ·subst z
   by_cases hl:i < ρ.length
   ·rw [List.getElem?_set_self hl] at q;cases q
    exact ⟨a,xs,by rw [List.getElem?_set_self (by rw [R.len];exact hl)],h,hi,R.ext.h.none hn,hs⟩
   ·rw [List.getElem?_eq_none (by rw [List.length_set];omega)] at q;cases q
  ·rw [List.getElem?_set_ne z] at q ⊢
   exact (R.slot j s q).ext e
 dist:=fun j k b es fs q1 q2 q3 q4=>by
  have h1:∀ {j:Nat} {es:List D},i≠j->ρ[j]?=some (.own es)->σ[j]?=some (some (.ref a))->False:=fun {j es} _ p1 p2=>by
   obtain ⟨a',xs',q,h1,_⟩:=R.slot j _ p1
   rw [p2] at q
   cases q
   rw [hn] at h1;cases h1
  have h2:∀ {j:Nat} {es:List D},(ρ.set i (.own ds))[j]?=some (.own es)->i < σ.length∨i≠j:=fun {j es} p=>by
   by_cases z:i=j
   ·subst z
    by_cases hl:i < ρ.length
    ·exact .inl (by rw [R.len];exact hl)
    ·rw [List.getElem?_eq_none (by rw [List.length_set];omega)] at p;cases p
   ·exact .inr z
  by_cases z1:i=j
  ·by_cases z2:i=k
   ·rw [<-z1,<-z2]
   ·exfalso
    subst z1
    have hl:i < σ.length:=(h2 q1).resolve_right (fun w=>w rfl)
    rw [List.getElem?_set_self hl] at q3;cases q3
    rw [List.getElem?_set_ne z2] at q2 q4
    exact h1 z2 q2 q4
  ·by_cases z2:i=k
   ·exfalso
    subst z2
    have hl:i < σ.length:=(h2 q2).resolve_right (fun w=>w rfl)
    rw [List.getElem?_set_self hl] at q4;cases q4
    rw [List.getElem?_set_ne z1] at q1 q3
    exact h1 z1 q1 q3
   ·rw [List.getElem?_set_ne z1] at q1 q3
    rw [List.getElem?_set_ne z2] at q2 q4
    exact R.dist j k b es fs q1 q2 q3 q4
theorem Rel.write {i:Nat} {a:Addr} {ys:List V} {ds es:List D} (R:Rel K mg B Bi Hi H σ ρ) (e:ρ[i]?=some (.own ds)) (ea:σ[i]?=some (some (.ref a))) (hs:IsDs K Hi ys es):
  Rel K mg B Bi Hi (upd H a (.lst ys)) σ (ρ.set i (.own es)):=by
 obtain ⟨a',xs',q,h1,h2,h3,h4⟩:=R.slot i _ e
 rw [ea] at q
 cases q
 have hl:i < ρ.length:=by
  by_cases hl:i < ρ.length
  ·exact hl
  ·rw [List.getElem?_eq_none (by omega)] at e;cases e
 refine ⟨by rw [List.length_set];exact R.len,⟨R.ext.i,⟨fun b o z=>?_,fun P z=>(R.ext.h.t P z).put (fun ps y=>by rw [h1] at y;cases y) (fun ob u y=>by rw [h1] at y;cases y)⟩,fun b o z=>?_,R.ext.n⟩,fun j s z=>?_,fun j k b fs gs q1 q2 q3 q4=>?_⟩
 ·rw [aO (aS z h3)];exact R.ext.h.k _ _ z
 ·rw [aO (aS z h2)];exact R.ext.s _ _ z
 ·by_cases w:i=j
  ·subst w
   rw [List.getElem?_set_self hl] at z;cases z
   exact ⟨a,ys,ea,aP,h2,h3,hs⟩
  ·rw [List.getElem?_set_ne w] at z
   have S:=R.slot j s z
   cases s with
   | un=>trivial
   | val d=>exact S
   | own fs=>
    obtain ⟨b,zs,p,g1,g2,g3,g4⟩:=S
    have hb:b≠a:=fun c=>w (R.dist i j a ds fs e z ea (by rw [p,c]))
    exact ⟨b,zs,p,by rw [aO hb];exact g1,g2,g3,g4⟩
   | exc c=>
    obtain ⟨b,C,p,g1,g2,g3,g4⟩:=S
    have hb:b≠a:=zJw g1 h1 (by intro z;cases z)
    exact ⟨b,C,p,by rw [aO hb];exact g1,g2,g3,g4⟩
   | tab T=>exact S
 ·have own:∀ {j:Nat} {fs:List D},(ρ.set i (.own es))[j]?=some (.own fs)->∃ gs,ρ[j]?=some (.own gs):=fun {j fs} p=>by
   by_cases w:i=j
   ·subst w;exact ⟨ds,e⟩
   ·rw [List.getElem?_set_ne w] at p;exact ⟨fs,p⟩
  obtain ⟨fs',q1'⟩:=own q1
  obtain ⟨gs',q2'⟩:=own q2
  exact R.dist j k b fs' gs' q1' q2' q3 q4
theorem Rel.frzAt {i:Nat} (R:Rel K mg B Bi Hi H σ ρ):∃ Hi',Same Hi Hi'/\Rel K mg B Bi Hi' H σ (L3.frzAt i ρ):=by
 unfold L3.frzAt
 split
 ·rename_i ds e
  obtain ⟨a,xs,q,h1,h2,h3,h4⟩:=R.slot i _ e
  have hl:i < ρ.length:=by
   by_cases hl:i < ρ.length
   ·exact hl
   ·rw [List.getElem?_eq_none (by omega)] at e;cases e
  have sm:Same Hi (upd Hi a (.lst xs)):=bM h2 _
  have ss:Same (upd Hi a (.lst xs)) H:=fun b u z=>by
   by_cases w:b=a
   ·subst w;rw [aP] at z;cases z;exact h1
   ·rw [aO w] at z;exact R.s _ _ z
  refine ⟨upd Hi a (.lst xs),sm,by rw [List.length_set];exact R.len,⟨R.ext.i.trans sm,R.ext.h,ss,fun b z w=>?_⟩,fun j s z=>?_,fun j k b fs gs q1 q2 q3 q4=>?_⟩
  ·by_cases c:b=a
   ·rw [c];exact h3
   ·rw [aO c] at w;exact R.ext.n b z w
  ·by_cases w:i=j
   ·subst w
    rw [List.getElem?_set_self hl] at z;cases z
    exact ⟨.ref a,q,.lst (SqL.of aP) (h4.mono sm)⟩
   ·rw [List.getElem?_set_ne w] at z
    have S:=R.slot j s z
    cases s with
    | un=>trivial
    | val d=>obtain ⟨v,p,r⟩:=S;exact ⟨v,p,r.mono sm⟩
    | own fs=>
     obtain ⟨b,zs,p,g1,g2,g3,g4⟩:=S
     have hb:b≠a:=fun c=>w (R.dist i j a ds fs e z q (by rw [p,c]))
     exact ⟨b,zs,p,g1,by rw [aO hb];exact g2,g3,g4.mono sm⟩
    | exc c=>
     obtain ⟨b,C,p,g1,g2,g3,g4⟩:=S
     have hb:b≠a:=zJw g1 h1 (by intro z;cases z)
     exact ⟨b,C,p,g1,by rw [aO hb];exact g2,g3,g4⟩
    | tab T=>obtain ⟨b,p,g1⟩:=S;exact ⟨b,p,sm _ _ g1⟩
  ·have own:∀ {j:Nat} {fs:List D},(ρ.set i (.val (.lst ds)))[j]?=some (.own fs)->ρ[j]?=some (.own fs):=fun {j fs} p=>by
    by_cases w:i=j
    ·subst w;rw [List.getElem?_set_self hl] at p;cases p
    ·rw [List.getElem?_set_ne w] at p;exact p
   exact R.dist j k b fs gs (own q1) (own q2) q3 q4
 ·exact ⟨Hi,Same.refl _,R⟩
end
end L3
namespace L3
open PySem PySem.Spec PyProof.Rows L2
section
variable {K:PySem.W.Frag} {mg:Str->Option Value} {B Bi Hi H Hi' H':Hp} {σ:St} {ρ:Rho}
theorem Rel.frz (R:Rel K mg B Bi Hi H σ ρ):∃ Hf,Same Hi Hf/\Rel K mg B Bi Hf H σ (ρ.map Sl.frz)/\∀ b,Hi b=none->Hf b≠none->∃ xs,Hf b=some (.lst xs):=by
 let own:Addr->Prop:=fun b=>∃ (i:Nat) (ds:List D),ρ[i]?=some (.own ds)/\σ[i]?=some (some (.ref b))
 have dec:∀ b,Decidable (own b):=fun b=>Classical.propDecidable _
 let Hf:Hp:=fun b=>match Hi b with
  | some o=>some o
  | none=>if own b then H b else none
 have hf1:∀ b o,Hi b=some o->Hf b=some o:=fun b o e=>by show (match Hi b with | some o=>some o | none=>if own b then H b else none)=_;rw [e]
 have hf2:∀ b,Hi b=none->own b->Hf b=H b:=fun b e z=>by show (match Hi b with | some o=>some o | none=>if own b then H b else none)=_;rw [e];exact if_pos z
 have hf3:∀ b,Hi b=none->¬ own b->Hf b=none:=fun b e z=>by show (match Hi b with | some o=>some o | none=>if own b then H b else none)=_;rw [e];exact if_neg z
 have lst:∀ b,own b->∃ xs,H b=some (.lst xs)/\Hi b=none/\B b=none:=fun b ⟨i,ds,e1,e2⟩=>by
  obtain ⟨a,xs,q,h1,h2,h3,h4⟩:=R.slot i _ e1
  rw [e2] at q;cases q
  exact ⟨xs,h1,h2,h3⟩
 have ss:Same Hf H:=fun b o z=>by
  cases q:Hi b with
  | some u=>rw [hf1 b u q] at z;cases z;exact R.s _ _ q
  | none=>
   by_cases w:own b
   ·rw [hf2 b q w] at z;exact z
   ·rw [hf3 b q w] at z;cases z
 refine ⟨Hf,hf1,⟨by rw [List.length_map];exact R.len,⟨R.ext.i.trans hf1,R.ext.h,ss,fun b z w=>?_⟩,fun j s z=>?_,fun j k b fs gs q1 q2 q3 q4=>?_⟩,fun b z w=>?_⟩
 ·cases q:Hi b with
  | some u=>exact R.ext.n b z (by rw [q];exact fun c=>by cases c)
  | none=>
   by_cases c:own b
   ·exact (lst b c).choose_spec.2.2
   ·exact absurd (hf3 b q c) w
 ·rw [List.getElem?_map] at z
  cases e:ρ[j]? with
  | none=>rw [e] at z;cases z
  | some t=>
   rw [e] at z
   cases z
   have S:=R.slot j t e
   cases t with
   | un=>trivial
   | val d=>obtain ⟨v,p,r⟩:=S;exact ⟨v,p,r.mono hf1⟩
   | own ds=>
    obtain ⟨a,xs,q,h1,h2,h3,h4⟩:=S
    exact ⟨.ref a,q,.lst (SqL.of (by rw [hf2 a h2 ⟨j,ds,e,q⟩];exact h1)) (h4.mono hf1)⟩
   | exc c=>
    obtain ⟨a,C,q,h1,h2,h3,h4⟩:=S
    refine ⟨a,C,q,h1,?_,h3,h4⟩
    refine hf3 a h2 fun c=>?_
    obtain ⟨xs,g,_⟩:=lst a c
    rw [h1] at g;cases g
   | tab T=>obtain ⟨a,q,h1⟩:=S;exact ⟨a,q,hf1 _ _ h1⟩
 ·exfalso
  rw [List.getElem?_map] at q1
  cases e:ρ[j]? with
  | none=>rw [e] at q1;cases q1
  | some t=>rw [e] at q1;cases t<;>cases q1
 ·by_cases c:own b
  ·obtain ⟨xs,g,_⟩:=lst b c
   exact ⟨xs,by rw [hf2 b z c];exact g⟩
  ·exact absurd (hf3 b z c) w
theorem Ext.thaw {Hf:Hp} (s:Same Hi Hf) (fl:∀ b,Hi b=none->Hf b≠none->∃ xs,Hf b=some (.lst xs)) (hs:Same Hf H) (e:Ext Hf H Hi' H'):
  ∃ Ht,Ext Hi H Ht H'/\(∀ b xs,Rd Hi' b (.tup xs)->Rd Ht b (.tup xs))/\Same Ht Hi'/\∀ b,Ht b=none->Hi' b=none∨∃ xs,H b=some (.lst xs):=by
 have dec:∀ b,Decidable (Hi b=none/\Hf b≠none):=fun b=>Classical.propDecidable _
 let Ht:Hp:=fun b=>if Hi b=none/\Hf b≠none then none else Hi' b
 have t1:∀ b,¬ (Hi b=none/\Hf b≠none)->Ht b=Hi' b:=fun b z=>if_neg z
 have t2:∀ b,(Hi b=none/\Hf b≠none)->Ht b=none:=fun b z=>if_pos z
 have tt:Same Ht Hi':=fun b o z=>by
  by_cases w:Hi b=none/\Hf b≠none
  ·rw [t2 b w] at z;cases z
  ·rw [t1 b w] at z;exact z
 refine ⟨Ht,⟨fun b o z=>?_,e.h,tt.trans e.s,fun b z w=>?_⟩,fun b xs r=>?_,tt,fun b z=>?_⟩
 ·rw [t1 b (fun w=>by rw [z] at w;cases w.1)];exact e.i _ _ (s _ _ z)
 ·by_cases c:Hi b=none/\Hf b≠none
  ·exact absurd (t2 b c) w
  ·rw [t1 b c] at w
   have:Hf b=none:=by
    cases q:Hf b with
    | none=>rfl
    | some u=>exact absurd ⟨z,by rw [q];exact fun c=>by cases c⟩ c
   exact e.n b this w
 ·have nl:¬ (Hi b=none/\Hf b≠none):=fun w=>by
   obtain ⟨ys,g⟩:=fl b w.1 w.2
   have g':=e.i _ _ g
   rcases r with r | ⟨o,r⟩<;>(rw [g'] at r;cases r)
  rcases r with r | ⟨o,r⟩
  ·exact .inl (by rw [t1 b nl];exact r)
  ·exact .inr ⟨o,by rw [t1 b nl];exact r⟩
 ·by_cases c:Hi b=none/\Hf b≠none
  ·obtain ⟨ys,g⟩:=fl b c.1 c.2
   exact .inr ⟨ys,hs _ _ g⟩
  ·exact .inl (by rw [t1 b c] at z;exact z)
end
structure Gx where
 B:Hp
 Bi:Hp
 E:Str->Hp->Prop
abbrev iK (X:Cx) (G:Gx) (Hi H:Hp) (σ:St) (ρ:Rho):Prop:=Rel X.K X.mg G.B G.Bi Hi H σ ρ
def Out (G:Gx) (Hi H:Hp) {α:Type} (r:Res α) (k:α->Hp->Hp->Prop):Prop:=match r with
 | .ok a=>∀ Hi' H',Ext Hi H Hi' H'->k a Hi' H'
 | .err c=>∀ Hi' H',Ext Hi H Hi' H'->G.E c H'
 | .no=>False
theorem Out.bind {G:Gx} {Hi H:Hp} {α β:Type} {r:Res α} {f:α->Res β} {k:β->Hp->Hp->Prop} (h:Out G Hi H (r.bind f) k):
  Out G Hi H r fun a Hi' H'=>Out G Hi' H' (f a) k:=by
 cases r with
 | no=>exact h
 | err c=>exact h
 | ok a=>
  intro Hi1 H1 e
  have h':Out G Hi H (f a) k:=h
  show Out G Hi1 H1 (f a) k
  cases q:f a with
  | no=>rw [q] at h';exact h'
  | err c=>rw [q] at h';exact fun Hi2 H2 e2=>h' _ _ (e.trans e2)
  | ok b=>rw [q] at h';exact fun Hi2 H2 e2=>h' _ _ (e.trans e2)
theorem Out.imp {G:Gx} {Hi H:Hp} {α:Type} {r:Res α} {k k':α->Hp->Hp->Prop} (h:Out G Hi H r k) (f:∀ a Hi' H',Ext Hi H Hi' H'->k a Hi' H'->k' a Hi' H'):Out G Hi H r k':=by
 cases r with
 | no=>exact h
 | err c=>exact h
 | ok a=>exact fun Hi1 H1 e=>f a Hi1 H1 e (h Hi1 H1 e)
theorem Out.here {G:Gx} {Hi H:Hp} {α:Type} {a:α} {k:α->Hp->Hp->Prop} (h:Out G Hi H (.ok a) k) (s:Same Hi H):k a Hi H:=h Hi H (Ext.refl s)
def tD (X:Cx) (G:Gx) (f:Ev):TE:=fun σ H Q=>∃ ρ Hi,iK X G Hi H σ ρ/\Out G Hi H (f ρ) fun d Hi' H'=>∀ v,IsD X.K Hi' v d->Q v H'
def zDT (K:PySem.W.Frag) (H Hi' H':Hp) (a:Addr) (ds:List D):Prop:=H a=none/\Hi' a=none/\∃ xs,H' a=some (.lst xs)/\IsDs K Hi' xs ds
def tF (X:Cx) (G:Gx) (f:Fv):TE:=fun σ H Q=>∃ ρ Hi,iK X G Hi H σ ρ/\Out G Hi H (f ρ) fun ds Hi' H'=>∀ a,zDT X.K H Hi' H' a ds->Q (.ref a) H'
def tTb (X:Cx) (G:Gx) (f:Tv):TT:=fun σ H Q=>∃ ρ Hi,iK X G Hi H σ ρ/\Out G Hi H (f ρ) fun b _ H'=>Q b H'
def tAs (X:Cx) (G:Gx) (f:Fv):TA:=fun σ H Q=>∃ ρ Hi,iK X G Hi H σ ρ/\Out G Hi H (f ρ) fun ds Hi' H'=>∀ vs,IsDs X.K Hi' vs ds->Q vs H'
def Fin (X:Cx) (G:Gx) (Hi:Hp) (E:Ends) (r:Res Fl):Prop:=match r with
 | .ok (.nx ρ')=>∀ σ' Hi' H',Same Hi Hi'->iK X G Hi' H' σ' ρ'->E.nx σ' H'
 | .ok (.brk ρ')=>∀ σ' Hi' H',Same Hi Hi'->iK X G Hi' H' σ' ρ'->E.bk σ' H'
 | .ok (.ctn ρ')=>∀ σ' Hi' H',Same Hi Hi'->iK X G Hi' H' σ' ρ'->E.ct σ' H'
 | .ok (.ret (.v d))=>∀ v Hi' H',Ext G.Bi G.B Hi' H'->IsD X.K Hi' v d->E.rt v H'
 | .ok (.ret (.f ds))=>∀ a Hi' H',Ext G.Bi G.B Hi' H'->zDT X.K G.B Hi' H' a ds->E.rt (.ref a) H'
 | .err c=>∀ Hi' H',Ext G.Bi G.B Hi' H'->G.E c H'
 | .no=>False
theorem Fin.mono {X:Cx} {G:Gx} {Hi Hi':Hp} {E:Ends} {r:Res Fl} (h:Fin X G Hi E r) (s:Same Hi Hi'):Fin X G Hi' E r:=by
 cases r with
 | no=>exact h
 | err c=>exact h
 | ok f=>
  cases f with
  | nx ρ=>exact fun σ' Hi2 H2 s2=>h σ' Hi2 H2 (s.trans s2)
  | brk ρ=>exact fun σ' Hi2 H2 s2=>h σ' Hi2 H2 (s.trans s2)
  | ctn ρ=>exact fun σ' Hi2 H2 s2=>h σ' Hi2 H2 (s.trans s2)
  | ret r=>cases r<;>exact h
def tS (X:Cx) (G:Gx) (f:Sv):TS:=fun E σ H=>∃ ρ Hi,iK X G Hi H σ ρ/\Fin X G Hi E (f ρ)
@[irreducible] def PEd (X:Cx) (G:Gx) (e:Expr) (f:Ev):Prop:=PE X e (tD X G f)
unseal PEd
@[irreducible] def PEf (X:Cx) (G:Gx) (e:Expr) (f:Fv):Prop:=PE X e (tF X G f)
unseal PEf
@[irreducible] def PTd (X:Cx) (G:Gx) (e:Expr) (f:Tv):Prop:=PT X e (tTb X G f)
unseal PTd
@[irreducible] def PWd (X:Cx) (G:Gx) (e:Expr) (f:Tv):Prop:=PW X e (tTb X G f)
unseal PWd
@[irreducible] def PAd (X:Cx) (G:Gx) (es:List Expr) (f:Fv):Prop:=PA X es (tAs X G f)
unseal PAd
@[irreducible] def PSd (X:Cx) (G:Gx) (s:Stmt) (f:Sv):Prop:=PS X s (tS X G f)
unseal PSd
@[irreducible] def cN (X:Cx) (G:Gx) (s:List Stmt) (f:Sv):Prop:=PSs X s (tS X G f)
unseal cN
theorem PE.wk {X:Cx} {e:Expr} {t t':TE} (h:PE X e t) (w:∀ σ H Q,t' σ H Q->t σ H Q):PE X e t':=fun pins s σ H Q I q=>h pins s σ H Q I (w σ H Q q)
theorem PT.wk {X:Cx} {e:Expr} {t t':TT} (h:PT X e t) (w:∀ σ H Q,t' σ H Q->t σ H Q):PT X e t':=fun pins s σ H Q I q=>h pins s σ H Q I (w σ H Q q)
theorem PW.wk {X:Cx} {e:Expr} {t t':TT} (h:PW X e t) (w:∀ σ H Q,t' σ H Q->t σ H Q):PW X e t':=fun wh pins s σ H Q I q=>h wh pins s σ H Q I (w σ H Q q)
theorem PA.wk {X:Cx} {es:List Expr} {t t':TA} (h:PA X es t) (w:∀ σ H Q,t' σ H Q->t σ H Q):PA X es t':=fun pos pins s σ H Q I q=>h pos pins s σ H Q I (w σ H Q q)
theorem PS.wk {X:Cx} {s:Stmt} {t t':TS} (h:PS X s t) (w:∀ E σ H,t' E σ H->t E σ H):PS X s t':=fun pins s σ H E I q=>h pins s σ H E I (w E σ H q)
theorem PSs.wk {X:Cx} {s:List Stmt} {t t':TS} (h:PSs X s t) (w:∀ E σ H,t' E σ H->t E σ H):PSs X s t':=fun pins s σ H E I q=>h pins s σ H E I (w E σ H q)
section
variable {X:Cx} {G:Gx} {a b e:Expr} {es:List Expr} {pos:Pos} {f g:Ev}
theorem zIG (i:Nat) (h:PE X e (zAb i)):PEd X G e (aE i):=PE.wk h fun σ H Q q=>by
 obtain ⟨ρ,Hi,R,o⟩:=q
 unfold aE at o
 cases z:ρ[i]? with
 | none=>rw [z] at o;exact o.elim
 | some s=>
  rw [z] at o
  cases s with
  | val d=>
   obtain ⟨v,p,r⟩:=R.slot i _ z
   exact ⟨v,p,o.here R.s v r⟩
  | un=>exact o.elim
  | own ds=>exact o.elim
  | exc c=>exact o.elim
  | tab T=>exact o.elim
theorem qX {v:V} {d:D} (h:PE X e (tC v)) (r:∀ H,IsD X.K H v d):PEd X G e (eC d):=PE.wk h fun σ H Q q=>by
 obtain ⟨ρ,Hi,R,o⟩:=q
 exact o.here R.s v (r Hi)
theorem xI {Hi H:Hp} {σ:St} {ρ:Rho} {β:Type} {k:D->Res β} {k':β->Hp->Hp->Prop} {Q:VK} (R:iK X G Hi H σ ρ) (o:Out G Hi H ((f ρ).bind k) k')
  (w:∀ v d Hi' H',Ext Hi H Hi' H'->iK X G Hi' H' σ ρ->IsD X.K Hi' v d->Out G Hi' H' (k d) k'->Q v H'):tD X G f σ H Q:=
 ⟨ρ,Hi,R,o.bind.imp fun d Hi' H' e q v r=>w v d Hi' H' e (R.grow e) r q⟩
def OpK (X:Cx) (r:R2) (o:Op2):Prop:=(∀ a b c,o a b≠.err c)/\∀ (Hi H:Hp) (x y:V) (a b d:D) (Q:VK),Same Hi H->IsD X.K Hi x a->IsD X.K Hi y b->o a b=.ok d->
 (∀ v Hi' H',Ext Hi H Hi' H'->IsD X.K Hi' v d->Q v H')->r x y H Q
theorem op2 {r:R2} {o:Op2} (k:OpK X r o):∀ σ H Q,tD X G (eOp o f g) σ H Q->tOp r (tD X G f) (tD X G g) σ H Q:=fun σ H Q q=>by
 obtain ⟨ρ,Hi,R,ou⟩:=q
 refine xI R ou fun v d Hi1 H1 e1 R1 r1 o1=>?_
 refine xI R1 o1 fun w d' Hi2 H2 e2 R2 r2 o2=>?_
 cases z:o d d' with
 | no=>rw [z] at o2;exact o2.elim
 | err c=>exact absurd z (k.1 d d' c)
 | ok u=>
  rw [z] at o2
  exact k.2 Hi2 H2 v w d d' u Q R2.s (r1.mono e2.i) r2 z fun x Hi3 H3 e3 r3=>o2 Hi3 H3 e3 x r3
theorem aW {op:Operator} {r:R2} {o:Op2} (ho:OpR X (binaryOp op) r) (k:OpK X r o) (ha:PEd X G a f) (hb:PEd X G b g):PEd X G (.BinOp a op b pos) (eOp o f g):=PE.wk (zBL ho ha hb) (op2 k)
theorem qS {op:CmpOp} {r:R2} {o:Op2} (ho:OpR X (compareOp op) r) (k:OpK X r o) (ha:PEd X G a f) (hb:PEd X G b g) (hm:behindInMarks op b=false):PEd X G (.Compare a [op] [b] pos) (eOp o f g):=PE.wk (zHe ho ha hb hm) (op2 k)
theorem zEv {r:R2} {o:Op2} (ho:IxR X r) (k:OpK X r o) (ha:PEd X G a f) (hb:PEd X G b g) (hs:xZ b):PEd X G (.Subscript a b pos) (eOp o f g):=PE.wk (zAK ho ha hb hs) (op2 k)
theorem tst {op:CmpOp} {r:R2} {o:Op2} (ho:OpR X (compareOp op) r) (k:OpK X r o) (ha:PEd X G a f) (hb:PEd X G b g) (hm:behindInMarks op b=false):PTd X G (.Compare a [op] [b] pos) (eX (eOp o f g)):=
 PT.wk (zDj ho ha hb hm) fun σ H Q q=>by
  obtain ⟨ρ,Hi,R,ou⟩:=q
  refine op2 k σ H _ ⟨ρ,Hi,R,ou.bind.imp fun d Hi' H' e o v r=>?_⟩
  cases d with
  | bl c=>rw [r.blI];exact ⟨c,rfl,o.here e.s⟩
  | _=>exact o.elim
theorem zCZ (h:PEd X G a f) (he:∀ whole,isTrue a X.env whole=(do let v <-whole;standAt a.pos;holding [v] (truthy v)):=by intro _;rfl):PTd X G a (eX f):=PT.wk (zIJ h he) fun σ H Q q=>by
 obtain ⟨ρ,Hi,R,ou⟩:=q
 refine ⟨ρ,Hi,R,ou.bind.imp fun d Hi' H' e o v r=>?_⟩
 cases d with
 | bl c=>rw [r.blI];exact ⟨c,rfl,o.here e.s⟩
 | _=>exact o.elim
variable {t u:Tv}
theorem zKM {Hi H:Hp} {σ:St} {ρ:Rho} {β:Type} {k:Bool->Res β} {k':β->Hp->Hp->Prop} {Q:Bool->Hp->Prop} (R:iK X G Hi H σ ρ) (o:Out G Hi H ((t ρ).bind k) k')
  (w:∀ c Hi' H',Ext Hi H Hi' H'->iK X G Hi' H' σ ρ->Out G Hi' H' (k c) k'->Q c H'):tTb X G t σ H Q:=
 ⟨ρ,Hi,R,o.bind.imp fun d Hi' H' e q=>w d Hi' H' e (R.grow e) q⟩
theorem zJU (h:PTd X G a t):PTd X G (.UnaryOp .Not a pos) (xV t):=PT.wk (zJK h) fun σ H Q q=>by
 obtain ⟨ρ,Hi,R,ou⟩:=q
 exact zKM R ou fun c Hi1 H1 e1 R1 o1=>o1.here R1.s
theorem zFP (h:PTd X G a t):PWd X G (.BoolOp .And [a] pos) t:=zHn h
theorem zAz (h:PTd X G a t):PWd X G (.BoolOp .Or [a] pos) t:=zIA h
theorem zHp {rest:List Expr} (ha:PTd X G a t) (hb:PWd X G (.BoolOp .And (b::rest) pos) u):PWd X G (.BoolOp .And (a::b::rest) pos) (zAP t u):=PW.wk (zIP ha hb) fun σ H Q q=>by
 obtain ⟨ρ,Hi,R,ou⟩:=q
 refine zKM R ou fun c Hi1 H1 e1 R1 o1=>?_
 cases c with
 | true=>exact ⟨ρ,Hi1,R1,o1⟩
 | false=>exact o1.here R1.s
theorem zET {rest:List Expr} (ha:PTd X G a t) (hb:PWd X G (.BoolOp .Or (b::rest) pos) u):PWd X G (.BoolOp .Or (a::b::rest) pos) (zBg t u):=PW.wk (zKS ha hb) fun σ H Q q=>by
 obtain ⟨ρ,Hi,R,ou⟩:=q
 refine zKM R ou fun c Hi1 H1 e1 R1 o1=>?_
 cases c with
 | true=>exact o1.here R1.s
 | false=>exact ⟨ρ,Hi1,R1,o1⟩
theorem PWd.pt {e:Expr} (h:PWd X G e t):PTd X G e t:=PW.pt h
theorem zCF {op} (h:PEd X G a f):PEd X G (.BoolOp op [a] pos) f:=zJg h
theorem zKl {rest:List Expr} (ha:PEd X G a f) (hb:PEd X G (.BoolOp .And (b::rest) pos) g):PEd X G (.BoolOp .And (a::b::rest) pos) (zKR f g):=PE.wk (zKt ha hb) fun σ H Q q=>by
 obtain ⟨ρ,Hi,R,ou⟩:=q
 refine xI R ou fun v d Hi1 H1 e1 R1 r1 o1=>?_
 cases d with
 | bl c=>
  refine ⟨c,r1.blI,?_⟩
  cases c with
  | true=>exact ⟨ρ,Hi1,R1,o1⟩
  | false=>exact o1.here R1.s _ (.bl false)
 | _=>exact o1.elim
theorem zJa {rest:List Expr} (ha:PEd X G a f) (hb:PEd X G (.BoolOp .Or (b::rest) pos) g):PEd X G (.BoolOp .Or (a::b::rest) pos) (eOr f g):=PE.wk (zLG ha hb) fun σ H Q q=>by
 obtain ⟨ρ,Hi,R,ou⟩:=q
 refine xI R ou fun v d Hi1 H1 e1 R1 r1 o1=>?_
 cases d with
 | bl c=>
  refine ⟨c,r1.blI,?_⟩
  cases c with
  | true=>exact o1.here R1.s _ (.bl true)
  | false=>exact ⟨ρ,Hi1,R1,o1⟩
 | _=>exact o1.elim
theorem zCt (ha:PEd X G a f):PEd X G (.UnaryOp .USub a pos) (eUn zKd f):=PE.wk (zLo zKq ha) fun σ H Q q=>by
 obtain ⟨ρ,Hi,R,ou⟩:=q
 refine xI R ou fun v d Hi1 H1 e1 R1 r1 o1=>?_
 cases d with
 | int c=>exact ⟨c,r1.intI,o1.here R1.s _ (.int _)⟩
 | _=>exact o1.elim
theorem zGl {c:Expr} (hc:PTd X G c t) (ha:PEd X G a f) (hb:PEd X G b g):PEd X G (.IfExp c a b pos) (eIf t f g):=PE.wk (zEt hc ha hb) fun σ H Q q=>by
 obtain ⟨ρ,Hi,R,ou⟩:=q
 refine zKM R ou fun c Hi1 H1 e1 R1 o1=>?_
 cases c with
 | true=>exact ⟨ρ,Hi1,R1,o1⟩
 | false=>exact ⟨ρ,Hi1,R1,o1⟩
variable {fs:Fv}
theorem aL:PAd X G [] aNil:=PA.wk lP fun σ H Q q=>by
 obtain ⟨ρ,Hi,R,ou⟩:=q
 exact ou.here R.s [] .nil
theorem aA (ha:PEd X G e f) (hr:PAd X G es fs) (hs:starEach (e::es) X.env=(false,eval e X.env)::starEach es X.env:=by rfl):PAd X G (e::es) (aB f fs):=PA.wk (gB ha hr hs) fun σ H Q q=>by
 obtain ⟨ρ,Hi,R,ou⟩:=q
 refine xI R ou fun v d Hi1 H1 e1 R1 r1 o1=>?_
 refine ⟨ρ,Hi1,R1,o1.bind.imp fun ds Hi2 H2 e2 o2 vs rs=>?_⟩
 exact o2.here e2.s _ (.cons (r1.mono e2.i) rs)
theorem zDX {Hi H:Hp} {σ:St} {ρ:Rho} {β:Type} {k:List D->Res β} {k':β->Hp->Hp->Prop} {Q:List V->Hp->Prop} (R:iK X G Hi H σ ρ) (o:Out G Hi H ((fs ρ).bind k) k')
  (w:∀ vs ds Hi' H',Ext Hi H Hi' H'->iK X G Hi' H' σ ρ->IsDs X.K Hi' vs ds->Out G Hi' H' (k ds) k'->Q vs H'):tAs X G fs σ H Q:=
 ⟨ρ,Hi,R,o.bind.imp fun d Hi' H' e q v r=>w v d Hi' H' e (R.grow e) r q⟩
theorem rA {x1} (h:PAd X G es fs):PEd X G (.Tuple es x1 pos) (zFT fs):=PE.wk (zKG h) fun σ H Q q=>by
 obtain ⟨ρ,Hi,R,ou⟩:=q
 refine zDX R ou fun vs ds Hi1 H1 e1 R1 r1 o1=>?_
 by_cases hz:ds.length<=16777216
 ·rw [if_pos hz] at o1
  refine ⟨by rw [r1.length];exact hz,fun p hp=>?_⟩
  exact o1 _ _ (Ext.new R1.s hp) (.ref p) (.tup (SqT.of aP) (r1.mono (bM (R1.s.none hp) _)))
 ·rw [if_neg hz] at o1;exact o1.elim
theorem eZ (h:PAd X G es fs):PEf X G (.List es pos) (wC fs):=PE.wk (zJl h) fun σ H Q q=>by
 obtain ⟨ρ,Hi,R,ou⟩:=q
 refine zDX R ou fun vs ds Hi1 H1 e1 R1 r1 o1=>?_
 by_cases hz:ds.length<=16777216
 ·rw [if_pos hz] at o1
  refine ⟨by rw [r1.length];exact hz,fun p hp=>?_⟩
  exact o1 _ _ (Ext.newF R1.s hp) p ⟨e1.h.none hp,R1.s.none hp,vs,aP,r1⟩
 ·rw [if_neg hz] at o1;exact o1.elim
theorem PEf.d (h:PEf X G e fs):PEd X G e (eF fs):=PE.wk h fun σ H Q q=>by
 obtain ⟨ρ,Hi,R,ou⟩:=q
 refine ⟨ρ,Hi,R,?_⟩
 cases z:fs ρ with
 | no=>unfold eF at ou;rw [z] at ou;exact ou
 | err c=>unfold eF at ou;rw [z] at ou;exact ou
 | ok ds=>
  unfold eF at ou;rw [z] at ou
  intro Hi1 H1 e1 a n
  obtain ⟨n1,n2,xs,n3,n4⟩:=n
  have ou':∀ Hi' H',Ext Hi H Hi' H'->∀ v,IsD X.K Hi' v (.lst ds)->Q v H':=ou
  exact ou' _ _ (e1.hold n1 n3 n2) (.ref a) (.lst (SqL.of aP) (n4.mono (bM n2 _)))
theorem PEd.frz (h:PEd X G e f):PEd X G e (zIi f):=PE.wk h fun σ H Q q=>by
 obtain ⟨ρ,Hi,R,ou⟩:=q
 obtain ⟨Hf,s1,R1,fl⟩:=R.frz
 refine ⟨ρ.map Sl.frz,Hf,R1,?_⟩
 unfold zIi at ou
 cases z:f (ρ.map Sl.frz) with
 | no=>rw [z] at ou;exact ou
 | err c=>
  rw [z] at ou
  intro Hi1 H1 e1
  have ou':∀ Hi' H',Ext Hi H Hi' H'->G.E c H':=ou
  obtain ⟨Ht,e2,k,s2,n⟩:=Ext.thaw s1 fl R1.s e1
  exact ou' Ht H1 e2
 | ok d=>
  rw [z] at ou
  by_cases hz:noL d=true
  ·have ou':Out G Hi H (if noL d=true then Res.ok d else .no) _:=ou
   rw [if_pos hz] at ou'
   intro Hi1 H1 e1 v r
   obtain ⟨Ht,e2,k,s2,n⟩:=Ext.thaw s1 fl R1.s e1
   exact ou' Ht H1 e2 v (r.noL k hz)
  ·have ou':Out G Hi H (if noL d=true then Res.ok d else .no) _:=ou
   rw [if_neg hz] at ou';exact ou'.elim
end
end L3
namespace L3
open PySem PySem.Spec PyProof.Rows L2
unseal PEd PEf PTd PWd PAd PSd cN
section
variable {X:Cx} {G:Gx} {a b e:Expr} {es:List Expr} {pos:Pos} {f g:Ev} {fs:Fv} {t u:Tv}
theorem PEf.frz (h:PEf X G e fs):PEf X G e (zGL fs):=PE.wk h fun σ H Q q=>by
 obtain ⟨ρ,Hi,R,ou⟩:=q
 obtain ⟨Hf,s1,R1,fl⟩:=R.frz
 refine ⟨ρ.map Sl.frz,Hf,R1,?_⟩
 unfold zGL at ou
 cases z:fs (ρ.map Sl.frz) with
 | no=>rw [z] at ou;exact ou
 | err c=>
  rw [z] at ou
  intro Hi1 H1 e1
  have ou':∀ Hi' H',Ext Hi H Hi' H'->G.E c H':=ou
  obtain ⟨Ht,e2,k,s2,n⟩:=Ext.thaw s1 fl R1.s e1
  exact ou' Ht H1 e2
 | ok ds=>
  rw [z] at ou
  have ou':Out G Hi H (if noLs ds=true then Res.ok ds else .no) _:=ou
  by_cases hz:noLs ds=true
  ·rw [if_pos hz] at ou'
   intro Hi1 H1 e1 a n
   obtain ⟨n1,n2,xs,n3,n4⟩:=n
   obtain ⟨Ht,e2,k,s2,_⟩:=Ext.thaw s1 fl R1.s e1
   exact ou' Ht H1 e2 a ⟨n1,s2.none n2,xs,n3,n4.noL k hz⟩
  ·rw [if_neg hz] at ou';exact ou'.elim
theorem OpR.or {o:Value->Value->Sem Value} {r r':R2} (h:OpR X o r) (h':OpR X o r'):OpR X o (fun x y H Q=>r x y H Q∨r' x y H Q):=by
 intro pins s σ H x y v u Q I rx ry q
 rcases q with q | q
 ·exact h pins s σ H x y v u Q I rx ry q
 ·exact h' pins s σ H x y v u Q I rx ry q
theorem zIL {o:Op2} {h:Int->Int->Int} (hi:∀ i j,o (.int i) (.int j)=.ok (.int (h i j))) (hn:∀ a b d,o a b=.ok d->∃ i j,a=.int i/\b=.int j) (he:∀ a b c,o a b≠.err c):OpK X (rI0 fun i j=>.int (h i j)) o:=
 ⟨he,fun Hi H x y a b d Q s r1 r2 z q=>by
  obtain ⟨i,j,rfl,rfl⟩:=hn a b d z
  rw [hi] at z;cases z
  exact ⟨i,j,r1.intI,r2.intI,q _ Hi H (Ext.refl s) (.int _)⟩⟩
theorem zFA {o:Op2} {h:Int->Int->Bool} (hi:∀ i j,o (.int i) (.int j)=.ok (.bl (h i j))) (hn:∀ a b d,o a b=.ok d->∃ i j,a=.int i/\b=.int j) (he:∀ a b c,o a b≠.err c):OpK X (rI0 fun i j=>.bl (h i j)) o:=
 ⟨he,fun Hi H x y a b d Q s r1 r2 z q=>by
  obtain ⟨i,j,rfl,rfl⟩:=hn a b d z
  rw [hi] at z;cases z
  exact ⟨i,j,r1.intI,r2.intI,q _ Hi H (Ext.refl s) (.bl _)⟩⟩
theorem zDJ:OpK X (rI0 fun i j=>.int (i - j)) zAr:=zIL (fun _ _=>rfl) (fun a b d z=>by unfold zAr at z;split at z<;>first | exact ⟨_,_,rfl,rfl⟩ | cases z) (fun a b c z=>by unfold zAr at z;split at z<;>cases z)
theorem zDU:OpK X (rI0 fun i j=>.bl (decide (i < j))) oLt:=zFA (fun _ _=>rfl) (fun a b d z=>by unfold oLt at z;split at z<;>first | exact ⟨_,_,rfl,rfl⟩ | cases z) (fun a b c z=>by unfold oLt at z;split at z<;>cases z)
theorem zHG:OpK X (rI0 fun i j=>.bl (decide (j < i))) oGt:=zFA (fun _ _=>rfl) (fun a b d z=>by unfold oGt at z;split at z<;>first | exact ⟨_,_,rfl,rfl⟩ | cases z) (fun a b c z=>by unfold oGt at z;split at z<;>cases z)
theorem zER {o:Op2} {C:Int->Int->Prop} {h:Int->Int->Int} (hn:∀ a b d,o a b=.ok d->∃ i j,a=.int i/\b=.int j/\C i j/\d=.int (h i j)) (he:∀ a b c,o a b≠.err c):OpK X (rI C fun i j=>.int (h i j)) o:=
 ⟨he,fun Hi H x y a b d Q s r1 r2 z q=>by
  obtain ⟨i,j,rfl,rfl,hc,rfl⟩:=hn a b d z
  exact ⟨i,j,r1.intI,r2.intI,hc,q _ Hi H (Ext.refl s) (.int _)⟩⟩
def zIn (i j:Int):Prop:=fM i j=true
theorem cC:OpR X (binaryOp .Mult) (rI zIn fun i j=>.int (i * j)):=opI fun i j _ _ _ _ _ hc q=>by
 have hc':fM i j=true:=hc
 unfold fM at hc'
 simp only [Bool.or_eq_true,Bool.and_eq_true,decide_eq_true_eq] at hc'
 rcases hc' with (⟨h1,h2⟩ | ⟨h1,h2⟩) | h
 ·exact mul_int q (zKL.ok (.inl ⟨h1,h2⟩))
 ·exact mul_int q (zKL.ok (.inr ⟨h1,h2⟩))
 ·exact mul_int q (PySem.IntMulOk.of_le (PySem.intBits_le_iff.mpr (zHw i)) (PySem.intBits_le_iff.mpr (zHw j)) h)
def zKz (_ j:Int):Prop:=iL j=true
theorem fZ:OpR X (binaryOp .FloorDiv) (rI zKz fun i j=>.int (i.fdiv j)):=opI fun i j _ _ _ _ _ hc q=>by
 have hc':iL j=true:=hc
 unfold iL at hc'
 simp only [Bool.and_eq_true,decide_eq_true_eq] at hc'
 refine floordiv_int hc'.1 q (.inl (PyProof.noPylong_of_log2 ?_))
 have h2:=hc'.2
 unfold nb at h2
 omega
def zKu (i j:Int):Prop:=nQ i j=true
theorem mV:OpR X (binaryOp .Pow) (rI zKu fun i j=>.int (i^j.toNat)):=opI fun i j _ _ _ _ _ hc q=>by
 have hc':nQ i j=true:=hc
 unfold nQ at hc'
 simp only [Bool.and_eq_true,decide_eq_true_eq] at hc'
 refine pow_int hc'.1 (Int.le_trans (Int.mul_le_mul_of_nonneg_right ?_ hc'.1) hc'.2) q
 have:=PySem.intBits_le_iff.mpr (zHw i)
 omega
theorem iJ:OpK X (rI zIn fun i j=>.int (i * j)) oC:=zER (fun a b d z=>by
 unfold oC at z
 split at z
 case h_2=>cases z
 rename_i i j
 have z':(if fM i j=true then Res.ok (D.int (i * j)) else .no)=.ok d:=z
 by_cases h:fM i j=true
 ·rw [if_pos h] at z';cases z';exact ⟨i,j,rfl,rfl,h,rfl⟩
 ·rw [if_neg h] at z';cases z') (fun a b c z=>by
 unfold oC at z
 split at z
 case h_2=>cases z
 rename_i i j
 have z':(if fM i j=true then Res.ok (D.int (i * j)) else .no)=.err c:=z
 by_cases h:fM i j=true
 ·rw [if_pos h] at z';cases z'
 ·rw [if_neg h] at z';cases z')
theorem sA:OpK X (rI zKz fun i j=>.int (i.fdiv j)) yJ:=zER (fun a b d z=>by
 unfold yJ at z
 split at z
 case h_2=>cases z
 rename_i i j
 have z':(if iL j=true then Res.ok (D.int (i.fdiv j)) else .no)=.ok d:=z
 by_cases h:iL j=true
 ·rw [if_pos h] at z';cases z';exact ⟨i,j,rfl,rfl,h,rfl⟩
 ·rw [if_neg h] at z';cases z') (fun a b c z=>by
 unfold yJ at z
 split at z
 case h_2=>cases z
 rename_i i j
 have z':(if iL j=true then Res.ok (D.int (i.fdiv j)) else .no)=.err c:=z
 by_cases h:iL j=true
 ·rw [if_pos h] at z';cases z'
 ·rw [if_neg h] at z';cases z')
theorem lC:OpK X (rI (fun _ j=>j≠0) fun i j=>.int (i.fmod j)) rK:=zER (fun a b d z=>by
 unfold rK at z
 split at z
 case h_2=>cases z
 rename_i i j
 have z':(if j≠0 then Res.ok (D.int (i.fmod j)) else .no)=.ok d:=z
 by_cases h:j≠0
 ·rw [if_pos h] at z';cases z';exact ⟨i,j,rfl,rfl,h,rfl⟩
 ·rw [if_neg h] at z';cases z') (fun a b c z=>by
 unfold rK at z
 split at z
 case h_2=>cases z
 rename_i i j
 have z':(if j≠0 then Res.ok (D.int (i.fmod j)) else .no)=.err c:=z
 by_cases h:j≠0
 ·rw [if_pos h] at z';cases z'
 ·rw [if_neg h] at z';cases z')
theorem zBd:OpK X (rI zKu fun i j=>.int (i^j.toNat)) zDR:=zER (fun a b d z=>by
 unfold zDR at z
 split at z
 case h_2=>cases z
 rename_i i j
 have z':(if nQ i j=true then Res.ok (D.int (i^j.toNat)) else .no)=.ok d:=z
 by_cases h:nQ i j=true
 ·rw [if_pos h] at z';cases z';exact ⟨i,j,rfl,rfl,h,rfl⟩
 ·rw [if_neg h] at z';cases z') (fun a b c z=>by
 unfold zDR at z
 split at z
 case h_2=>cases z
 rename_i i j
 have z':(if nQ i j=true then Res.ok (D.int (i^j.toNat)) else .no)=.err c:=z
 by_cases h:nQ i j=true
 ·rw [if_pos h] at z';cases z'
 ·rw [if_neg h] at z';cases z')
def zKA (K:PySem.W.Frag):R2:=fun x y H Q=>∃ a b ys,x=.ref a/\y=.ref b/\SqT K H a []/\SqT K H b ys/\Q (.ref b) H
theorem zGo:OpR X (binaryOp .Add) (zKA X.K):=by
 intro pins s σ H x y v u Q I rx ry h
 obtain ⟨a,b,ys,rfl,rfl,ha,hb,q⟩:=h
 cases rx
 cases ry
 obtain ⟨its,r1,p1,_⟩:=I.tuple ha
 obtain ⟨its2,r2,p2,_⟩:=I.tuple hb
 cases r1
 obtain ⟨⟨c1,d1,t1,s1⟩,ho1,hc1,n1,hd1⟩:=id p1
 obtain ⟨⟨c2,d2,t2,s2⟩,ho2,hc2,n2,hd2⟩:=id p2
 simp only at hc1 hd1 hc2 hd2
 subst hc1 hd1 hc2 hd2
 exact concat_meets ⟨_,ho1,rfl⟩ ⟨_,ho2,rfl⟩ noFill_tuple_add seq_tuple_add PySem.F.slot_tuple_add PySem.F.entry_tuple_add (PySem.F.args_tuple_add_2 _ _) (tuple_addW0 a b #[] its2.toArray n1 n2 d1 d2 s1 s2 rfl) ⟨ho1,ho2,⟨.ref b,H,I,rfl,q⟩⟩
def zIE (K:PySem.W.Frag):R2:=fun x y H Q=>rI0 (fun i j=>.int (i+j)) x y H Q∨(zIR K x y H Q∨zKA K x y H Q)
theorem cT:OpR X (binaryOp .Add) (zIE X.K):=OpR.or zIq (OpR.or zGu zGo)
theorem jZ:OpK X (zIE X.K) oU:=⟨fun a b c z=>(by
  unfold oU at z
  split at z
  case h_1=>cases z
  case h_3=>cases z
  rename_i as bs
  have z':(if as.length+bs.length<=16777216 then Res.ok (D.tup (as++bs)) else .no)=.err c:=z
  split at z'<;>cases z'),fun Hi H x y a b d Q s r1 r2 z q=>by
  unfold oU at z
  split at z
  case h_3=>cases z
  ·cases z
   exact .inl ⟨_,_,r1.intI,r2.intI,q _ Hi H (Ext.refl s) (.int _)⟩
  ·rename_i as bs
   have z':(if as.length+bs.length<=16777216 then Res.ok (D.tup (as++bs)) else .no)=.ok d:=z
   split at z'
   ·rename_i hz
    cases z'
    obtain ⟨p,xs,rfl,h1,i1⟩:=r1.tupI
    obtain ⟨p',ys,rfl,h2,i2⟩:=r2.tupI
    by_cases h0:as.length=0
    ·have e0:as=[]:=List.eq_nil_of_length_eq_zero h0
     subst e0
     cases i1
     exact .inr (.inr ⟨p,p',ys,rfl,rfl,bN s h1,bN s h2,q _ Hi H (Ext.refl s) (.tup h2 i2)⟩)
    refine .inr (.inl ⟨p,p',xs,ys,rfl,rfl,bN s h1,bN s h2,fun e=>h0 (by rw [<-i1.length,e];rfl),by rw [i1.length,i2.length];exact hz,fun e=>?_,fun _ l hl=>?_⟩)
    ·subst e
     cases i2
     rw [List.append_nil] at q
     exact q _ Hi H (Ext.refl s) (.tup h1 i1)
    ·exact q _ _ _ (Ext.new s hl) (.tup (SqT.of aP) ((i1.append i2).mono (bM (s.none hl) _)))
   ·cases z'⟩
theorem zHY {α:Type} {xs:List α} {i:Int} {v:α} (h0:i < 0) (h1:0<=(xs.length:Int)+i) (h:xs[((xs.length:Int)+i).toNat]?=some v):atI xs i=some v:=by
 have e:ixN xs.length i=some ((xs.length:Int)+i).toNat:=by
  unfold ixN
  rw [if_neg (by omega),if_pos (by omega)]
  congr 2
  omega
 unfold atI;rw [e];exact h
theorem zBT {K:PySem.W.Frag} {H:Hp} {xs:List V} {ds:List D} {i:Int} {d:D} (h:IsDs K H xs ds) (e:atD ds i=some d):∃ v,atI xs i=some v/\IsD K H v d:=by
 unfold atD at e
 by_cases h0:0<=i
 ·rw [if_pos h0] at e
  obtain ⟨v,hv,r⟩:=h.at e
  refine ⟨v,?_,r⟩
  have:=xP hv
  rw [show ((i.toNat:Nat):Int)=i by omega] at this
  exact this
 ·rw [if_neg h0] at e
  by_cases h1:0<=(ds.length:Int)+i
  ·rw [if_pos h1] at e
   obtain ⟨v,hv,r⟩:=h.at e
   refine ⟨v,?_,r⟩
   have hl:=h.length
   have e2:((ds.length:Int)+i).toNat=((xs.length:Int)+i).toNat:=by rw [hl]
   rw [e2] at hv
   exact zHY (by omega) (by omega) hv
  ·rw [if_neg h1] at e;cases e
theorem zKQ:OpK X (fun x y H Q=>zKN X.K x y H Q∨zKK X.K x y H Q) oIx:=⟨fun a b c z=>(by
  unfold oIx at z
  split at z
  case h_3=>cases z
  ·rename_i ds i
   have z':ofO (atD ds i)=Res.err c:=z
   cases q:atD ds i<;>rw [q] at z'<;>cases z'
  ·rename_i ds i
   have z':ofO (atD ds i)=Res.err c:=z
   cases q:atD ds i<;>rw [q] at z'<;>cases z'),fun Hi H x y a b d Q s r1 r2 z q=>by
  unfold oIx at z
  split at z
  case h_3=>cases z
  ·rename_i ds i
   have z':ofO (atD ds i)=Res.ok d:=z
   cases w:atD ds i with
   | none=>rw [w] at z';cases z'
   | some d'=>
    rw [w] at z';cases z'
    obtain ⟨p,xs,rfl,h1,i1⟩:=r1.tupI
    obtain ⟨v,hv,r⟩:=zBT i1 w
    exact .inr ⟨p,xs,i,v,rfl,r2.intI,bN s h1,hv,q v Hi H (Ext.refl s) r⟩
  ·rename_i ds i
   have z':ofO (atD ds i)=Res.ok d:=z
   cases w:atD ds i with
   | none=>rw [w] at z';cases z'
   | some d'=>
    rw [w] at z';cases z'
    obtain ⟨p,xs,rfl,h1,i1⟩:=r1.lstI
    obtain ⟨v,hv,r⟩:=zBT i1 w
    exact .inl ⟨p,xs,i,v,rfl,r2.intI,bS s h1,hv,q v Hi H (Ext.refl s) r⟩⟩
theorem iN:IxR X (fun x y H Q=>zKN X.K x y H Q∨zKK X.K x y H Q):=zHz.or zKn
end
end L3
namespace L3
open PySem PySem.Spec PyProof.Rows L2
unseal PEd PEf PTd PWd PAd PSd cN
section
variable {X:Cx} {pins:List (Addr×Obj)} {σ:St} {H:Hp} {s:Shared}
mutual
theorem IsD.inj (I:Inv X pins σ H s):∀ {v:V} {d e:D},IsD X.K H v d->IsD X.K H v e->d=e
 | _,_,_,.non,h=>by cases h;rfl
 | _,_,_,.bl b,h=>by cases h;rfl
 | _,_,_,.int i,h=>by cases h;rfl
 | _,_,_,.str x,h=>by cases h;rfl
 | _,_,_,.tup h hs,h2=>by
  cases h2 with
  | tup h' hs'=>
   have e:=I.tuple_inj h h'
   subst e
   rw [IsDs.inj I hs hs']
  | lst h' hs'=>
   exfalso
   obtain ⟨_,_,⟨o,e,c,_⟩,_⟩:=I.tuple h
   obtain ⟨_,_,⟨o',n',e',c',_⟩,_⟩:=I.list h'
   rw [e] at e';cases e';rw [c] at c';exact absurd c' (by decide)
 | _,_,_,.lst h hs,h2=>by
  cases h2 with
  | lst h' hs'=>
   have e:=I.list_inj h h'
   subst e
   rw [IsDs.inj I hs hs']
  | tup h' hs'=>
   exfalso
   obtain ⟨_,_,⟨o,e,c,_⟩,_⟩:=I.tuple h'
   obtain ⟨_,_,⟨o',n',e',c',_⟩,_⟩:=I.list h
   rw [e] at e';cases e';rw [c] at c';exact absurd c' (by decide)
theorem IsDs.inj (I:Inv X pins σ H s):∀ {vs:List V} {ds es:List D},IsDs X.K H vs ds->IsDs X.K H vs es->ds=es
 | _,_,_,.nil,h=>by cases h;rfl
 | _,_,_,.cons h hs,h2=>by
  cases h2 with
  | cons h' hs'=>rw [IsD.inj I h h',IsDs.inj I hs hs']
end
theorem zDh {α:Type} {l:List α} {j:Nat} {x d:α} (h:l[j]?=some x):l.getD j d=x:=by
 rw [List.getD_eq_getElem?_getD,h];rfl
theorem jH {A:Around} {xs xs':List V} {ds ds':List D} {its its':List Value} (hs:IsDs X.K H xs ds) (hs':IsDs X.K H xs' ds') (rv:cM xs its) (rv':cM xs' its')
  (rc:∀ (d d':D) (v v':V) (u u':Value),d∈ds->IsD X.K H v d->IsD X.K H v' d'->bW v u->bW v' u'->SeqAt.EqAt A s u u' (eqD d d'))
  (j:Nat) (g1:j < its.toArray.size) (g2:j < its'.toArray.size):SeqAt.EqAt A s its.toArray[j] its'.toArray[j] (eqD (ds.getD j .non) (ds'.getD j .non)):=by
 have g1':j < its.length:=by simpa using g1
 have g2':j < its'.length:=by simpa using g2
 have l1:its.length=ds.length:=by rw [<-rv.length,hs.length]
 have l2:its'.length=ds'.length:=by rw [<-rv'.length,hs'.length]
 obtain ⟨d,hd⟩:∃ d,ds[j]?=some d:=⟨_,List.getElem?_eq_getElem (by omega)⟩
 obtain ⟨d',hd'⟩:∃ d,ds'[j]?=some d:=⟨_,List.getElem?_eq_getElem (by omega)⟩
 obtain ⟨v,hv,iv⟩:=hs.at hd
 obtain ⟨v',hv',iv'⟩:=hs'.at hd'
 obtain ⟨w1,hw,rw1⟩:=rv.get hv
 obtain ⟨w2,hw',rw2⟩:=rv'.get hv'
 have e1:its.toArray[j]=w1:=by
  rw [List.getElem?_eq_getElem g1'] at hw
  simpa using hw
 have e2:its'.toArray[j]=w2:=by
  rw [List.getElem?_eq_getElem g2'] at hw'
  simpa using hw'
 rw [e1,e2,zDh hd,zDh hd']
 exact rc d d' v v' w1 w2 (List.mem_of_getElem? hd) iv iv' rw1 rw2
theorem fF {ds ds':List D} (h:ds.length=ds'.length):((List.range ds.length).all fun j=>eqD (ds.getD j .non) (ds'.getD j .non))=zDP ds ds':=by
 rw [jC,<-h,Nat.min_self];simp
theorem sW {ds ds':List D} (h:ds.length≠ds'.length):zDP ds ds'=false:=by
 rw [jC];simp [h]
theorem uG (I:Inv X pins σ H s) {A:Around} {v v':V} {d d':D} {u u':Value} (h1:IsD X.K H v d) (h2:IsD X.K H v' d') (r1:bW v u) (r2:bW v' u') (hu:A.units < cLine)
  (rc:∀ ds,(d=.tup ds∨d=.lst ds)->∀ (e e':D) (w w':V) (z z':Value),e∈ds->IsD X.K H w e->IsD X.K H w' e'->bW w z->bW w' z'->SeqAt.EqAt A.in1 s z z' (eqD e e')):
  SeqAt.EqAt A s u u' (eqD d d'):=by
 cases h1 with
 | non=>
  cases (show u=Value.none from r1)
  cases h2 with
  | non=>cases (show u'=Value.none from r2);exact SeqAt.EqAt.same _
  | bl b=>cases (show u'=Value.bool _ from r2);exact SeqAt.EqAt.none_bool _
  | int i=>obtain ⟨t,rfl⟩:=r2;exact SeqAt.EqAt.none_int _ _
  | str x=>obtain ⟨t,rfl⟩:=r2;exact SeqAt.EqAt.none_str _ _
  | tup h hs=>cases (show u'=Value.ref _ from r2);obtain ⟨its,rv,p,hz⟩:=I.tuple h;exact SeqAt.EqAt.none_tuple (show s.heap.IsTuple _ its.toArray from p) hu
  | lst h hs=>cases (show u'=Value.ref _ from r2);obtain ⟨its,rv,p,hz⟩:=I.list h;exact SeqAt.EqAt.none_list p.isList hu
 | bl b=>
  cases (show u=Value.bool _ from r1)
  cases h2 with
  | non=>cases (show u'=Value.none from r2);exact SeqAt.EqAt.bool_none _
  | bl b=>cases (show u'=Value.bool _ from r2);exact SeqAt.EqAt.bool_bool _ _
  | int i=>obtain ⟨t,rfl⟩:=r2;exact SeqAt.EqAt.bool_int _ _ _
  | str x=>obtain ⟨t,rfl⟩:=r2;exact SeqAt.EqAt.bool_str _ _ _
  | tup h hs=>cases (show u'=Value.ref _ from r2);obtain ⟨its,rv,p,hz⟩:=I.tuple h;exact SeqAt.EqAt.bool_tuple _ (show s.heap.IsTuple _ its.toArray from p) hu
  | lst h hs=>cases (show u'=Value.ref _ from r2);obtain ⟨its,rv,p,hz⟩:=I.list h;exact SeqAt.EqAt.bool_list _ p.isList hu
 | int i=>
  obtain ⟨t,rfl⟩:=r1
  cases h2 with
  | non=>cases (show u'=Value.none from r2);exact SeqAt.EqAt.int_none _ _
  | bl b=>cases (show u'=Value.bool _ from r2);exact SeqAt.EqAt.int_bool _ _ _
  | int i=>obtain ⟨t,rfl⟩:=r2;exact SeqAt.EqAt.int_int _ _ _ _
  | str x=>obtain ⟨t,rfl⟩:=r2;exact SeqAt.EqAt.int_str _ _ _ _
  | tup h hs=>cases (show u'=Value.ref _ from r2);obtain ⟨its,rv,p,hz⟩:=I.tuple h;exact SeqAt.EqAt.int_tuple _ _ (show s.heap.IsTuple _ its.toArray from p) hu
  | lst h hs=>cases (show u'=Value.ref _ from r2);obtain ⟨its,rv,p,hz⟩:=I.list h;exact SeqAt.EqAt.int_list _ _ p.isList hu
 | str x=>
  obtain ⟨t,rfl⟩:=r1
  cases h2 with
  | non=>cases (show u'=Value.none from r2);exact SeqAt.EqAt.str_none _ _
  | bl b=>cases (show u'=Value.bool _ from r2);exact SeqAt.EqAt.str_bool _ _ _
  | int i=>obtain ⟨t,rfl⟩:=r2;exact SeqAt.EqAt.str_int _ _ _ _
  | str x=>obtain ⟨t,rfl⟩:=r2;exact SeqAt.EqAt.str_str _ _ _ _
  | tup h hs=>cases (show u'=Value.ref _ from r2);obtain ⟨its,rv,p,hz⟩:=I.tuple h;exact SeqAt.EqAt.str_tuple _ _ (show s.heap.IsTuple _ its.toArray from p) hu
  | lst h hs=>cases (show u'=Value.ref _ from r2);obtain ⟨its,rv,p,hz⟩:=I.list h;exact SeqAt.EqAt.str_list _ _ p.isList hu
 | @tup a xs ds h hs=>
  cases (show u=Value.ref a from r1)
  obtain ⟨its,rv,p,hz⟩:=I.tuple h
  cases h2 with
  | non=>cases (show u'=Value.none from r2);exact SeqAt.EqAt.tuple_none (show s.heap.IsTuple _ its.toArray from p) hu
  | bl b=>cases (show u'=Value.bool _ from r2);exact SeqAt.EqAt.tuple_bool _ (show s.heap.IsTuple _ its.toArray from p) hu
  | int i=>obtain ⟨t,rfl⟩:=r2;exact SeqAt.EqAt.tuple_int _ _ (show s.heap.IsTuple _ its.toArray from p) hu
  | str x=>obtain ⟨t,rfl⟩:=r2;exact SeqAt.EqAt.tuple_str _ _ (show s.heap.IsTuple _ its.toArray from p) hu
  | @tup a' xs' ds' h' hs'=>
   cases (show u'=Value.ref a' from r2)
   by_cases e:a=a'
   ·subst e
    have e:=I.tuple_inj h h'
    subst e
    have e:=IsDs.inj I hs hs'
    subst e
    rw [rX]
    exact SeqAt.EqAt.same _
   ·obtain ⟨its',rv',p',hz'⟩:=I.tuple h'
    have l1:its.toArray.size=ds.length:=by rw [List.size_toArray,<-rv.length,hs.length]
    have l2:its'.toArray.size=ds'.length:=by rw [List.size_toArray,<-rv'.length,hs'.length]
    have key:=SeqAt.RcAt.tuples (A:=A) (s:=s) (show s.heap.IsTuple a its.toArray from p) (show s.heap.IsTuple a' its'.toArray from p') hu
     (jH (A:=A.in1) (s:=s) hs hs' rv rv' fun d d' v v' u u' hm iv iv' r r'=>rc ds (.inl rfl) d d' v v' u u' hm iv iv' r r')
    rw [l1,l2,<-jC] at key
    exact SeqAt.EqAt.of_refs e key
  | @lst a' xs' ds' h' hs'=>
   cases (show u'=Value.ref a' from r2)
   obtain ⟨its',rv',p',hz'⟩:=I.list h'
   exact SeqAt.EqAt.tuple_list (show s.heap.IsTuple _ its.toArray from p) p'.isList hu
 | @lst a xs ds h hs=>
  cases (show u=Value.ref a from r1)
  obtain ⟨its,rv,p,hz⟩:=I.list h
  cases h2 with
  | non=>cases (show u'=Value.none from r2);exact SeqAt.EqAt.list_none p.isList hu
  | bl b=>cases (show u'=Value.bool _ from r2);exact SeqAt.EqAt.list_bool _ p.isList hu
  | int i=>obtain ⟨t,rfl⟩:=r2;exact SeqAt.EqAt.list_int _ _ p.isList hu
  | str x=>obtain ⟨t,rfl⟩:=r2;exact SeqAt.EqAt.list_str _ _ p.isList hu
  | @tup a' xs' ds' h' hs'=>
   cases (show u'=Value.ref a' from r2)
   obtain ⟨its',rv',p',hz'⟩:=I.tuple h'
   exact SeqAt.EqAt.list_tuple p.isList (show s.heap.IsTuple _ its'.toArray from p') hu
  | @lst a' xs' ds' h' hs'=>
   cases (show u'=Value.ref a' from r2)
   by_cases e:a=a'
   ·subst e
    have e:=I.list_inj h h'
    subst e
    have e:=IsDs.inj I hs hs'
    subst e
    rw [rX]
    exact SeqAt.EqAt.same _
   ·obtain ⟨its',rv',p',hz'⟩:=I.list h'
    have l1:its.toArray.size=ds.length:=by rw [List.size_toArray,<-rv.length,hs.length]
    have l2:its'.toArray.size=ds'.length:=by rw [List.size_toArray,<-rv'.length,hs'.length]
    by_cases hl:ds.length=ds'.length
    ·have key:=SeqAt.RcAt.lists (A:=A) (s:=s) p.isList p'.isList (by rw [l1,l2,hl]) hu
      (jH (A:=A.in1) (s:=s) hs hs' rv rv' fun d d' v v' u u' hm iv iv' r r'=>rc ds (.inr rfl) d d' v v' u u' hm iv iv' r r')
     rw [l1,fF hl] at key
     exact SeqAt.EqAt.of_refs e key
    ·have key:=SeqAt.RcAt.lists_lengths (A:=A) (s:=s) p.isList p'.isList (by rw [l1,l2];simp [hl]) hu
     rw [eqD,sW hl]
     exact SeqAt.EqAt.of_refs e key
theorem zCg (I:Inv X pins σ H s) (n:Nat):∀ {v v':V} {d d':D},dep d<=n->IsD X.K H v d->IsD X.K H v' d'->
  ∀ (A:Around) (u u':Value),A.units+n < cLine->bW v u->bW v' u'->SeqAt.EqAt A s u u' (eqD d d'):=by
 induction n with
 | zero=>
  intro v v' d d' hn h1 h2 A u u' hu r1 r2
  refine uG I h1 h2 r1 r2 (by omega) fun ds hd=>?_
  rcases hd with rfl | rfl<;>(rw [dep] at hn;omega)
 | succ n ih=>
  intro v v' d d' hn h1 h2 A u u' hu r1 r2
  refine uG I h1 h2 r1 r2 (by omega) fun ds hd e e' w w' z z' hm i1 i2 q1 q2=>?_
  refine ih ?_ i1 i2 A.in1 z z' (by show A.units+1+n < cLine;omega) q1 q2
  have:=oM hm
  rcases hd with rfl | rfl<;>(rw [dep] at hn;omega)
theorem zDl (I:Inv X pins σ H s) {A:Around} {v v':V} {d d':D} {u u':Value} (h1:IsD X.K H v d) (h2:IsD X.K H v' d') (r1:bW v u) (r2:bW v' u') (hu:A.units < cLine)
  (rc:∀ ds,(d=.tup ds∨d=.lst ds)->∀ (e e':D) (w w':V) (z z':Value),e∈ds->IsD X.K H w e->IsD X.K H w' e'->bW w z->bW w' z'->SeqAt.EqAt A.in1 s z z' (eqD e e')):
  SeqAt.RcAt A s u u' (eqD d d'):=by
 cases h1 with
 | non=>
  cases (show u=Value.none from r1)
  cases h2 with
  | non=>cases (show u'=Value.none from r2);exact SeqAt.RcAt.none_none
  | bl b=>cases (show u'=Value.bool _ from r2);exact SeqAt.RcAt.none_bool _
  | int i=>obtain ⟨t,rfl⟩:=r2;exact SeqAt.RcAt.none_int _ _
  | str x=>obtain ⟨t,rfl⟩:=r2;exact SeqAt.RcAt.none_str _ _
  | tup h hs=>cases (show u'=Value.ref _ from r2);obtain ⟨its,rv,p,hz⟩:=I.tuple h;exact SeqAt.RcAt.none_tuple (show s.heap.IsTuple _ its.toArray from p) hu
  | lst h hs=>cases (show u'=Value.ref _ from r2);obtain ⟨its,rv,p,hz⟩:=I.list h;exact SeqAt.RcAt.none_list p.isList hu
 | bl b=>
  cases (show u=Value.bool _ from r1)
  cases h2 with
  | non=>cases (show u'=Value.none from r2);exact SeqAt.RcAt.bool_none _
  | bl b=>cases (show u'=Value.bool _ from r2);exact SeqAt.RcAt.bool_bool _ _
  | int i=>obtain ⟨t,rfl⟩:=r2;exact SeqAt.RcAt.bool_int _ _ _
  | str x=>obtain ⟨t,rfl⟩:=r2;exact SeqAt.RcAt.bool_str _ _ _
  | tup h hs=>cases (show u'=Value.ref _ from r2);obtain ⟨its,rv,p,hz⟩:=I.tuple h;exact SeqAt.RcAt.bool_tuple _ (show s.heap.IsTuple _ its.toArray from p) hu
  | lst h hs=>cases (show u'=Value.ref _ from r2);obtain ⟨its,rv,p,hz⟩:=I.list h;exact SeqAt.RcAt.bool_list _ p.isList hu
 | int i=>
  obtain ⟨t,rfl⟩:=r1
  cases h2 with
  | non=>cases (show u'=Value.none from r2);exact SeqAt.RcAt.int_none _ _
  | bl b=>cases (show u'=Value.bool _ from r2);exact SeqAt.RcAt.int_bool _ _ _
  | int i=>obtain ⟨t,rfl⟩:=r2;exact SeqAt.RcAt.int_int _ _ _ _
  | str x=>obtain ⟨t,rfl⟩:=r2;exact SeqAt.RcAt.int_str _ _ _ _
  | tup h hs=>cases (show u'=Value.ref _ from r2);obtain ⟨its,rv,p,hz⟩:=I.tuple h;exact SeqAt.RcAt.int_tuple _ _ (show s.heap.IsTuple _ its.toArray from p) hu
  | lst h hs=>cases (show u'=Value.ref _ from r2);obtain ⟨its,rv,p,hz⟩:=I.list h;exact SeqAt.RcAt.int_list _ _ p.isList hu
 | str x=>
  obtain ⟨t,rfl⟩:=r1
  cases h2 with
  | non=>cases (show u'=Value.none from r2);exact SeqAt.RcAt.str_none _ _
  | bl b=>cases (show u'=Value.bool _ from r2);exact SeqAt.RcAt.str_bool _ _ _
  | int i=>obtain ⟨t,rfl⟩:=r2;exact SeqAt.RcAt.str_int _ _ _ _
  | str x=>obtain ⟨t,rfl⟩:=r2;exact SeqAt.RcAt.str_str _ _ _ _
  | tup h hs=>cases (show u'=Value.ref _ from r2);obtain ⟨its,rv,p,hz⟩:=I.tuple h;exact SeqAt.RcAt.str_tuple _ _ (show s.heap.IsTuple _ its.toArray from p) hu
  | lst h hs=>cases (show u'=Value.ref _ from r2);obtain ⟨its,rv,p,hz⟩:=I.list h;exact SeqAt.RcAt.str_list _ _ p.isList hu
 | @tup a xs ds h hs=>
  cases (show u=Value.ref a from r1)
  obtain ⟨its,rv,p,hz⟩:=I.tuple h
  cases h2 with
  | non=>cases (show u'=Value.none from r2);exact SeqAt.RcAt.tuple_none (show s.heap.IsTuple _ its.toArray from p) hu
  | bl b=>cases (show u'=Value.bool _ from r2);exact SeqAt.RcAt.tuple_bool _ (show s.heap.IsTuple _ its.toArray from p) hu
  | int i=>obtain ⟨t,rfl⟩:=r2;exact SeqAt.RcAt.tuple_int _ _ (show s.heap.IsTuple _ its.toArray from p) hu
  | str x=>obtain ⟨t,rfl⟩:=r2;exact SeqAt.RcAt.tuple_str _ _ (show s.heap.IsTuple _ its.toArray from p) hu
  | @tup a' xs' ds' h' hs'=>
   cases (show u'=Value.ref a' from r2)
   ·obtain ⟨its',rv',p',hz'⟩:=I.tuple h'
    have l1:its.toArray.size=ds.length:=by rw [List.size_toArray,<-rv.length,hs.length]
    have l2:its'.toArray.size=ds'.length:=by rw [List.size_toArray,<-rv'.length,hs'.length]
    have key:=SeqAt.RcAt.tuples (A:=A) (s:=s) (show s.heap.IsTuple a its.toArray from p) (show s.heap.IsTuple a' its'.toArray from p') hu
     (jH (A:=A.in1) (s:=s) hs hs' rv rv' fun d d' v v' u u' hm iv iv' r r'=>rc ds (.inl rfl) d d' v v' u u' hm iv iv' r r')
    rw [l1,l2,<-jC] at key
    exact key
  | @lst a' xs' ds' h' hs'=>
   cases (show u'=Value.ref a' from r2)
   obtain ⟨its',rv',p',hz'⟩:=I.list h'
   exact SeqAt.RcAt.tuple_list (show s.heap.IsTuple _ its.toArray from p) p'.isList hu
 | @lst a xs ds h hs=>
  cases (show u=Value.ref a from r1)
  obtain ⟨its,rv,p,hz⟩:=I.list h
  cases h2 with
  | non=>cases (show u'=Value.none from r2);exact SeqAt.RcAt.list_none p.isList hu
  | bl b=>cases (show u'=Value.bool _ from r2);exact SeqAt.RcAt.list_bool _ p.isList hu
  | int i=>obtain ⟨t,rfl⟩:=r2;exact SeqAt.RcAt.list_int _ _ p.isList hu
  | str x=>obtain ⟨t,rfl⟩:=r2;exact SeqAt.RcAt.list_str _ _ p.isList hu
  | @tup a' xs' ds' h' hs'=>
   cases (show u'=Value.ref a' from r2)
   obtain ⟨its',rv',p',hz'⟩:=I.tuple h'
   exact SeqAt.RcAt.list_tuple p.isList (show s.heap.IsTuple _ its'.toArray from p') hu
  | @lst a' xs' ds' h' hs'=>
   cases (show u'=Value.ref a' from r2)
   ·obtain ⟨its',rv',p',hz'⟩:=I.list h'
    have l1:its.toArray.size=ds.length:=by rw [List.size_toArray,<-rv.length,hs.length]
    have l2:its'.toArray.size=ds'.length:=by rw [List.size_toArray,<-rv'.length,hs'.length]
    by_cases hl:ds.length=ds'.length
    ·have key:=SeqAt.RcAt.lists (A:=A) (s:=s) p.isList p'.isList (by rw [l1,l2,hl]) hu
      (jH (A:=A.in1) (s:=s) hs hs' rv rv' fun d d' v v' u u' hm iv iv' r r'=>rc ds (.inr rfl) d d' v v' u u' hm iv iv' r r')
     rw [l1,fF hl] at key
     exact key
    ·have key:=SeqAt.RcAt.lists_lengths (A:=A) (s:=s) p.isList p'.isList (by rw [l1,l2];simp [hl]) hu
     rw [eqD,sW hl]
     exact key
theorem zCP (I:Inv X pins σ H s) {A:Around} {v v':V} {d d':D} {u u':Value} (h1:IsD X.K H v d) (h2:IsD X.K H v' d') (r1:bW v u) (r2:bW v' u') (hu:A.units < cLine)
  (rc:∀ ds,(d=.tup ds∨d=.lst ds)->∀ (e e':D) (w w':V) (z z':Value),e∈ds->IsD X.K H w e->IsD X.K H w' e'->bW w z->bW w' z'->SeqAt.EqAt A.in1 s z z' (eqD e e')):
  SeqAt.RcNeAt A s u u' (!eqD d d'):=by
 cases h1 with
 | non=>
  cases (show u=Value.none from r1)
  cases h2 with
  | non=>cases (show u'=Value.none from r2);exact SeqAt.RcNeAt.none_none
  | bl b=>cases (show u'=Value.bool _ from r2);exact SeqAt.RcNeAt.none_bool _
  | int i=>obtain ⟨t,rfl⟩:=r2;exact SeqAt.RcNeAt.none_int _ _
  | str x=>obtain ⟨t,rfl⟩:=r2;exact SeqAt.RcNeAt.none_str _ _
  | tup h hs=>cases (show u'=Value.ref _ from r2);obtain ⟨its,rv,p,hz⟩:=I.tuple h;exact SeqAt.RcNeAt.none_tuple (show s.heap.IsTuple _ its.toArray from p) hu
  | lst h hs=>cases (show u'=Value.ref _ from r2);obtain ⟨its,rv,p,hz⟩:=I.list h;exact SeqAt.RcNeAt.none_list p.isList hu
 | bl b=>
  cases (show u=Value.bool _ from r1)
  cases h2 with
  | non=>cases (show u'=Value.none from r2);exact SeqAt.RcNeAt.bool_none _
  | bl b=>cases (show u'=Value.bool _ from r2);exact SeqAt.RcNeAt.bool_bool _ _
  | int i=>obtain ⟨t,rfl⟩:=r2;exact SeqAt.RcNeAt.bool_int _ _ _
  | str x=>obtain ⟨t,rfl⟩:=r2;exact SeqAt.RcNeAt.bool_str _ _ _
  | tup h hs=>cases (show u'=Value.ref _ from r2);obtain ⟨its,rv,p,hz⟩:=I.tuple h;exact SeqAt.RcNeAt.bool_tuple _ (show s.heap.IsTuple _ its.toArray from p) hu
  | lst h hs=>cases (show u'=Value.ref _ from r2);obtain ⟨its,rv,p,hz⟩:=I.list h;exact SeqAt.RcNeAt.bool_list _ p.isList hu
 | int i=>
  obtain ⟨t,rfl⟩:=r1
  cases h2 with
  | non=>cases (show u'=Value.none from r2);exact SeqAt.RcNeAt.int_none _ _
  | bl b=>cases (show u'=Value.bool _ from r2);exact SeqAt.RcNeAt.int_bool _ _ _
  | int i=>obtain ⟨t,rfl⟩:=r2;exact SeqAt.RcNeAt.int_int _ _ _ _
  | str x=>obtain ⟨t,rfl⟩:=r2;exact SeqAt.RcNeAt.int_str _ _ _ _
  | tup h hs=>cases (show u'=Value.ref _ from r2);obtain ⟨its,rv,p,hz⟩:=I.tuple h;exact SeqAt.RcNeAt.int_tuple _ _ (show s.heap.IsTuple _ its.toArray from p) hu
  | lst h hs=>cases (show u'=Value.ref _ from r2);obtain ⟨its,rv,p,hz⟩:=I.list h;exact SeqAt.RcNeAt.int_list _ _ p.isList hu
 | str x=>
  obtain ⟨t,rfl⟩:=r1
  cases h2 with
  | non=>cases (show u'=Value.none from r2);exact SeqAt.RcNeAt.str_none _ _
  | bl b=>cases (show u'=Value.bool _ from r2);exact SeqAt.RcNeAt.str_bool _ _ _
  | int i=>obtain ⟨t,rfl⟩:=r2;exact SeqAt.RcNeAt.str_int _ _ _ _
  | str x=>obtain ⟨t,rfl⟩:=r2;exact SeqAt.RcNeAt.str_str _ _ _ _
  | tup h hs=>cases (show u'=Value.ref _ from r2);obtain ⟨its,rv,p,hz⟩:=I.tuple h;exact SeqAt.RcNeAt.str_tuple _ _ (show s.heap.IsTuple _ its.toArray from p) hu
  | lst h hs=>cases (show u'=Value.ref _ from r2);obtain ⟨its,rv,p,hz⟩:=I.list h;exact SeqAt.RcNeAt.str_list _ _ p.isList hu
 | @tup a xs ds h hs=>
  cases (show u=Value.ref a from r1)
  obtain ⟨its,rv,p,hz⟩:=I.tuple h
  cases h2 with
  | non=>cases (show u'=Value.none from r2);exact SeqAt.RcNeAt.tuple_none (show s.heap.IsTuple _ its.toArray from p) hu
  | bl b=>cases (show u'=Value.bool _ from r2);exact SeqAt.RcNeAt.tuple_bool _ (show s.heap.IsTuple _ its.toArray from p) hu
  | int i=>obtain ⟨t,rfl⟩:=r2;exact SeqAt.RcNeAt.tuple_int _ _ (show s.heap.IsTuple _ its.toArray from p) hu
  | str x=>obtain ⟨t,rfl⟩:=r2;exact SeqAt.RcNeAt.tuple_str _ _ (show s.heap.IsTuple _ its.toArray from p) hu
  | @tup a' xs' ds' h' hs'=>
   cases (show u'=Value.ref a' from r2)
   ·obtain ⟨its',rv',p',hz'⟩:=I.tuple h'
    have l1:its.toArray.size=ds.length:=by rw [List.size_toArray,<-rv.length,hs.length]
    have l2:its'.toArray.size=ds'.length:=by rw [List.size_toArray,<-rv'.length,hs'.length]
    have key:=SeqAt.RcNeAt.tuples (A:=A) (s:=s) (show s.heap.IsTuple a its.toArray from p) (show s.heap.IsTuple a' its'.toArray from p') hu
     (jH (A:=A.in1) (s:=s) hs hs' rv rv' fun d d' v v' u u' hm iv iv' r r'=>rc ds (.inl rfl) d d' v v' u u' hm iv iv' r r')
    rw [l1,l2,<-jC] at key
    exact key
  | @lst a' xs' ds' h' hs'=>
   cases (show u'=Value.ref a' from r2)
   obtain ⟨its',rv',p',hz'⟩:=I.list h'
   exact SeqAt.RcNeAt.tuple_list (show s.heap.IsTuple _ its.toArray from p) p'.isList hu
 | @lst a xs ds h hs=>
  cases (show u=Value.ref a from r1)
  obtain ⟨its,rv,p,hz⟩:=I.list h
  cases h2 with
  | non=>cases (show u'=Value.none from r2);exact SeqAt.RcNeAt.list_none p.isList hu
  | bl b=>cases (show u'=Value.bool _ from r2);exact SeqAt.RcNeAt.list_bool _ p.isList hu
  | int i=>obtain ⟨t,rfl⟩:=r2;exact SeqAt.RcNeAt.list_int _ _ p.isList hu
  | str x=>obtain ⟨t,rfl⟩:=r2;exact SeqAt.RcNeAt.list_str _ _ p.isList hu
  | @tup a' xs' ds' h' hs'=>
   cases (show u'=Value.ref a' from r2)
   obtain ⟨its',rv',p',hz'⟩:=I.tuple h'
   exact SeqAt.RcNeAt.list_tuple p.isList (show s.heap.IsTuple _ its'.toArray from p') hu
  | @lst a' xs' ds' h' hs'=>
   cases (show u'=Value.ref a' from r2)
   ·obtain ⟨its',rv',p',hz'⟩:=I.list h'
    have l1:its.toArray.size=ds.length:=by rw [List.size_toArray,<-rv.length,hs.length]
    have l2:its'.toArray.size=ds'.length:=by rw [List.size_toArray,<-rv'.length,hs'.length]
    by_cases hl:ds.length=ds'.length
    ·have key:=SeqAt.RcNeAt.lists (A:=A) (s:=s) p.isList p'.isList (by rw [l1,l2,hl]) hu
      (jH (A:=A.in1) (s:=s) hs hs' rv rv' fun d d' v v' u u' hm iv iv' r r'=>rc ds (.inr rfl) d d' v v' u u' hm iv iv' r r')
     rw [l1,fF hl] at key
     exact key
    ·have key:=SeqAt.RcNeAt.lists_lengths (A:=A) (s:=s) p.isList p'.isList (by rw [l1,l2];simp [hl]) hu
     rw [eqD,sW hl]
     exact key
theorem eqA {X:Cx} (hu:X.A.units+64 < cLine):OpR X (compareOp .Eq) (fun x y H Q=>∃ d d',IsD X.K H x d/\IsD X.K H y d'/\dep d<=50/\Q (.bl (eqD d d')) H):=by
 intro pins s σ H x y v u Q I rx ry h
 obtain ⟨d,d',h1,h2,hn,q⟩:=h
 refine zDl I h1 h2 rx ry (by omega) (fun ds hd e e' w w' z z' hm i1 i2 q1 q2=>?_) X.prog X.w X.xe _ ⟨.bl _,H,I,rfl,q⟩
 refine zCg I 50 ?_ i1 i2 X.A.in1 z z' (by show X.A.units+1+50 < cLine;omega) q1 q2
 have:=oM hm
 rcases hd with rfl | rfl<;>(rw [dep] at hn;omega)
theorem neA {X:Cx} (hu:X.A.units+64 < cLine):OpR X (compareOp .NotEq) (fun x y H Q=>∃ d d',IsD X.K H x d/\IsD X.K H y d'/\dep d<=50/\Q (.bl (!eqD d d')) H):=by
 intro pins s σ H x y v u Q I rx ry h
 obtain ⟨d,d',h1,h2,hn,q⟩:=h
 refine zCP I h1 h2 rx ry (by omega) (fun ds hd e e' w w' z z' hm i1 i2 q1 q2=>?_) X.prog X.w X.xe _ ⟨.bl _,H,I,rfl,q⟩
 refine zCg I 50 ?_ i1 i2 X.A.in1 z z' (by show X.A.units+1+50 < cLine;omega) q1 q2
 have:=oM hm
 rcases hd with rfl | rfl<;>(rw [dep] at hn;omega)
theorem zAI {X:Cx}:OpK X (fun x y H Q=>∃ d d',IsD X.K H x d/\IsD X.K H y d'/\dep d<=50/\Q (.bl (eqD d d')) H) oEq:=⟨fun a b c z=>(by
  unfold oEq at z;split at z<;>cases z),fun Hi H x y a b d Q s r1 r2 z q=>by
  unfold oEq at z
  split at z
  ·rename_i h;cases z;exact ⟨a,b,r1.mono s,r2.mono s,h,q _ Hi H (Ext.refl s) (.bl _)⟩
  ·cases z⟩
theorem zJG {X:Cx}:OpK X (fun x y H Q=>∃ d d',IsD X.K H x d/\IsD X.K H y d'/\dep d<=50/\Q (.bl (!eqD d d')) H) oNe:=⟨fun a b c z=>(by
  unfold oNe at z;split at z<;>cases z),fun Hi H x y a b d Q s r1 r2 z q=>by
  unfold oNe at z
  split at z
  ·rename_i h;cases z;exact ⟨a,b,r1.mono s,r2.mono s,h,q _ Hi H (Ext.refl s) (.bl _)⟩
  ·cases z⟩
open Classical in
def zIg (K:PySem.W.Frag) (H:Hp) (dx:D) (u:Value):Bool:=if ∃ w d,IsD K H w d/\bW w u/\eqD d dx=true then true else false
theorem zDK (I:Inv X pins σ H s) {dx d:D} {w:V} {u:Value} (h:IsD X.K H w d) (r:bW w u):zIg X.K H dx u=eqD d dx:=by
 unfold zIg
 by_cases e:eqD d dx=true
 ·rw [if_pos ⟨w,d,h,r,e⟩,e]
 ·rw [if_neg]
  ·simpa using e
  ·rintro ⟨w',d',h',r',e'⟩
   have:=r.inj r'
   subst this
   have:=IsD.inj I h h'
   subst this
   exact e e'
theorem yH (I:Inv X pins σ H s) {dx:D}:∀ {xs:List V} {ds:List D} {us:List Value},IsDs X.K H xs ds->cM xs us->us.any (zIg X.K H dx)=ds.any fun d=>eqD d dx
 | _,_,_,.nil,.nil=>rfl
 | _,_,_,.cons h hs,.cons r t=>by rw [List.any_cons,List.any_cons,zDK I h r,yH I hs t]
theorem xT (I:Inv X pins σ H s) {A:Around} {dx:D} {x:V} {ux:Value} (hx:IsD X.K H x dx) (rx:bW x ux) (hu:A.units+50 < cLine):∀ {xs:List V} {ds:List D} {us:List Value},IsDs X.K H xs ds->cM xs us->(∀ d∈ds,dep d<=50)->∀ u∈us,SeqAt.EqAt A s u ux (zIg X.K H dx u)
 | _,_,_,.nil,.nil,_=>fun u hu=>by cases hu
 | _,_,_,.cons h hs,.cons r t,f=>fun u hm=>by
  rcases List.mem_cons.mp hm with rfl | hm
  ·rw [zDK I h r];exact zCg I 50 (f _ List.mem_cons_self) h hx A _ ux hu r rx
  ·exact xT I hx rx hu hs t (fun d hd=>f d (List.mem_cons_of_mem _ hd)) u hm
def zMf (K:PySem.W.Frag) (neg:Bool):R2:=fun x y H Q=>∃ d ds,IsD K H x d/\(IsD K H y (.lst ds)∨IsD K H y (.tup ds))/\depS ds<=50/\Q (.bl (if neg=true then !(ds.any fun e=>eqD e d) else ds.any fun e=>eqD e d)) H
theorem inA {X:Cx} (hu:X.A.units+64 < cLine):OpR X (compareOp .In) (zMf X.K false):=by
 intro pins s σ H x y v u Q I rx ry h
 obtain ⟨d,ds,h1,h2,hn,q⟩:=h
 have hd:∀ e∈ds,dep e<=50:=fun e he=>Nat.le_trans (oM he) hn
 rcases h2 with h2 | h2
 ·obtain ⟨a,xs,rfl,hl,hs⟩:=h2.lstI
  cases ry
  obtain ⟨its,rv,p,hz⟩:=I.list hl
  refine SeqAt.in_listAt (zIg X.K H d) p.isList (fun y hy=>xT I h1 rx (by show X.A.units+1+50 < cLine;omega) hs rv hd y (by simpa using hy)) ?_
  exact ⟨.bl _,H,I,by rw [List.any_toArray,yH I hs rv];rfl,q⟩
 ·obtain ⟨a,xs,rfl,hl,hs⟩:=h2.tupI
  cases ry
  obtain ⟨its,rv,p,hz⟩:=I.tuple hl
  refine SeqAt.in_tupleAt (zIg X.K H d) (show s.heap.IsTuple _ its.toArray from p) (fun y hy=>xT I h1 rx (by show X.A.units+1+50 < cLine;omega) hs rv hd y (by simpa using hy)) ?_
  exact ⟨.bl _,H,I,by rw [List.any_toArray,yH I hs rv];rfl,q⟩
theorem zMj {X:Cx}:OpK X (zMf X.K false) oIn:=⟨fun a b c z=>(by
  cases b<;>first | cases z | (simp only [oIn] at z;split at z<;>cases z)),fun Hi H x y a b d Q s r1 r2 z q=>by
  cases b<;>first | cases z | skip
  ·rename_i ds
   simp only [oIn] at z
   split at z
   ·rename_i h;cases z;exact ⟨a,ds,r1.mono s,.inr (r2.mono s),h,q _ Hi H (Ext.refl s) (.bl _)⟩
   ·cases z
  ·rename_i ds
   simp only [oIn] at z
   split at z
   ·rename_i h;cases z;exact ⟨a,ds,r1.mono s,.inl (r2.mono s),h,q _ Hi H (Ext.refl s) (.bl _)⟩
   ·cases z⟩
end
end L3
namespace L3
open PySem PySem.Spec PyProof.Rows L2
unseal PEd PEf PTd PWd PAd PSd cN
section
variable {X:Cx} {G:Gx} {a b e:Expr} {es:List Expr} {pos p:Pos} {f g:Ev} {fs gs:Fv} {t u:Tv} {x:Str} {id T:String}
def sL (X:Cx) (r:List V->Hp->VK->Prop) (o:List D->Res D):Prop:=(∀ a c,o a≠.err c)/\∀ (Hi H:Hp) (vs:List V) (ds:List D) (d:D) (Q:VK),Same Hi H->IsDs X.K Hi vs ds->o ds=.ok d->
 (∀ v Hi' H',Ext Hi H Hi' H'->IsD X.K Hi' v d->Q v H')->r vs H Q
theorem zIK {r:List V->Hp->VK->Prop} {o:List D->Res D} (k:sL X r o):∀ σ H Q,tD X G (eB o fs) σ H Q->tCB r (tAs X G fs) σ H Q:=fun σ H Q q=>by
 obtain ⟨ρ,Hi,R,ou⟩:=q
 refine zDX R ou fun vs ds Hi1 H1 e1 R1 r1 o1=>?_
 cases z:o ds with
 | no=>rw [z] at o1;exact o1.elim
 | err c=>exact absurd z (k.1 ds c)
 | ok d=>rw [z] at o1;exact k.2 Hi1 H1 vs ds d Q R1.s r1 z fun v Hi2 H2 e2 r2=>o1 Hi2 H2 e2 v r2
theorem aU {r:List V->Hp->VK->Prop} {o:List D->Res D} (hc:oF X (.builtin id) r) (k:sL X r o) (hg:Gl X x) (hm:X.mg x=none) (hv:bootBuiltins x=some (.builtin id)) (ha:PAd X G (e::es) fs) (hn:x ≠ "__name__" := by decide) (hdb:(x==("__debug__" : Str))=false:=by decide)
  (he:starEach (e::es) X.env=(false,eval e X.env)::starEach es X.env:=by rfl) (hpl:(backTo pos (starEach es X.env)).any (·.1)=false:=by rfl):PEd X G (.Call (.Name x p) (e::es) [] pos) (eB o fs):=
 PE.wk (sF hc hg hm hv ha hn hdb he hpl) (zIK k)
theorem wG {r:List V->Hp->VK->Prop} {o:List D->Res D} (hc:oF X (.type T) r) (k:sL X r o) (hg:Gl X x) (hm:X.mg x=none) (hv:bootBuiltins x=some (.type T)) (ha:PAd X G (e::es) fs) (hn:x ≠ "__name__" := by decide) (hdb:(x==("__debug__" : Str))=false:=by decide)
  (he:starEach (e::es) X.env=(false,eval e X.env)::starEach es X.env:=by rfl) (hpl:(backTo pos (starEach es X.env)).any (·.1)=false:=by rfl):PEd X G (.Call (.Name x p) (e::es) [] pos) (eB o fs):=
 PE.wk (zBQ hc hg hm hv ha hn hdb he hpl) (zIK k)
theorem IsDs.one {K:PySem.W.Frag} {H:Hp} {vs:List V} {d:D} (h:IsDs K H vs [d]):∃ v,vs=[v]/\IsD K H v d:=by
 cases h with
 | cons h t=>cases t;exact ⟨_,rfl,h⟩
theorem IsDs.two {K:PySem.W.Frag} {H:Hp} {vs:List V} {d d':D} (h:IsDs K H vs [d,d']):∃ v w,vs=[v,w]/\IsD K H v d/\IsD K H w d':=by
 cases h with
 | cons h t=>obtain ⟨w,rfl,hw⟩:=t.one;exact ⟨_,w,rfl,h,hw⟩
theorem dU:sL X (fun xs H Q=>∃ p ys,xs=[.ref p]/\(SqL X.K H p ys∨SqT X.K H p ys)/\Q (.int ys.length) H) kQ:=⟨fun a c z=>(by
  unfold kQ at z;split at z<;>cases z),fun Hi H vs ds d Q s r z q=>by
  unfold kQ at z
  split at z
  ·cases z
   obtain ⟨v,rfl,h⟩:=r.one
   obtain ⟨a,xs,rfl,h1,h2⟩:=h.lstI
   refine ⟨a,xs,rfl,.inl (bS s h1),?_⟩
   rw [h2.length]
   exact q _ Hi H (Ext.refl s) (.int _)
  ·cases z
   obtain ⟨v,rfl,h⟩:=r.one
   obtain ⟨a,xs,rfl,h1,h2⟩:=h.tupI
   refine ⟨a,xs,rfl,.inr (bN s h1),?_⟩
   rw [h2.length]
   exact q _ Hi H (Ext.refl s) (.int _)
  ·cases z⟩
theorem zCG:sL X (fun xs H Q=>∃ i,xs=[.int i]/\Q (.int (if i < 0 then -i else i)) H) zGt:=⟨fun a c z=>(by
  unfold zGt at z;split at z<;>cases z),fun Hi H vs ds d Q s r z q=>by
  unfold zGt at z
  split at z
  ·cases z
   obtain ⟨v,rfl,h⟩:=r.one
   exact ⟨_,by rw [h.intI],q _ Hi H (Ext.refl s) (.int _)⟩
  ·cases z⟩
theorem zIQ:sL X (fun xs H Q=>∃ i j,xs=[.int i,.int j]/\Q (.int (if j < i then j else i)) H) zIt:=⟨fun a c z=>(by
  unfold zIt at z;split at z<;>cases z),fun Hi H vs ds d Q s r z q=>by
  unfold zIt at z
  split at z
  ·cases z
   obtain ⟨v,w,rfl,h,h'⟩:=r.two
   exact ⟨_,_,by rw [h.intI,h'.intI],q _ Hi H (Ext.refl s) (.int _)⟩
  ·cases z⟩
theorem zFZ:sL X (fun xs H Q=>∃ p ys,xs=[.ref p]/\((SqL X.K H p ys/\∀ l,H l=none->Q (.ref l) (upd H l (.tup ys)))∨(SqT X.K H p ys/\Q (.ref p) H))) zFY:=⟨fun a c z=>(by
  unfold zFY at z;split at z<;>cases z),fun Hi H vs ds d Q s r z q=>by
  unfold zFY at z
  split at z
  ·cases z
   obtain ⟨v,rfl,h⟩:=r.one
   obtain ⟨a,xs,rfl,h1,h2⟩:=h.lstI
   exact ⟨a,xs,rfl,.inl ⟨bS s h1,fun l hl=>q _ _ _ (Ext.new s hl) (.tup (SqT.of aP) (h2.mono (bM (s.none hl) _)))⟩⟩
  ·cases z
   obtain ⟨v,rfl,h⟩:=r.one
   obtain ⟨a,xs,rfl,h1,h2⟩:=h.tupI
   exact ⟨a,xs,rfl,.inr ⟨bN s h1,q _ Hi H (Ext.refl s) (.tup h1 h2)⟩⟩
  ·cases z⟩
structure Kit (K:PySem.W.Frag) (T:String):Prop where
 non:PySem.W.kitOne K (.type "NoneType") (.type T)=some (isT T .non)
 bl:PySem.W.kitOne K (.type "bool") (.type T)=some (isT T (.bl true))
 int:PySem.W.kitOne K (.type "int") (.type T)=some (isT T (.int 0))
 str:PySem.W.kitOne K (.type "str") (.type T)=some (isT T (.str ⟨#[]⟩))
 tup:PySem.W.kitOne K (.type "tuple") (.type T)=some (isT T (.tup []))
 lst:PySem.W.kitOne K (.type "list") (.type T)=some (isT T (.lst []))
theorem zKs (k:Kit X.K T):oF X (.builtin "isinstance") (fun xs H Q=>∃ y d,xs=[y,.ty T]/\IsD X.K H y d/\Q (.bl (isT T d)) H):=by
 intro pins s σ H xs us Q I r h
 obtain ⟨y,d,rfl,hd,q⟩:=h
 obtain ⟨u,w',rfl,rx,rc⟩:=zKo r
 cases rc
 have fin:∀ tk,EP X pins σ Q (.bool (isT T d)) { s with toks:=tk }:=fun tk=>⟨.bl _,H,I.tok _,rfl,q⟩
 cases hd with
 | non=>cases (show u=Value.none from rx);exact PySem.W.kia_one PySem.W.kitx_none I.kIn True.intro k.non (fun z=>nomatch z) fin
 | bl y=>cases (show u=Value.bool y from rx);exact PySem.W.kia_one PySem.W.kitx_bool I.kIn True.intro k.bl (fun z=>nomatch z) fin
 | int i=>obtain ⟨t,q⟩:=(show ∃ t,u=Value.int i t from rx);cases q;exact PySem.W.kia_one PySem.W.kitx_int I.kIn True.intro k.int (fun z=>nomatch z) fin
 | str y=>obtain ⟨t,q⟩:=(show ∃ t,u=Value.str y t from rx);cases q;exact PySem.W.kia_one PySem.W.kitx_str I.kIn True.intro k.str (fun z=>nomatch z) fin
 | @tup a xs ds h hs=>
  cases (show u=Value.ref a from rx)
  obtain ⟨its,rv,⟨o,h1,h2,_⟩,hz⟩:=I.tuple h
  exact PySem.W.kia_one PySem.W.kitx_tuple I.kIn ⟨o,h1,h2⟩ k.tup (fun z=>nomatch z) fin
 | @lst a xs ds h hs=>
  cases (show u=Value.ref a from rx)
  obtain ⟨its,rv,⟨o,n,h1,h2,_⟩,hz⟩:=I.list h
  exact PySem.W.kia_one PySem.W.kitx_list I.kIn ⟨o,h1,h2⟩ k.lst (fun z=>nomatch z) fin
theorem zBu {c:Expr} (k:Kit X.K T) (hg:Gl X "isinstance") (hm:X.mg "isinstance" = none) (ha:PEd X G a f) (hc:PE X c (tC (.ty T)))
  (h1:starEach [a,c] X.env=(false,eval a X.env)::starEach [c] X.env:=by rfl) (h2:starEach [c] X.env=(false,eval c X.env)::starEach [] X.env:=by rfl) (hpl:(backTo pos (starEach [c] X.env)).any (·.1)=false:=by rfl):
  PEd X G (.Call (.Name "isinstance" p) [a,c] [] pos) (zJT T f):=
 PE.wk (sF (zKs k) hg hm boot_isinstance (gB ha (gB hc lP h2) h1) (by decide) (by decide) h1 hpl) fun σ H Q q=>by
 obtain ⟨ρ,Hi,R,ou⟩:=q
 refine xI R ou fun v d Hi1 H1 e1 R1 r1 o1=>?_
 exact ⟨v,d,rfl,r1.mono R1.s,o1.here R1.s _ (.bl _)⟩
variable {lo hi:Option Expr} {l h:Ov} {p2:Pos}
def tOv (X:Cx) (G:Gx) (f:Ov):TO:=fun σ H Q=>∃ ρ Hi,iK X G Hi H σ ρ/\Out G Hi H (f ρ) fun o _ H'=>Q o H'
@[irreducible] def POd (X:Cx) (G:Gx) (e:Option Expr) (f:Ov):Prop:=PO X e (tOv X G f)
unseal POd
theorem PO.wk {X:Cx} {e:Option Expr} {t t':TO} (h:PO X e t) (w:∀ σ H Q,t' σ H Q->t σ H Q):PO X e t':=fun pins s σ H Q I q=>h pins s σ H Q I (w σ H Q q)
theorem yR:POd X G none oN:=PO.wk zHA fun σ H Q q=>by
 obtain ⟨ρ,Hi,R,ou⟩:=q
 exact ou.here R.s
theorem pA (he:PEd X G e f):POd X G (some e) (oS f):=PO.wk (zGz he) fun σ H Q q=>by
 obtain ⟨ρ,Hi,R,ou⟩:=q
 refine xI R ou fun v d Hi1 H1 e1 R1 r1 o1=>?_
 cases d with
 | int i=>exact ⟨i,r1.intI,o1.here R1.s⟩
 | _=>exact o1.elim
theorem zMa {f:Ov} {Hi H:Hp} {σ:St} {ρ:Rho} {β:Type} {k:Option Int->Res β} {k':β->Hp->Hp->Prop} {Q:Option Int->Hp->Prop} (R:iK X G Hi H σ ρ) (o:Out G Hi H ((f ρ).bind k) k')
  (w:∀ c Hi' H',Ext Hi H Hi' H'->iK X G Hi' H' σ ρ->Out G Hi' H' (k c) k'->Q c H'):tOv X G f σ H Q:=
 ⟨ρ,Hi,R,o.bind.imp fun d Hi' H' e q=>w d Hi' H' e (R.grow e) q⟩
theorem zBJ (n d:Nat) (i:Option Int):cut n i d=HT.sIx n d i:=by
 cases i with
 | none=>rfl
 | some i=>
  simp only [cut,HT.sIx]
  split<;>split<;>omega
theorem IsDs.cut {K:PySem.W.Frag} {H:Hp} {xs:List V} {ds:List D} (h:IsDs K H xs ds) (l r:Option Int):IsDs K H (zIh xs l r) (dY ds l r):=by
 unfold zIh dY
 rw [zBJ,zBJ,h.length]
 exact (h.drop _).take _
theorem oB (he:PEd X G e f) (hl:POd X G lo l) (hu:POd X G hi h):PEf X G (.Subscript e (.Slice lo hi none p2) pos) (fSl f l h):=PE.wk (zEY zHh he hl hu) fun σ H Q q=>by
 obtain ⟨ρ,Hi,R,ou⟩:=q
 refine xI R ou fun v d Hi1 H1 e1 R1 r1 o1=>?_
 refine zMa R1 o1 fun i Hi2 H2 e2 R2 o2=>?_
 refine zMa R2 o2 fun j Hi3 H3 e3 R3 o3=>?_
 cases d with
 | lst ds=>
  obtain ⟨a,xs,rfl,h1,h2⟩:=r1.lstI
  refine ⟨a,xs,rfl,bS (e2.i.trans (e3.i.trans R3.s)) h1,fun p hp=>?_⟩
  exact o3 _ _ (Ext.newF R3.s hp) p ⟨(e1.h.trans (e2.h.trans e3.h)).none hp,R3.s.none hp,_,aP,(h2.cut i j).mono (e2.i.trans e3.i)⟩
 | _=>exact o3.elim
def zLC (K:PySem.W.Frag):R2:=fun x y H Q=>∃ l b xs zs,x=.ref l/\y=.ref b/\SqL K H l xs/\SqL K H b zs/\xs.length+zs.length<=sizeLine/\∀ p,H p=none->Q (.ref p) (upd H p (.lst (xs++zs)))
theorem zGG:OpR X (binaryOp .Add) (zLC X.K):=by
 intro pins s σ H x y v u Q I rx ry h
 obtain ⟨l,b,xs,zs,rfl,rfl,hl,hb,hz,q⟩:=h
 cases rx
 cases ry
 obtain ⟨its,r,p,_⟩:=I.list hl
 obtain ⟨its2,r2,p2,_⟩:=I.list hb
 obtain ⟨⟨cls,dd,data,sl⟩,ho,hc,n,hd⟩:=id p.isList
 obtain ⟨⟨cls2,dd2,data2,sl2⟩,ho2,hc2,n2,hd2⟩:=id p2.isList
 simp only at hc hd hc2 hd2
 subst hc hd hc2 hd2
 have hsz:its.toArray.size+its2.toArray.size<=sizeLine:=by rw [List.size_toArray,List.size_toArray,<-r.length,<-r2.length];exact hz
 have e:its.toArray++its2.toArray=(its++its2).toArray:=by simp
 refine concat_meets ⟨_,ho,rfl⟩ ⟨_,ho2,rfl⟩ noFill_list_add seq_list_add PySem.F.slot_list_add PySem.F.entry_list_add (PySem.F.args_list_add_2 _ _) (list_addW l b its.toArray its2.toArray n n2 dd dd2 sl sl2 hsz) ⟨ho,ho2,?_⟩
 rw [e]
 exact ⟨.ref _,_,I.lnew (t':=s.toks) (r.append r2) (by rw [List.length_append];exact hz),rfl,q _ I.fresh⟩
theorem zKB (ha:PEd X G a f) (hb:PEd X G b g):PEf X G (.BinOp a .Add b pos) (zKY f g):=PE.wk (zBL zGG ha hb) fun σ H Q q=>by
 obtain ⟨ρ,Hi,R,ou⟩:=q
 refine xI R ou fun v d Hi1 H1 e1 R1 r1 o1=>?_
 refine xI R1 o1 fun w d' Hi2 H2 e2 R2 r2 o2=>?_
 cases d<;>first | exact o2.elim | skip
 cases d'<;>first | exact o2.elim | skip
 rename_i ds es
 obtain ⟨a,xs,rfl,h1,h2⟩:=r1.lstI
 obtain ⟨b,ys,rfl,h3,h4⟩:=r2.lstI
 have o2':Out G Hi2 H2 (if ds.length+es.length<=16777216 then Res.ok (ds++es) else .no) _:=o2
 by_cases hz:ds.length+es.length<=16777216
 ·rw [if_pos hz] at o2'
  refine ⟨a,b,xs,ys,rfl,rfl,bS (e2.i.trans e2.s) h1,bS e2.s h3,by rw [h2.length,h4.length];exact hz,fun p hp=>?_⟩
  exact o2' _ _ (Ext.newF e2.s hp) p ⟨(e1.h.trans e2.h).none hp,e2.s.none hp,_,aP,(h2.mono e2.i).append h4⟩
 ·rw [if_neg hz] at o2';exact o2'.elim
end
end L3
namespace L3
open PySem PySem.Spec PyProof.Rows L2
unseal PEd PEf PTd PWd PAd PSd cN POd
section
variable {X:Cx} {G:Gx} {a b e:Expr} {es:List Expr} {pos p:Pos} {f g:Ev} {fs gs:Fv} {t u:Tv} {x:Str} {st:Stmt} {rest:List Stmt} {sa sb:Sv}
theorem gQ {Hi H:Hp} {σ:St} {ρ:Rho} {E:Ends} {α:Type} {r:Res α} {k:α->Res Fl} (R:iK X G Hi H σ ρ) (h:Fin X G Hi E (r.bind k)) {Q:α->Hp->Hp->Prop}
  (w:∀ a Hi' H',r=.ok a->Ext Hi H Hi' H'->Fin X G Hi' E (k a)->Q a Hi' H'):Out G Hi H r Q:=by
 cases r with
 | no=>exact h
 | err c=>exact fun Hi' H' e=>h Hi' H' (R.ext.trans e)
 | ok a=>exact fun Hi' H' e=>w a Hi' H' rfl e (Fin.mono (show Fin X G Hi E (k a) from h) e.i)
theorem cB:cN X G [] sNext:=PSs.wk zHf fun E σ H q=>by
 obtain ⟨ρ,Hi,R,h⟩:=q
 exact h σ Hi H (Same.refl _) R
theorem zJe {E:Ends} {Hi:Hp} {ρ:Rho} (h:Fin X G Hi E (bP sa sb ρ)):Fin X G Hi { E with nx:=tS X G sb E } (sa ρ):=by
 unfold bP at h
 cases z:sa ρ with
 | no=>rw [z] at h;exact h
 | err c=>rw [z] at h;exact h
 | ok fl=>
  rw [z] at h
  cases fl with
  | nx ρ'=>exact fun σ' Hi' H' s R'=>⟨ρ',Hi',R',Fin.mono (show Fin X G Hi E (sb ρ') from h) s⟩
  | brk ρ'=>exact h
  | ctn ρ'=>exact h
  | ret r=>cases r<;>exact h
theorem zKv {E:Ends} {σ:St} {H:Hp} (q:tS X G (bP sa sb) E σ H):tS X G sa { E with nx:=tS X G sb E } σ H:=by
 obtain ⟨ρ,Hi,R,h⟩:=q
 exact ⟨ρ,Hi,R,zJe h⟩
theorem aF (h1:PSd X G st sa) (h2:cN X G rest sb):cN X G (st::rest) (bP sa sb):=PSs.wk (oE h1 h2) fun _ _ _ q=>zKv q
theorem aI (h1:PSd X G st sa):cN X G [st] sa:=xD h1
theorem nF (he:PEd X G e f) (hs:swapsWith e none pos.line X.env=pure false:=by rfl):PSd X G (.Expr e pos) (pQ f):=PS.wk (wV he hs) fun E σ H q=>by
 obtain ⟨ρ,Hi,R,h⟩:=q
 exact ⟨ρ,Hi,R,gQ R h fun d Hi' H' _ e h' v r=>h' σ Hi' H' (Same.refl _) (R.grow e)⟩
theorem cO (he:PEd X G e f):PSd X G (.Return (some e) pos) (iM f):=PS.wk (zAi he) fun E σ H q=>by
 obtain ⟨ρ,Hi,R,h⟩:=q
 obtain ⟨Hf,s1,R1,fl⟩:=R.frz
 refine ⟨ρ.map Sl.frz,Hf,R1,gQ R1 (Fin.mono h s1) fun d Hi' H' _ e h' v r=>?_⟩
 exact h' v Hi' H' (R1.ext.trans e) r
theorem fU (he:PEf X G e fs):PSd X G (.Return (some e) pos) (jO fs):=PS.wk (zAi he) fun E σ H q=>by
 obtain ⟨ρ,Hi,R,h⟩:=q
 obtain ⟨Hf,s1,R1,fl⟩:=R.frz
 refine ⟨ρ.map Sl.frz,Hf,R1,gQ R1 (Fin.mono h s1) fun ds Hi' H' _ e h' a n=>?_⟩
 obtain ⟨n1,n2,xs,n3,n4⟩:=n
 exact h' a Hi' H' (R1.ext.trans e) ⟨R1.ext.h.none n1,n2,xs,n3,n4⟩
theorem jG (i:Nat) (he:PE X e (zAb i)):PSd X G (.Return (some e) pos) (fX i):=PS.wk (zAi he) fun E σ H q=>by
 obtain ⟨ρ,Hi,R,h⟩:=q
 unfold fX at h
 cases z:ρ[i]? with
 | none=>rw [z] at h;exact h.elim
 | some s=>
  rw [z] at h
  cases s with
  | own ds=>
   obtain ⟨a,xs,p,h1,h2,h3,h4⟩:=R.slot i _ z
   exact ⟨.ref a,p,h a Hi H R.ext ⟨h3,h2,xs,h1,h4⟩⟩
  | un=>exact h.elim
  | val d=>exact h.elim
  | exc c=>exact h.elim
  | tab T=>exact h.elim
theorem nK {c:Expr} {as bs:List Stmt} (hc:PTd X G c t) (ha:cN X G as sa) (hb:cN X G bs sb):PSd X G (.If c as bs pos) (sIf t sa sb):=PS.wk (zLw hc ha hb) fun E σ H q=>by
 obtain ⟨ρ,Hi,R,h⟩:=q
 refine ⟨ρ,Hi,R,gQ R h fun c Hi' H' _ e h'=>?_⟩
 cases c with
 | true=>exact ⟨ρ,Hi',R.grow e,h'⟩
 | false=>exact ⟨ρ,Hi',R.grow e,h'⟩
theorem zLl {i:Nat} {pos':Pos} (hN:X.N.Nodup) (hi:X.N[i]?=some x) (hx:Loc X.env.scope x) (he:PEd X G e f) (hs:swapsWith e (some (.Name x pos')) pos.line X.env=pure false:=by rfl)
  (hf:X.fn x=true∨X.env.scope.names.lookup x=some .local:=by first | exact .inl rfl | exact .inr rfl | assumption):PSd X G (.Assign [.Name x pos'] e pos) (fL i f):=PS.wk (zFB hN hi hx he hs hf) fun E σ H q=>by
 obtain ⟨ρ,Hi,R,h⟩:=q
 exact ⟨ρ,Hi,R,gQ R h fun d Hi' H' _ e h' v r=>h' _ Hi' H' (Same.refl _) ((R.grow e).set r)⟩
theorem uJ {i:Nat} {pos':Pos} (hN:X.N.Nodup) (hi:X.N[i]?=some x) (hx:Loc X.env.scope x) (he:PEf X G e fs) (hs:swapsWith e (some (.Name x pos')) pos.line X.env=pure false:=by rfl)
  (hf:X.fn x=true∨X.env.scope.names.lookup x=some .local:=by first | exact .inl rfl | exact .inr rfl | assumption):PSd X G (.Assign [.Name x pos'] e pos) (zBf i fs):=PS.wk (zFB hN hi hx he hs hf) fun E σ H q=>by
 obtain ⟨ρ,Hi,R,h⟩:=q
 refine ⟨ρ,Hi,R,gQ R h fun ds Hi' H' _ e h' a n=>?_⟩
 obtain ⟨n1,n2,xs,n3,n4⟩:=n
 exact h' _ Hi' H' (Same.refl _) (R.setOwn e n1 n3 n2 n4)
theorem zFa {i:Nat} {o:Expr} {apos cpos:Pos} (ho:PE X o (zAb i)) (he:PEd X G e f)
  (hbase:attributeBase o "append" X.env (eval o X.env)=eval o X.env:=by rfl)
  (hfew:((backTo cpos (starEach [e] X.env)).all (fun x=>!x.1) && (backToKw cpos (keywordEach [] X.env)).all (fun x=>x.1.isSome)
   && decide ([e].length+([]:List Keyword).length+(if ([]:List Keyword).isEmpty then 0 else 1) < 30))=true:=by rfl)
  (hline:(apos.endLine==cpos.line)=true:=by rfl) (hs:starEach [e] X.env=(false,eval e X.env)::starEach [] X.env:=by rfl)
  (hsw:swapsWith (.Call (.Attribute o "append" apos) [e] [] cpos) none pos.line X.env=pure false:=by rfl):
  PSd X G (.Expr (.Call (.Attribute o "append" apos) [e] [] cpos) pos) (zFF i f):=
 PS.wk (wV (zIY PySem.F.plainAttrs_list PySem.F.slot_list_append PySem.F.type_list_append oX ho (gB he lP hs) hbase hfew hline hs) hsw) fun E σ H q=>by
 obtain ⟨ρ,Hi,R,h⟩:=q
 unfold zFF at h
 cases z:ρ[i]? with
 | none=>rw [z] at h;exact h.elim
 | some s=>
  rw [z] at h
  cases s with
  | own ds=>
   obtain ⟨a,xs,p,h1,h2,h3,h4⟩:=R.slot i _ z
   refine ⟨.ref a,p,.inl ⟨rfl,xs,SqL.of h1⟩,?_⟩
   refine ⟨ρ,Hi,R,gQ R h fun d Hi' H' _ e h' v r=>?_⟩
   have R':=R.grow e
   obtain ⟨g1,g2⟩:=e.out h1 h2
   by_cases hz:ds.length < 16777216
   ·rw [if_pos hz] at h'
    refine ⟨a,xs,v,rfl,rfl,g1,by rw [h4.length];exact hz,?_⟩
    exact h' σ Hi' _ (Same.refl _) (R'.write z p ((h4.mono e.i).append (.cons r .nil)))
   ·rw [if_neg hz] at h';exact h'.elim
  | un=>exact h.elim
  | val d=>exact h.elim
  | exc c=>exact h.elim
  | tab T=>exact h.elim
theorem zKC {i:Nat} {o:Expr} {apos cpos:Pos} (ho:PE X o (zAb i)) (he:PEf X G e fs)
  (hbase:attributeBase o "extend" X.env (eval o X.env)=eval o X.env:=by rfl)
  (hfew:((backTo cpos (starEach [e] X.env)).all (fun x=>!x.1) && (backToKw cpos (keywordEach [] X.env)).all (fun x=>x.1.isSome)
   && decide ([e].length+([]:List Keyword).length+(if ([]:List Keyword).isEmpty then 0 else 1) < 30))=true:=by rfl)
  (hline:(apos.endLine==cpos.line)=true:=by rfl) (hs:starEach [e] X.env=(false,eval e X.env)::starEach [] X.env:=by rfl)
  (hsw:swapsWith (.Call (.Attribute o "extend" apos) [e] [] cpos) none pos.line X.env=pure false:=by rfl):
  PSd X G (.Expr (.Call (.Attribute o "extend" apos) [e] [] cpos) pos) (zIf i fs):=
 PS.wk (wV (zIY PySem.F.plainAttrs_list PySem.F.slot_list_extend PySem.F.type_list_extend zBB ho (gB he lP hs) hbase hfew hline hs) hsw) fun E σ H q=>by
 obtain ⟨ρ,Hi,R,h⟩:=q
 unfold zIf at h
 cases z:ρ[i]? with
 | none=>rw [z] at h;exact h.elim
 | some s=>
  rw [z] at h
  cases s with
  | own ds=>
   obtain ⟨a,xs,p,h1,h2,h3,h4⟩:=R.slot i _ z
   refine ⟨.ref a,p,.inl ⟨rfl,xs,SqL.of h1⟩,?_⟩
   refine ⟨ρ,Hi,R,gQ R h fun es Hi' H' _ e h' b n=>?_⟩
   obtain ⟨n1,n2,ys,n3,n4⟩:=n
   have R':=R.grow e
   obtain ⟨g1,g2⟩:=e.out h1 h2
   by_cases hz:ds.length+es.length<=16777216
   ·rw [if_pos hz] at h'
    refine ⟨a,b,xs,ys,rfl,rfl,g1,n3,by rw [h4.length,n4.length];exact hz,?_⟩
    exact h' σ Hi' _ (Same.refl _) (R'.write z p ((h4.mono e.i).append n4))
   ·rw [if_neg hz] at h';exact h'.elim
  | un=>exact h.elim
  | val d=>exact h.elim
  | exc c=>exact h.elim
  | tab T=>exact h.elim
theorem zLd {i:Nat} {o k:Expr} {fk:Ev} {tpos:Pos} (ho:PE X o (zAb i)) (hk:PEd X G k fk) (he:PEd X G e f) (hs:swapsWithSole [.Subscript o k tpos] e pos.line X.env=pure false:=by rfl) (hw:swappedStores [.Subscript o k tpos] e X.env=pure none:=by rfl)
  (h1:(assignEach [.Subscript o k tpos] X.env).map (·.2)=[assign (.Subscript o k tpos) X.env]:=by rfl)
  (ha:∀ v,assign (.Subscript o k tpos) X.env v=(do
   let ov <-holding [v] (eval o X.env)
   let iv <-holding [v,ov] (eval k X.env)
   standAt tpos
   holding [v,ov,iv] (setItem ov iv v)
   release [v,ov,iv] []):=by intro _;rfl):PSd X G (.Assign [.Subscript o k tpos] e pos) (zKO i fk f):=
 PS.wk (zKh he (zJH ho hk zAe ha) hs hw h1) fun E σ H q=>by
 obtain ⟨ρ,Hi,R,h⟩:=q
 refine ⟨ρ,Hi,R,gQ R h fun d Hi1 H1 _ e1 h1 v r=>?_⟩
 have R1:=R.grow e1
 cases z:ρ[i]? with
 | none=>rw [z] at h1;exact h1.elim
 | some s=>
  rw [z] at h1
  cases s with
  | own ds=>
   obtain ⟨a,xs,p,g1,g2,g3,g4⟩:=R1.slot i _ z
   refine ⟨.ref a,p,?_⟩
   refine ⟨ρ,Hi1,R1,gQ R1 h1 fun j Hi2 H2 _ e2 h2 w rw'=>?_⟩
   have R2:=R1.grow e2
   obtain ⟨k1,k2⟩:=e2.out g1 g2
   cases j with
   | int j=>
    have hl:=g4.length
    have h2':Fin X G Hi2 E (if 0<=j/\j < ds.length then Res.ok (.nx (ρ.set i (.own (ds.set j.toNat d)))) else if -(ds.length:Int)<=j/\j < 0 then .ok (.nx (ρ.set i (.own (ds.set (j+ds.length).toNat d)))) else .no):=h2
    by_cases c1:0<=j/\j < ds.length
    ·rw [if_pos c1] at h2'
     refine ⟨a,xs,j,j.toNat,rfl,rw'.intI,k1,by unfold ixN;rw [if_pos c1.1,if_pos (by omega)],?_⟩
     exact h2' σ Hi2 _ (Same.refl _) (R2.write z p ((g4.mono e2.i).set (r.mono e2.i) j.toNat))
    ·rw [if_neg c1] at h2'
     by_cases c2:-(ds.length:Int)<=j/\j < 0
     ·rw [if_pos c2] at h2'
      refine ⟨a,xs,j,(j+ds.length).toNat,rfl,rw'.intI,k1,by unfold ixN;rw [if_neg (by omega),if_pos (by omega),hl],?_⟩
      exact h2' σ Hi2 _ (Same.refl _) (R2.write z p ((g4.mono e2.i).set (r.mono e2.i) (j+ds.length).toNat))
     ·rw [if_neg c2] at h2';exact h2'.elim
   | _=>exact h2.elim
  | un=>exact h1.elim
  | val d=>exact h1.elim
  | exc c=>exact h1.elim
  | tab T=>exact h1.elim
theorem zLv {i:Nat} {op:Operator} {o:Op2} {r:Int->Int->Int} {pos':Pos} (hN:X.N.Nodup) (hi:X.N[i]?=some x) (hx:Loc X.env.scope x) (he:PEd X G e f) (ho:PIp X op (ipI r)) (hr:∀ a b d,o a b=.ok d->∃ i j,a=.int i/\b=.int j/\d=.int (r i j)) (hn:∀ a b c,o a b≠.err c)
  (hf:X.fn x=true∨X.env.scope.names.lookup x=some .local:=by first | exact .inl rfl | exact .inr rfl | assumption):PSd X G (.AugAssign (.Name x pos') op e pos) (zJB i o f):=PS.wk (zIX hN hi hx he ho hf) fun E σ H q=>by
 obtain ⟨ρ,Hi,R,h⟩:=q
 unfold zJB at h
 cases z:ρ[i]? with
 | none=>rw [z] at h;exact h.elim
 | some s=>
  rw [z] at h
  cases s with
  | val d=>
   obtain ⟨v,p,rv⟩:=R.slot i _ z
   refine ⟨v,p,ρ,Hi,R,gQ R h fun d' Hi' H' _ e h' w rw'=>?_⟩
   cases q:o d d' with
   | no=>rw [q] at h';exact h'.elim
   | err c=>exact absurd q (hn _ _ _)
   | ok u=>
    rw [q] at h'
    obtain ⟨i',j',rfl,rfl,rfl⟩:=hr _ _ _ q
    exact ⟨i',j',rv.intI,rw'.intI,h' _ Hi' H' (Same.refl _) ((R.grow e).set (.int _))⟩
  | un=>exact h.elim
  | own ds=>exact h.elim
  | exc c=>exact h.elim
  | tab T=>exact h.elim
theorem cN.frzAt (i:Nat) {sts:List Stmt} (h:cN X G sts sa):cN X G sts (sFrzAt i sa):=PSs.wk h fun E σ H q=>by
 obtain ⟨ρ,Hi,R,h⟩:=q
 obtain ⟨Hi',s,R'⟩:=R.frzAt (i:=i)
 exact ⟨_,Hi',R',Fin.mono h s⟩
def tGv (X:Cx) (G:Gx) (g:Gv):TG:=fun v σ H Q=>∃ d ρ Hi,IsD X.K Hi v d/\iK X G Hi H σ ρ/\∃ ρ',g d ρ=.ok ρ'/\∀ σ' Hi' H',Same Hi Hi'->iK X G Hi' H' σ' ρ'->Q σ' H'
@[irreducible] def PGd (X:Cx) (G:Gx) (e:Expr) (g:Gv):Prop:=PG X e (tGv X G g)
unseal PGd
theorem zJf {i:Nat} (hN:X.N.Nodup) (hi:X.N[i]?=some x) (hx:Loc X.env.scope x) (hf:X.fn x=true∨X.env.scope.names.lookup x=some .local:=by first | exact .inl rfl | exact .inr rfl | assumption):PGd X G (.Name x pos) (gName i):=
 fun pins s σ H v u Q I r q=>xU hN hi hx hf pins s σ H v u Q I r (by
  obtain ⟨d,ρ,Hi,rd,R,ρ',e,k⟩:=q
  cases e
  exact k _ Hi H (Same.refl _) (R.set rd))
def zMR (X:Cx) (G:Gx) (g:List D->Rho->Res Rho):TGs:=fun vs σ H Q=>∃ ds ρ Hi,IsDs X.K Hi vs ds/\iK X G Hi H σ ρ/\∃ ρ',g ds ρ=.ok ρ'/\∀ σ' Hi' H',Same Hi Hi'->iK X G Hi' H' σ' ρ'->Q σ' H'
@[irreducible] def eK (X:Cx) (G:Gx) (es:List Expr) (g:List D->Rho->Res Rho):Prop:=PGs X es (zMR X G g)
unseal eK
theorem zCi:eK X G [] zBK:=fun pins s σ H vs us Q I r q=>zCr pins s σ H vs us Q I r (by
  obtain ⟨ds,ρ,Hi,rd,R,ρ',e,k⟩:=q
  cases ds with
  | nil=>cases rd;cases e;exact ⟨rfl,k _ Hi H (Same.refl _) R⟩
  | cons d ds=>cases e)
theorem kG {g:Gv} {r:List D->Rho->Res Rho} (h1:PGd X G e g) (h2:eK X G es r) (hs:(assignEach (e::es) X.env).map (·.2)=assign e X.env::(assignEach es X.env).map (·.2):=by rfl):eK X G (e::es) (iZ g r):=
 fun pins s σ H vs us Q I rr q=>rO h1 h2 hs pins s σ H vs us Q I rr (by
  obtain ⟨ds,ρ,Hi,rd,R,ρ',e,k⟩:=q
  cases ds with
  | nil=>cases e
  | cons d ds=>
   cases rd with
   | cons rd rds=>
    refine ⟨_,_,rfl,d,ρ,Hi,rd,R,?_⟩
    have e':(g d ρ).bind (fun ρ'=>r ds ρ')=.ok ρ':=e
    cases z:g d ρ with
    | no=>rw [z] at e';cases e'
    | err c=>rw [z] at e';cases e'
    | ok ρ1=>
     rw [z] at e'
     exact ⟨ρ1,rfl,fun σ1 Hi1 H1 s1 R1=>⟨ds,ρ1,Hi1,rds.mono s1,R1,ρ',e',fun σ2 Hi2 H2 s2 R2=>k σ2 Hi2 H2 (s1.trans s2) R2⟩⟩)
theorem zGI {k:Nat} {r:List D->Rho->Res Rho} {n:Nat} (hc:X.calm=true) (h:eK X G es r) (hr:∀ ds ρ ρ',r ds ρ=.ok ρ'->ds.length=n) (hn:(assignEach es X.env).length=n:=by rfl) (hst:(assignEach es X.env).findIdx? (·.1)=none:=by rfl):PGd X G (.Tuple es k pos) (zBE r):=
 fun pins s σ H v u Q I rr q=>zGd hc h hn hst pins s σ H v u Q I rr (by
  obtain ⟨d,ρ,Hi,rd,R,ρ',e,kk⟩:=q
  cases d with
  | tup ds=>
   obtain ⟨a,xs,rfl,h1,h2⟩:=rd.tupI
   exact ⟨a,xs,rfl,bN R.s h1,by rw [h2.length];exact hr ds ρ ρ' e,ds,ρ,Hi,h2,R,ρ',e,kk⟩
  | _=>cases e)
def oG (K:PySem.W.Frag) (Hi:Hp) (J:It) (ds:List D):Prop:=∀ (Hi1 H1:Hp),Same Hi Hi1->Same Hi1 H1->∀ i,
 (ds.length<=i->J.stop i H1)/\∀ d,ds[i]?=some d->J.go i H1/\∀ x H2,J.yld i H1 x H2->∃ Hi2,Ext Hi1 H1 Hi2 H2/\IsD K Hi2 x d
def tIv (X:Cx) (G:Gx) (f:Fv):TI:=fun σ H R=>∃ ρ Hi,iK X G Hi H σ ρ/\Out G Hi H (f ρ) fun ds Hi' H'=>∀ J,oG X.K Hi' J ds->R J H'
@[irreducible] def PId (X:Cx) (G:Gx) (tg e:Expr) (f:Fv):Prop:=PI X tg e (tIv X G f)
unseal PId
theorem PI.wk {tg:Expr} {t t':TI} (h:PI X tg e t) (w:∀ σ H Q,t' σ H Q->t σ H Q):PI X tg e t':=fun pins s σ H Q I q=>h pins s σ H Q I (w σ H Q q)
theorem zFJ {g:Gv} {J:It} {ds:List D} {Hi1 H1:Hp} {σ:St} {ρ:Rho} {E:Ends} (hge:∀ d ρ c,g d ρ≠.err c) (R1:iK X G Hi1 H1 σ ρ) (h1:Fin X G Hi1 E (loop g sa ds ρ)) (gv:oG X.K Hi1 J ds):zLW (fun _ _ R=>R J H1) (tGv X G g) (tS X G sa) E σ H1:=by
 refine ⟨fun i m σ' H'=>m=ds.length - i/\∃ ρ' Hi',Same Hi1 Hi'/\iK X G Hi' H' σ' ρ'/\Fin X G Hi' E (loop g sa (ds.drop i) ρ'),⟨_,rfl,ρ,Hi1,Same.refl _,R1,h1⟩,?_⟩
 rintro i m σ' H' ⟨rfl,ρ',Hi',s',R',h'⟩
 obtain ⟨w1,w2⟩:=gv Hi' H' s' R'.s i
 by_cases hl:i < ds.length
 ·obtain ⟨d,hd⟩:∃ d,ds[i]?=some d:=⟨_,List.getElem?_eq_getElem hl⟩
  obtain ⟨go,yl⟩:=w2 d hd
  have e3:ds.drop i=d::ds.drop (i+1):=by
   rw [List.getElem?_eq_getElem hl] at hd
   cases hd
   exact List.drop_eq_getElem_cons hl
  rw [e3] at h'
  refine .inr ⟨go,fun σ2 H2=>∃ ρ2 Hi2,Same Hi1 Hi2/\iK X G Hi2 H2 σ2 ρ2/\Fin X G Hi2 E (loop g sa (ds.drop (i+1)) ρ2),fun σ2 H2 z=>⟨ds.length - (i+1),by omega,rfl,z⟩,fun x H2 y=>?_⟩
  obtain ⟨Hi2,e2,r2⟩:=yl x H2 y
  have R2:=R'.grow e2
  have h2:Fin X G Hi2 E ((g d ρ').bind fun ρ1=>(sa ρ1).bind fun f=>match f with
   | .nx ρ2=>loop g sa (ds.drop (i+1)) ρ2
   | .ctn ρ2=>loop g sa (ds.drop (i+1)) ρ2
   | .brk ρ2=>.ok (.nx ρ2)
   | .ret r=>.ok (.ret r)):=Fin.mono h' e2.i
  cases z:g d ρ' with
  | no=>rw [z] at h2;exact h2.elim
  | err c=>exact absurd z (hge _ _ _)
  | ok ρ1=>
   rw [z] at h2
   refine ⟨d,ρ',Hi2,r2,R2,ρ1,z,fun σ3 Hi3 H3 s3 R3=>⟨ρ1,Hi3,R3,?_⟩⟩
   have h3:=Fin.mono h2 s3
   have sm:Same Hi1 Hi3:=(s'.trans e2.i).trans s3
   simp only [Res.bind] at h3
   cases zb:sa ρ1 with
   | no=>rw [zb] at h3;exact h3.elim
   | err c=>rw [zb] at h3;exact h3
   | ok fl=>
    rw [zb] at h3
    cases fl with
    | nx ρ2=>exact fun σ4 Hi4 H4 s4 R4=>⟨ρ2,Hi4,sm.trans s4,R4,Fin.mono (show Fin X G Hi3 E (loop g sa (ds.drop (i+1)) ρ2) from h3) s4⟩
    | ctn ρ2=>exact fun σ4 Hi4 H4 s4 R4=>⟨ρ2,Hi4,sm.trans s4,R4,Fin.mono (show Fin X G Hi3 E (loop g sa (ds.drop (i+1)) ρ2) from h3) s4⟩
    | brk ρ2=>exact h3
    | ret r=>cases r<;>exact h3
 ·rw [List.drop_eq_nil_of_le (by omega)] at h'
  exact .inl ⟨w1 (by omega),h' σ' Hi' H' (Same.refl _) R'⟩
theorem mX {tg iter:Expr} {body:List Stmt} {it:Fv} {g:Gv} (hp:PassesOwn (model X.prog X.w) X.A X.env X.xe) (hc:X.calm=true) (hi:PId X G tg iter it) (hg:PGd X G tg g) (hge:∀ d ρ c,g d ρ≠.err c) (hb:cN X G body sa)
  (hs:∀ x,foldedSetIterable iter X.env x=pure x:=by intro _;rfl):PSd X G (.For tg iter body [] pos) (xM it g sa):=PS.wk (zFS hp hc hi hg hb hs) fun E σ H q=>by
 obtain ⟨ρ,Hi,R,h⟩:=q
 exact ⟨ρ,Hi,R,gQ R h fun ds Hi1 H1 _ e1 h1 J gv=>zFJ hge (R.grow e1) h1 gv⟩
theorem zGs {c:Expr} {body:List Stmt} (hp:PassesOwn (model X.prog X.w) X.A X.env X.xe) (hc:PTd X G c t) (hb:cN X G body sa):PSd X G (.While c body [] pos) (dI t sa):=PS.wk (zEh hp hc hb) fun E σ H q=>by
 obtain ⟨ρ,Hi,R,h⟩:=q
 have hn:dI t sa ρ≠.no:=fun z=>by rw [z] at h;exact h
 obtain ⟨n,en⟩:=kJ hn
 rw [en] at h
 refine ⟨fun m σ' H'=>∃ ρ' Hi',Same Hi Hi'/\iK X G Hi' H' σ' ρ'/\Fin X G Hi' E (wh t sa m ρ'),⟨n,ρ,Hi,Same.refl _,R,h⟩,?_⟩
 rintro m σ' H' ⟨ρ',Hi',s',R',h'⟩
 cases m with
 | zero=>exact h'.elim
 | succ m=>
  rw [wh] at h'
  refine ⟨ρ',Hi',R',gQ R' h' fun c Hi1 H1 _ e1 h1=>?_⟩
  have R1:=R'.grow e1
  cases c with
  | false=>exact h1 σ' Hi1 H1 (Same.refl _) R1
  | true=>
   refine ⟨fun σ2 H2=>∃ ρ2 Hi2,Same Hi Hi2/\iK X G Hi2 H2 σ2 ρ2/\Fin X G Hi2 E (wh t sa m ρ2),fun σ2 H2 z=>⟨m,by omega,z⟩,ρ',Hi1,R1,?_⟩
   have sm:Same Hi Hi1:=s'.trans e1.i
   simp only [if_true] at h1
   cases zb:sa ρ' with
   | no=>rw [zb] at h1;exact h1.elim
   | err c=>rw [zb] at h1;exact h1
   | ok fl=>
    rw [zb] at h1
    cases fl with
    | nx ρ2=>exact fun σ4 Hi4 H4 s4 R4=>⟨ρ2,Hi4,sm.trans s4,R4,Fin.mono (show Fin X G Hi1 E (wh t sa m ρ2) from h1) s4⟩
    | ctn ρ2=>exact fun σ4 Hi4 H4 s4 R4=>⟨ρ2,Hi4,sm.trans s4,R4,Fin.mono (show Fin X G Hi1 E (wh t sa m ρ2) from h1) s4⟩
    | brk ρ2=>exact h1
    | ret r=>cases r<;>exact h1
theorem zDw {K:PySem.W.Frag} {Hi:Hp} {a:Addr} {xs:List V} {ds:List D} (h:SqT K Hi a xs) (hs:IsDs K Hi xs ds):oG K Hi (Itt K a) ds:=fun Hi1 H1 s1 s2 i=>by
 have h1:=bN (s1.trans s2) h
 refine ⟨fun hl=>⟨xs,h1,by rw [hs.length];exact hl⟩,fun d hd=>?_⟩
 obtain ⟨v,hv,r⟩:=hs.at hd
 refine ⟨⟨xs,v,h1,hv⟩,fun x H2 y=>?_⟩
 obtain ⟨e,y⟩:=y
 subst e
 have:=y xs h1
 rw [hv] at this
 cases this
 exact ⟨Hi1,Ext.refl s2,r.mono s1⟩
theorem zGM {lo c:Int} {n i:Nat} {d:D} (h:(rng lo n c)[i]?=some d):i < n/\d=.int (lo+(i:Int) * c):=by
 unfold rng at h
 rw [List.getElem?_map] at h
 by_cases hl:i < n
 ·rw [List.getElem?_range hl] at h;cases h;exact ⟨hl,rfl⟩
 ·rw [List.getElem?_eq_none (by rw [List.length_range];omega)] at h;cases h
theorem zGR (lo c:Int) (n:Nat):(rng lo n c).length=n:=by unfold rng;rw [List.length_map,List.length_range]
theorem zDp {K:PySem.W.Frag} {Hi:Hp} (lo:Int) (n:Nat):oG K Hi (Itr lo n) (rng lo n 1):=fun Hi1 H1 s1 s2 i=>by
 refine ⟨fun hl=>by rw [zGR] at hl;exact hl,fun d hd=>?_⟩
 obtain ⟨h1,rfl⟩:=zGM hd
 refine ⟨h1,fun x H2 y=>?_⟩
 obtain ⟨e,y⟩:=y
 subst e y
 rw [Int.mul_one]
 exact ⟨Hi1,Ext.refl s2,.int _⟩
theorem zAw {tg:Expr} (hg:Gl X "range") (hm:X.mg "range" = none) (ha:PAd X G [a] fs) (hs:starEach [a] X.env=[(false,eval a X.env)]:=by rfl):PId X G tg (.Call (.Name "range" p) [a] [] pos) (pO fs):=PI.wk (zDi hg hm ha hs) fun σ H Q q=>by
 obtain ⟨ρ,Hi,R,ou⟩:=q
 refine zDX R ou fun vs ds Hi1 H1 e1 R1 r1 o1=>?_
 split at o1
 ·rename_i j
  obtain ⟨v,rfl,h⟩:=r1.one
  by_cases hz:-(2^62)<=j/\j < 2^62
  ·rw [if_pos hz] at o1
   exact ⟨j,by rw [h.intI],hz.1,hz.2,o1.here R1.s _ (zDp 0 j.toNat)⟩
  ·rw [if_neg hz] at o1;exact o1.elim
 ·exact o1.elim
end
end L3
namespace L3
open PySem PySem.Spec PyProof.Rows L2
unseal PEd PEf PTd PWd PAd PSd cN POd PGd eK PId
structure Fn (K:PySem.W.Frag) (mg:Str->Option Value) (x:Str) (st:Stmt) (ps:List Str) (f:Addr) (fd:FuncData):Prop where
 fn:Fun K x x st f fd
 bd:vH K fd ps []
 kp:PySem.W.keepIn K (.ref f)=true
 mg:mg x=some (.ref f)
def XE (X:Cx) (G:Gx):XK:=fun cls _ H=>∃ c,X.mg c=some cls/\G.E c H
def lL (K:PySem.W.Frag) (mg:Str->Option Value) (P:Addr):Prop:=∃ f oc od fd osl c,mg "ranked" = some (.ref f)/\K.lookup f=some ⟨oc,od,.func fd,osl⟩/\fd.code=.ref c/\∀ h,K.In h->PySem.W.CodeHd h c P
def TB (K:PySem.W.Frag) (mg:Str->Option Value) (Hi H:Hp):Prop:=∀ P,lL K mg P->vT P H/\Hi P=none
theorem TB.ext {K:PySem.W.Frag} {mg:Str->Option Value} {Hi H Hi' H':Hp} (t:TB K mg Hi H) (e:Ext Hi H Hi' H'):TB K mg Hi' H':=fun P h=>⟨e.h.t P (t P h).1,by
 cases z:Hi' P with
 | none=>rfl
 | some o=>
  obtain ⟨⟨ps,q,_⟩,n⟩:=t P h
  have:=e.n P n (by rw [z];exact fun w=>by cases w)
  rw [q] at this;cases this⟩
structure Good (X:Cx) (G:Gx) (k:Nat):Prop where
 calm:X.calm=true
 room:Room k X.A
 pass:zAg (CX1 X.prog X.w) X (XE X G)
 own:PassesOwn (model X.prog X.w) X.A X.env X.xe
 tb:TB X.K X.mg G.Bi G.B
def zAQ (X:Cx) (G:Gx):Prop:=∀ (pins:List (Addr×Obj)) (σ:St) (H:Hp) (s s':Shared) (ea:Addr) (cls:Value) (vs:List Value),Inv X pins σ H s->Heap.MadeExcOf s.heap s'.heap ea cls vs->s'.os=s.os->AllBare s'.gens->XE X G cls none H->X.xe (.ref ea) s'
def spM (K:PySem.W.Frag) (mg:Str->Option Value) (p:Nat) (m:Mir):Sp:=fun vs H Q E=>vs.length=p/\∃ Bi ds,TB K mg Bi H/\Same Bi H/\IsDs K Bi vs ds/\match m ds with
 | .ok (.v d)=>∀ v Hi' H',Ext Bi H Hi' H'->IsD K Hi' v d->Q v H'
 | .ok (.f es)=>∀ a Hi' H',Ext Bi H Hi' H'->zDT K H Hi' H' a es->Q (.ref a) H'
 | .err c=>∀ C,mg c=some C->∀ Hi' H',Ext Bi H Hi' H'->E C none H'
 | .no=>False
structure CanM (P:Program) (w:World) (K:PySem.W.Frag) (mg:Str->Option Value) (base:Heap) (k:Nat) (x:Str) (ps:List Str) (m:Mir):Prop where
 ex:∃ f fd,FnOk P w K mg base (CX1 P w) k f fd ps (spM K mg ps.length m)/\vH K fd ps []/\PySem.W.keepIn K (.ref f)=true/\mg x=some (.ref f)
 ln:∀ ds,m ds≠.no->ds.length=ps.length
theorem Good.u {X:Cx} {G:Gx} {k:Nat} (W:Good X G k):X.A.units+64 < cLine:=W.room.units
theorem CanM.mono {P:Program} {w:World} {K:PySem.W.Frag} {mg:Str->Option Value} {base:Heap} {j k:Nat} {x:Str} {ps:List Str} {m:Mir} (c:CanM P w K mg base j x ps m) (h:j<=k):CanM P w K mg base k x ps m:=by
 obtain ⟨⟨f,fd,F,r⟩,l⟩:=c
 exact ⟨⟨f,fd,F.mono h,r⟩,l⟩
section
variable {X:Cx} {G:Gx} {a b e:Expr} {es:List Expr} {pos p:Pos} {f g:Ev} {fs gs:Fv} {t u:Tv} {x:Str} {st:Stmt} {rest:List Stmt} {sa sb:Sv} {k:Nat} {ps:List Str} {m:Mir}
theorem zIB {ps:List Str} (tb:TB X.K X.mg G.Bi G.B) (ln:∀ ds,m ds≠.no->ds.length=ps.length):∀ σ H Q,tD X G (aV m fs) σ H Q->zHX (spM X.K X.mg ps.length m) [] (XE X G) (tAs X G fs) σ H Q:=fun σ H Q q=>by
 obtain ⟨ρ,Hi,R,ou⟩:=q
 refine zDX R ou fun vs ds Hi1 H1 e1 R1 r1 o1=>?_
 rw [List.append_nil]
 have hm:m ds≠.no:=fun z=>by rw [z] at o1;exact o1
 refine ⟨by rw [r1.length];exact ln ds hm,Hi1,ds,tb.ext R1.ext,R1.s,r1,?_⟩
 cases z:m ds with
 | no=>exact absurd z hm
 | err c=>rw [z] at o1;exact fun C hC Hi2 H2 e2=>⟨c,hC,o1 Hi2 H2 e2⟩
 | ok r=>
  rw [z] at o1
  cases r with
  | v d=>exact fun v Hi2 H2 e2 r2=>o1 Hi2 H2 e2 v r2
  | f ds=>
   intro a Hi2 H2 e2 n
   obtain ⟨n1,n2,xs,n3,n4⟩:=n
   exact o1 _ _ (e2.hold n1 n3 n2) (.ref a) (.lst (SqL.of aP) (n4.mono (bM n2 _)))
theorem aG (W:Good X G k) (c:CanM X.prog X.w X.K X.mg X.base k x ps m) (hg:Gl X x) (ha:PAd X G (e::es) fs)
  (hdb:(x==("__debug__" : Str))=false:=by decide) (he:starEach (e::es) X.env=(false,eval e X.env)::starEach es X.env:=by rfl) (hpl:(backTo pos (starEach es X.env)).any (·.1)=false:=by rfl):
  PEd X G (.Call (.Name x p) (e::es) [] pos) (aV m fs):=by
 obtain ⟨⟨f,fd,F,b,kp,hm⟩,ln⟩:=c
 exact PE.wk (sU F W.room hg hm kp b .nil W.pass ha hdb he hpl) (zIB W.tb ln)
theorem zHJ {ps:List Str} (tb:TB X.K X.mg G.Bi G.B) (ln:∀ ds,m ds≠.no->ds.length=ps.length):∀ σ H Q,tF X G (eQ m fs) σ H Q->zHX (spM X.K X.mg ps.length m) [] (XE X G) (tAs X G fs) σ H Q:=fun σ H Q q=>by
 obtain ⟨ρ,Hi,R,ou⟩:=q
 refine zDX R ou fun vs ds Hi1 H1 e1 R1 r1 o1=>?_
 rw [List.append_nil]
 have hm:m ds≠.no:=fun z=>by rw [z] at o1;exact o1
 refine ⟨by rw [r1.length];exact ln ds hm,Hi1,ds,tb.ext R1.ext,R1.s,r1,?_⟩
 cases z:m ds with
 | no=>exact absurd z hm
 | err c=>rw [z] at o1;exact fun C hC Hi2 H2 e2=>⟨c,hC,o1 Hi2 H2 e2⟩
 | ok r=>
  rw [z] at o1
  cases r with
  | v d=>exact o1.elim
  | f ds=>exact fun a Hi2 H2 e2 n=>o1 Hi2 H2 e2 a ⟨e1.h.none n.1,n.2⟩
theorem cD (W:Good X G k) (c:CanM X.prog X.w X.K X.mg X.base k x ps m) (hg:Gl X x) (ha:PAd X G (e::es) fs)
  (hdb:(x==("__debug__" : Str))=false:=by decide) (he:starEach (e::es) X.env=(false,eval e X.env)::starEach es X.env:=by rfl) (hpl:(backTo pos (starEach es X.env)).any (·.1)=false:=by rfl):
  PEf X G (.Call (.Name x p) (e::es) [] pos) (eQ m fs):=by
 obtain ⟨⟨f,fd,F,b,kp,hm⟩,ln⟩:=c
 exact PE.wk (sU F W.room hg hm kp b .nil W.pass ha hdb he hpl) (zHJ W.tb ln)
theorem gK {d:D} (hg:Gl X x) (h:∃ v u',X.mg x=some u'/\bW v u'/\IsD X.K (fun _=>none) v d) (hdb:(x==("__debug__" : Str))=false:=by decide):PEd X G (.Name x pos) (eC d):=by
 obtain ⟨v,u',hm,r,hd⟩:=h
 exact qX (zCV hg hm r hdb) fun H=>hd.mono fun b o z=>by cases z
end
abbrev BX (P:Program) (w:World) (K:PySem.W.Frag) (mg:Str->Option Value) (base:Heap) (N:List Str) (x:Str) (st:Stmt) (f:Addr) (cdv:Value) (A:Around) (outer:List Env) (s:Shared) (H:Hp) (E:XK):Cx:=
 zAJ (CX1 P w) P w K mg base N x (aD st) f cdv A outer s H E
theorem uL {K:PySem.W.Frag} {mg:Str->Option Value} {Bi H:Hp} {N:List Str} {vs:List V} {ds:List D} (s:Same Bi H) (h:IsDs K Bi vs ds):Rel K mg H Bi Bi H (L2.start N vs) (L3.start N.length ds) where
 len:=by
  unfold L2.start L3.start
  rw [List.length_append,List.length_append,List.length_map,List.length_map,List.length_replicate,List.length_replicate,h.length]
 ext:=Ext.refl s
 slot:=fun i sl e=>by
  unfold L3.start at e
  by_cases hi:i < ds.length
  ·rw [List.getElem?_append_left (by rw [List.length_map];exact hi),List.getElem?_map] at e
   obtain ⟨d,hd⟩:∃ d,ds[i]?=some d:=⟨_,List.getElem?_eq_getElem hi⟩
   rw [hd] at e;cases e
   obtain ⟨v,hv,r⟩:=h.at hd
   refine ⟨v,?_,r⟩
   unfold L2.start
   rw [List.getElem?_append_left (by rw [List.length_map,h.length];exact hi),List.getElem?_map,hv]
   rfl
  ·rw [List.getElem?_append_right (by rw [List.length_map];omega),List.getElem?_replicate] at e
   split at e
   ·cases e;trivial
   ·cases e
 dist:=fun i j a es fs e _ _ _=>by
  exfalso
  unfold L3.start at e
  by_cases hi:i < ds.length
  ·rw [List.getElem?_append_left (by rw [List.length_map];exact hi),List.getElem?_map] at e
   cases z:ds[i]? with
   | none=>rw [z] at e;cases e
   | some d=>rw [z] at e;cases e
  ·rw [List.getElem?_append_right (by rw [List.length_map];omega),List.getElem?_replicate] at e
   split at e<;>cases e
section
variable {P:Program} {w:World} {K:PySem.W.Frag} {mg:Str->Option Value} {base:Heap} {N ps:List Str} {x:Str} {st:Stmt} {f:Addr} {fd:FuncData} {k:Nat} {b:Sv}
theorem zDC {cdv:Value} {A:Around} {outer:List Env} {s:Shared} {H Bi:Hp} {E:XK} (hr:Room k (A.deeper (envOfC x (aD st) s.heap.objs.size f cdv))) (tb:TB K mg Bi H):
  Good (BX P w K mg base N x st f cdv A outer s H E) ⟨H,Bi,fun c H'=>∀ C,mg c=some C->E C none H'⟩ k where
 calm:=rfl
 room:=hr
 pass:=zLn fun c H' q=>by
  obtain ⟨c',h1,h2⟩:=q
  exact h2 c h1
 own:=PassesOwn.leaving
 tb:=tb
theorem zI {cdv:Value} {A:Around} {outer:List Env} {s:Shared} {H Bi:Hp} {E:XK}:
  zAQ (BX P w K mg base N x st f cdv A outer s H E) ⟨H,Bi,fun c H'=>∀ C,mg c=some C->E C none H'⟩:=fun pins σ H1 s1 s' ea cls vs I hx hos hg q=>by
 obtain ⟨c',h1,h2⟩:=q
 exact wT I hx hos hg (h2 cls h1)
theorem zJZ (F:Fn K mg x st ps f fd) (S:FnScope N ps (aD st))
  (h:∀ (cdv:Value) (A:Around) (outer:List Env) (s:Shared) (H:Hp) (E:XK) (G:Gx),Good (BX P w K mg base N x st f cdv A outer s H E) G k->zAQ (BX P w K mg base N x st f cdv A outer s H E) G->cN (BX P w K mg base N x st f cdv A outer s H E) G (cS st) b):
  FnOk P w K mg base (CX1 P w) (k+1) f fd ps (spM K mg ps.length (fn ps.length N.length b)):=by
 obtain ⟨oc,od,kV,doc,pm,an,cdv,ct,osl,rfl,lk,hcd⟩:=F.fn.ex
 refine zJp lk hcd S (fun vs H Q E h=>h.1) fun A outer s H vs Q E hr hsp=>?_
 obtain ⟨hl,Bi,ds,tb,sm,hd,hq⟩:=hsp
 have hg:=zDC (P:=P) (w:=w) (K:=K) (mg:=mg) (base:=base) (N:=N) (outer:=outer) (H:=H) (Bi:=Bi) (E:=E) hr tb
 refine ⟨_,h cdv A outer s H E _ hg zI,L3.start N.length ds,Bi,uL sm hd,?_⟩
 have hlen:ds.length=ps.length:=by rw [<-hd.length];exact hl
 unfold fn at hq
 rw [if_pos hlen] at hq
 cases z:b (L3.start N.length ds) with
 | no=>rw [z] at hq;exact hq
 | err c=>rw [z] at hq;exact fun Hi' H' e C hC=>hq C hC Hi' H' e
 | ok fl=>
  rw [z] at hq
  cases fl with
  | nx ρ'=>exact fun σ' Hi' H' s R=>hq .non Hi' H' R.ext .non
  | brk ρ'=>exact hq.elim
  | ctn ρ'=>exact hq.elim
  | ret r=>
   cases r with
   | v d=>exact hq
   | f es=>exact hq
theorem oJ (F:Fn K mg x st ps f fd) (S:FnScope N ps (aD st))
  (h:∀ (cdv:Value) (A:Around) (outer:List Env) (s:Shared) (H:Hp) (E:XK) (G:Gx),Good (BX P w K mg base N x st f cdv A outer s H E) G k->zAQ (BX P w K mg base N x st f cdv A outer s H E) G->cN (BX P w K mg base N x st f cdv A outer s H E) G (cS st) b):
  CanM P w K mg base (k+1) x ps (fn ps.length N.length b):=by
 refine ⟨⟨f,fd,zJZ F S h,F.bd,F.kp,F.mg⟩,fun ds hm=>?_⟩
 unfold fn at hm
 split at hm
 ·assumption
 ·exact absurd rfl hm
end
end L3
namespace L3
open PySem PySem.Spec PyProof.Rows L2
unseal PEd PEf PTd PWd PAd PSd cN POd PGd eK PId
section
variable {X:Cx} {G:Gx} {a b e:Expr} {es:List Expr} {pos p:Pos} {f g:Ev} {fs gs:Fv} {t u:Tv} {x:Str} {st:Stmt} {rest:List Stmt} {sa sb:Sv} {k:Nat}
def iSq (K:PySem.W.Frag) (tl:TE):TI:=fun σ H R=>tl σ H fun x H1=>∃ a,x=.ref a/\(((∃ xs,SqL K H1 a xs)/\R (Itl K a) H1)∨((∃ xs,SqT K H1 a xs)/\R (Itt K a) H1))
theorem zIo {tg l:Expr} {tl:TE} (hl:PE X l tl):PI X tg l (iSq X.K tl):=by
 intro pins s σ H R I h
 refine thn (hl pins s σ H _ I h) fun v s1 ⟨x,H1,I1,r1,q1⟩=>?_
 obtain ⟨a,e,q1⟩:=q1
 subst e
 cases r1
 rcases q1 with ⟨⟨xs,hq⟩,q⟩ | ⟨⟨xs,hq⟩,q⟩
 ·obtain ⟨its,rv,p,hz⟩:=I1.list hq
  refine wpAny_pyIter_list p.isList ?_
  refine ⟨s1.heap.objs.size,[s1.heap.objs.size],_,_,H1,rfl,I1.kept (t':=s1.toks) fun b o e=>Heap.get?_push_of_some _ e,tW a _,⟨_,Heap.get?_push_size _ rfl,rfl,rfl⟩,fun b hb=>?_,q⟩
  have e:b=s1.heap.objs.size:=by simpa using hb
  subst e
  exact I1.fpOk (Nat.le_refl _) (I1.hok.fresh (Nat.le_refl _))
 ·obtain ⟨its,rv,p,hz⟩:=I1.tuple hq
  refine wpAny_pyIter_tuple (show s1.heap.IsTuple a its.toArray from p) ?_
  refine ⟨s1.heap.objs.size,[s1.heap.objs.size],_,_,H1,rfl,I1.kept (t':=s1.toks) fun b o e=>Heap.get?_push_of_some _ e,zAO a _,⟨_,Heap.get?_push_size _ rfl,rfl,rfl⟩,fun b hb=>?_,q⟩
  have e:b=s1.heap.objs.size:=by simpa using hb
  subst e
  exact I1.fpOk (Nat.le_refl _) (I1.hok.fresh (Nat.le_refl _))
theorem vL {K:PySem.W.Frag} {Hi:Hp} {a:Addr} {xs:List V} {ds:List D} (h1:SqL K Hi a xs) (h2:IsDs K Hi xs ds):oG K Hi (Itl K a) ds:=fun Hi1 H1 s1 s2 i=>by
 have h3:=bS (s1.trans s2) h1
 refine ⟨fun hl=>⟨xs,h3,by rw [h2.length];exact hl⟩,fun d hd=>?_⟩
 obtain ⟨v,hv,r⟩:=h2.at hd
 refine ⟨⟨xs,v,h3,hv⟩,fun x H2 y=>?_⟩
 obtain ⟨e,y⟩:=y
 subst e
 have:=y xs h3
 rw [hv] at this
 cases this
 exact ⟨Hi1,Ext.refl s2,r.mono s1⟩
theorem lU {tg:Expr} (h:PEd X G e f):PId X G tg e (wR f):=PI.wk (zIo h) fun σ H Q q=>by
 obtain ⟨ρ,Hi,R,ou⟩:=q
 refine xI R ou fun v d Hi1 H1 e1 R1 r1 o1=>?_
 cases d with
 | lst ds=>
  obtain ⟨a,xs,rfl,h1,h2⟩:=r1.lstI
  exact ⟨a,rfl,.inl ⟨⟨xs,bS R1.s h1⟩,o1.here R1.s _ (vL h1 h2)⟩⟩
 | tup ds=>
  obtain ⟨a,xs,rfl,h1,h2⟩:=r1.tupI
  exact ⟨a,rfl,.inr ⟨⟨xs,bN R1.s h1⟩,o1.here R1.s _ (zDw h1 h2)⟩⟩
 | _=>exact o1.elim
theorem bO {i:Nat}:∀ d ρ c,gName i d ρ≠.err c:=fun d ρ c z=>by cases z
theorem xL:∀ d ρ c,zBK d ρ≠.err c:=fun d ρ c z=>by cases d<;>cases z
theorem iA {g:Gv} {r:List D->Rho->Res Rho} (h1:∀ d ρ c,g d ρ≠.err c) (h2:∀ d ρ c,r d ρ≠.err c):∀ d ρ c,iZ g r d ρ≠.err c:=fun d ρ c z=>by
 cases d with
 | nil=>cases z
 | cons d ds=>
  have z':(g d ρ).bind (fun ρ'=>r ds ρ')=.err c:=z
  cases q:g d ρ with
  | no=>rw [q] at z';cases z'
  | err c'=>exact h1 _ _ _ q
  | ok ρ'=>rw [q] at z';exact h2 _ _ _ z'
theorem wW {r:List D->Rho->Res Rho} (h:∀ d ρ c,r d ρ≠.err c):∀ d ρ c,zBE r d ρ≠.err c:=fun d ρ c z=>by
 cases d<;>first | cases z | exact h _ _ _ z
theorem zDb:∀ (ds:List D) (ρ ρ':Rho),zBK ds ρ=.ok ρ'->ds.length=0:=fun ds ρ ρ' z=>by
 cases ds with
 | nil=>rfl
 | cons d ds=>cases z
theorem jW {g:Gv} {r:List D->Rho->Res Rho} {n:Nat} (h:∀ (ds:List D) (ρ ρ':Rho),r ds ρ=.ok ρ'->ds.length=n):∀ (ds:List D) (ρ ρ':Rho),iZ g r ds ρ=.ok ρ'->ds.length=n+1:=fun ds ρ ρ' z=>by
 cases ds with
 | nil=>cases z
 | cons d ds=>
  have z':(g d ρ).bind (fun ρ'=>r ds ρ')=.ok ρ':=z
  cases q:g d ρ with
  | no=>rw [q] at z';cases z'
  | err c'=>rw [q] at z';cases z'
  | ok ρ1=>rw [q] at z';rw [List.length_cons,h ds ρ1 ρ' z']
theorem zGQ:∀ a b d,zAr a b=.ok d->∃ i j,a=.int i/\b=.int j/\d=.int (i - j):=fun a b d z=>by
 unfold zAr at z;split at z
 ·cases z;exact ⟨_,_,rfl,rfl,rfl⟩
 ·cases z
theorem zEz:∀ a b c,zAr a b≠.err c:=fun a b c z=>by unfold zAr at z;split at z<;>cases z
end
end L3
namespace L3
open PySem PySem.Spec PyProof.Rows L2
unseal PEd PEf PTd PWd PAd PSd cN POd PGd eK PId
theorem uF {K:PySem.W.Frag} {H:Hp}:∀ ns:List Int,IsDs K H (ns.map V.int) (ns.map D.int)
 | []=>.nil
 | n::ns=>.cons (.int n) (uF ns)
end L3
namespace L3
open PySem PySem.Spec PyProof.Rows L2
unseal PEd PEf PTd PWd PAd PSd cN POd PGd eK PId
section
variable {X:Cx} {G:Gx} {e:Expr} {es:List Expr} {pos np cpos:Pos} {fs:Fv} {k:Nat} {c:Str}
theorem iB (W:Good X G k) (WR:zAQ X G) (hR:∃ C,Err X.K X.mg c C) (hg:Gl X c) (ha:PAd X G (e::es) fs)
  (he:starEach (e::es) X.env=(false,eval e X.env)::starEach es X.env:=by rfl) (hplain:(backTo cpos (starEach es X.env)).any (·.1)=false:=by rfl) (hd:(c==("__debug__" : Str))=false:=by decide):
  PSd X G (.Raise (some (.Call (.Name c np) (e::es) [] cpos)) none pos) (iY c fs):=by
 intro pins s σ H E I q
 obtain ⟨ρ,Hi,R,h⟩:=q
 obtain ⟨C,Er⟩:=hR
 obtain ⟨bmB,newId,B,initId,O,FB⟩:=Er.own X.base I.mod.kin
 obtain ⟨tl,N,nm,q,bs,hdct,sn,sub,ab,col,dd,k0,k1,k2,k3,k5,mN,hC,hN,hni,T⟩:=O.obj
 have hA:=ha cpos pins s σ H (fun vs H1=>vs.length<=sizeLine/\XE X G (.ref C) none H1) I ⟨ρ,Hi,R,gQ R h fun ds Hi' H' _ e1 h' vs r=>by
  have h':Fin X G Hi' E (if ds.length<=16777216 then (.err c:Res Fl) else .no):=h'
  by_cases hz:ds.length<=16777216
  ·rw [if_pos hz] at h'
   exact ⟨by rw [r.length];exact hz,c,O.bound,h' Hi' H' (R.ext.trans e1)⟩
  ·rw [if_neg hz] at h';exact h'.elim⟩
 refine wpAny_Raise_call_subT (C:=C) (nm:=nm) (q:=q) (N:=N) (bs:=bs) (bm:=tl) (hdct:=hdct) (sn:=sn) (sub:=sub) (ab:=ab) (col:=col) (dd:=dd) (k0:=k0) (k1:=k1) (k2:=k2) (k3:=k3) (k5:=k5)
  FB (mN:=mN) (T.hasType FB.hasBase) (I.ok.hd W.calm) (by rw [he];show (false || (backTo cpos (starEach es X.env)).any (·.1))=false;rw [hplain];rfl) hni (yL I hg O.bound ⟨rfl,?_⟩ hd)
 rw [he] at hA ⊢
 refine Calls.evalArgs_plain (wpAny_mono hA (fun us s₂ h₂=>?_) fun _ _ y=>y)
 obtain ⟨vs,H2,I2,rv,hz,hx⟩:=h₂
 exact ⟨rfl,by show us.length<=sizeLine;rw [<-rv.length];exact hz,I2.bk _ _ hC,hN.keeps I2.bk,T.keeps I2.bk,fun h' ea hm=>WR pins σ H2 s₂ { s₂ with heap:=h' } ea (.ref C) us I2 hm rfl I2.bare hx⟩
end
end L3
namespace L3
open PySem PySem.Spec PyProof.Rows L2 PySem.W Builtin Builtin.ObjectAttr Builtin.Getset_descriptor
unseal PEd PEf PTd PWd PAd PSd cN POd PGd eK PId
section
variable {prog:Program} {w:World} {A:Around} {E:Value->Shared->Prop} {s:Shared} {K:Frag} {x D:Addr} {ox:Obj}
end
end L3
namespace L3
open PySem PySem.Spec PyProof.Rows L2 PySem.W
unseal PEd PEf PTd PWd PAd PSd cN POd PGd eK PId
section
variable {prog:Program} {w:World} {A:Around} {E:Value->Shared->Prop} {s:Shared} {K:Frag} {x C CE:Addr} {ox:Obj}
end
end L3
namespace L3
open PySem PySem.Spec PyProof.Rows L2 PySem.W
unseal PEd PEf PTd PWd PAd PSd cN POd PGd eK PId
section
variable {X:Cx} {pins:List (Addr×Obj)} {σ:St} {H H':Hp} {s s':Shared} {ea:Addr} {cls:Value}
theorem _root_.L2.Inv.track (I:Inv X pins σ H s) {a:Addr} {o:HO} (hn:H a=none) (h0:X.s₀.heap.get? a=none) (hl:a≠X.env.locals) (hc:∀ x c,X.env.cells.lookup x=some c->c≠a) (hp:∀ p∈X.pn++pins,p.1≠a)
  (ho:iS X.prog X.w (upd H a o) s.heap a o):Inv X pins σ (upd H a o) s where
 ok:=I.ok
 os:=I.os
 bare:=I.bare
 base:=⟨I.base.keep,I.base.slot,fun b ob e n hx=>by
   have:b≠a:=fun z=>by rw [z,h0] at e;cases e
   rw [aO this];exact I.base.free b ob e n hx,I.base.there,fun b xs e=>by
   have z:=I.base.tups b xs e
   rw [aO (aS z hn)];exact z,fun b ob u e=>by
   have z:=I.base.frzs b ob u e
   rw [aO (aS z hn)];exact z,fun b ps e=>by
   obtain ⟨m,z⟩:=I.base.tbls b ps e
   exact ⟨m,by rw [aO (aS z hn)];exact z⟩⟩
 loc:=I.loc
 cell:=I.cell
 free:=by rw [aO (Ne.symm hl)];exact I.free
 freeC:=fun x c e=>by rw [aO (hc x c e)];exact I.freeC x c e
 pin:=fun p hp'=>by
  obtain ⟨e1,e2,e3,e4,e5⟩:=I.pin p hp'
  exact ⟨e1,by rw [aO (hp p hp')];exact e2,e3,e4,e5⟩
 hok:=fun b u e=>by
  by_cases hb:b=a
  ·subst hb;rw [aP] at e;cases e;exact ho
  ·rw [aO hb] at e
   exact (I.hok b u e).stay (fun c v _ q=>q) (fun c q=>by rw [aO (aS q hn)];exact q) fun c xs q=>by rw [aO (aS q hn)];exact q
 len:=I.len
end
end L3
namespace L3
open PySem PySem.Spec PyProof.Rows L2 PySem.W
unseal PEd PEf PTd PWd PAd PSd cN POd PGd eK PId
section
variable {X:Cx} {G:Gx} {a e:Expr} {es:List Expr} {pos p:Pos} {fs:Fv} {t:Tv} {x:Str} {k:Nat} {ps:List Str} {m:Mir} {st:Stmt} {sts:List Stmt} {sa sb:Sv}
def zLO (X:Cx) (pins:List (Addr×Obj)) (σ:St) (Hi H:Hp) (c:Str) (ev:Value) (s':Shared):Prop:=
 ∃ (s1:Shared) (H1:Hp) (ea:Addr) (cls:Value) (Hi' H':Hp),ev=.ref ea/\Inv X pins σ H1 s1/\X.mg c=some cls/\Fly X.prog X.w X.stack H1 H' s1 ea cls s'/\Ext Hi H Hi' H'/\Keep H H1
def zLZ (X:Cx) (G:Gx) (Hi:Hp) (E:Ends) (r:Res Fl):Prop:=match r with
 | .err _=>True
 | r=>Fin X G Hi E r
@[irreducible] def PSx (X:Cx) (G:Gx) (st:Stmt) (f:Sv):Prop:=∀ (pins:List (Addr×Obj)) (s:Shared) (σ:St) (H:Hp) (E:Ends) (ρ:Rho) (Hi:Hp) (Et:Value->Shared->Prop),
 Inv X pins σ H s->iK X G Hi H σ ρ->f ρ≠.no->zLZ X G Hi E (f ρ)->(∀ c ev s',f ρ=.err c->zLO X pins σ Hi H c ev s'->Et ev s')->wpAny (model X.prog X.w) X.A (exec st X.env) (SP X pins E) Et s
unseal PSx
@[irreducible] def iE (X:Cx) (G:Gx) (sts:List Stmt) (f:Sv):Prop:=∀ (pins:List (Addr×Obj)) (s:Shared) (σ:St) (H:Hp) (E:Ends) (ρ:Rho) (Hi:Hp) (Et:Value->Shared->Prop),
 Inv X pins σ H s->iK X G Hi H σ ρ->f ρ≠.no->zLZ X G Hi E (f ρ)->(∀ c ev s',f ρ=.err c->zLO X pins σ Hi H c ev s'->Et ev s')->wpAny (model X.prog X.w) X.A (execs sts X.env) (SP X pins E) Et s
unseal iE
end
end L3
namespace L3
open PySem PySem.Spec PyProof.Rows L2 PySem.W
unseal PEd PEf PTd PWd PAd PSd cN POd PGd eK PId PSx iE
section
variable {X:Cx} {G:Gx} {k:Nat} {fb fh:Sv} {body suite:List Stmt} {b₀:Stmt} {ce n:Str} {np hpos pos:Pos} {i:Nat} {tb:List Str}
end
end L3
namespace L3
open PySem PySem.Spec PyProof.Rows L2 PySem.W
unseal PEd PEf PTd PWd PAd PSd cN POd PGd eK PId PSx iE
section
variable {X:Cx} {G:Gx} {a:Expr} {p q pos:Pos} {i:Nat} {anc:List (Str×List Str)} {xs:List Str} {x:Str}
end
end L3
namespace L3
open PySem PySem.Spec PyProof.Rows L2 PySem.W
unseal PEd PEf PTd PWd PAd PSd cN POd PGd eK PId PSx iE
section
variable {K:Frag} {h:Heap} {mg:Str->Option Value} {x c ce:Str} {C CE:Addr}
theorem rF {newId:String} {bmB:List Value} {B initId:String} (X:K.In h) (G:h.Ns mainGlobals mg) (e:nsIn K mainGlobals x=some (some (.ref C))) (q:excIn K C bmB newId=true) (F:ExcBaseFacts B newId initId bmB):∃ C,Err K mg x C:=by
 refine ⟨C,⟨fun h' X'=>⟨bmB,newId,B,initId,⟨mg_of X G e,?_⟩,F⟩⟩⟩
 unfold excIn at q
 split at q
 ·rename_i dd cd sl ho
  split at q
  ·rename_i C' bm k0 k1 k2 k3 n k5 hm hs
   simp only [Bool.and_eq_true,beq_iff_eq,Bool.not_eq_true'] at q
   obtain ⟨⟨⟨⟨⟨rfl,rfl⟩,hdel⟩,ht⟩,hok⟩,hni⟩:=q
   obtain ⟨nm,bs,mro,ns,qn,hd,sn,sub,ab,col,del⟩:=cd
   dsimp only at hm hdel hok hni
   subst hm hdel
   have hsl:sl=#[k0,k1,k2,k3,some (.builtin n),k5]:=by
    obtain ⟨l⟩:=sl
    simp only at hs
    rw [hs]
   subst hsl
   exact ⟨bm,ns,nm,qn,bs,hd,sn,sub,ab,col,dd,k0,k1,k2,k3,k5,_,X' _ _ ho,.of_isNs (isNs_of_in X' hok),nsMap_none_of_in X' hok hni,tail_of_in X' ht⟩
  ·cases q
 ·cases q
end
end L3
namespace L3
open PySem PySem.Spec PyProof.Rows L2
unseal PEd PEf PTd PWd PAd PSd cN POd PGd eK PId PSx iE
def yY (env:Env):List (Str×NameKind)->List (Str×Addr)->List (Str×Addr)
 | [],cs=>cs
 | (n,k)::r,cs=>yY env r (if k==.free then (n,(env.cells.lookup n).getD 0)::cs else cs)
theorem zGa {env:Env}:∀ (l:List (Str×NameKind)) (cs:List (Str×Addr)),(∀ p∈l,p.2=.free->∃ c,env.cells.lookup p.1=some c)->
  (forIn l cs (fun p (r:List (Str×Addr))=>if (p.2==NameKind.free)=true then (do let a <-cellOf env p.1;pure (ForInStep.yield ((p.1,a)::r))) else pure (ForInStep.yield r)):Sem (List (Str×Addr)))=pure (yY env l cs)
 | [],cs,_=>by simp [yY]
 | (n,k)::r,cs,h=>by
  rw [List.forIn_cons,yY]
  have ih:=fun cs=>zGa r cs fun p hp=>h p (List.mem_cons_of_mem _ hp)
  by_cases e:(k==NameKind.free)=true
  ·obtain ⟨c,hc⟩:=h (n,k) List.mem_cons_self (beq_iff_eq.mp e)
   simp only [e,if_true,cellOf,hc,pure_bind,Option.getD_some]
   exact ih _
  ·simp only [e,Bool.false_eq_true,if_false,pure_bind]
   exact ih _
theorem zFN {env:Env} {scope:Scope} (h:∀ p∈scope.names,p.2=.free->∃ c,env.cells.lookup p.1=some c):closureFor scope env=pure (yY env scope.names []):=by
 have:=zGa scope.names [] h
 unfold closureFor
 rw [<-this]
 simp
theorem pB {env:Env}:∀ (l:List (Str×NameKind)) (cs:List (Str×Addr)),(∀ p∈l,p.2=.free->∃ c,env.cells.lookup p.1=some c)->(∀ y c,cs.lookup y=some c->env.cells.lookup y=some c)->
  ∀ y c,(yY env l cs).lookup y=some c->env.cells.lookup y=some c
 | [],cs,_,h,y,c,e=>h y c e
 | (n,k)::r,cs,hl,h,y,c,e=>by
  rw [yY] at e
  refine pB r _ (fun p hp=>hl p (List.mem_cons_of_mem _ hp)) (fun y c e=>?_) y c e
  by_cases z:(k==NameKind.free)=true
  ·obtain ⟨c',hc⟩:=hl (n,k) List.mem_cons_self (beq_iff_eq.mp z)
   simp only [z,if_true,List.lookup_cons,hc,Option.getD_some] at e
   cases w:y==n with
   | true=>rw [w] at e;cases e;rw [beq_iff_eq.mp w];exact hc
   | false=>rw [w] at e;exact h y c e
  ·simp only [z,Bool.false_eq_true,if_false] at e
   exact h y c e
theorem zAn {env:Env}:∀ (l:List (Str×NameKind)) (cs:List (Str×Addr)) (y:Str),(∃ c,cs.lookup y=some c)->∃ c,(yY env l cs).lookup y=some c
 | [],cs,y,h=>h
 | (n,k)::r,cs,y,⟨c,h⟩=>by
  rw [yY]
  refine zAn r _ y ?_
  split
  ·rw [List.lookup_cons]
   cases y==n with
   | true=>exact ⟨_,rfl⟩
   | false=>exact ⟨c,h⟩
  ·exact ⟨c,h⟩
theorem oZ {env:Env}:∀ (l:List (Str×NameKind)) (cs:List (Str×Addr)) (y:Str),(y,NameKind.free)∈l->∃ c,(yY env l cs).lookup y=some c
 | (n,k)::r,cs,y,h=>by
  rw [yY]
  rcases List.mem_cons.mp h with e | h
  ·cases e
   refine zAn r _ _ ⟨(env.cells.lookup n).getD 0,?_⟩
   simp only [beq_self_eq_true,if_true,List.lookup_cons]
  ·exact oZ r _ y h
theorem bA {α:Type}:∀ {l:List (Str×α)} {y:Str} {k:α},l.lookup y=some k->(y,k)∈l
 | (n,k')::r,y,k,h=>by
  rw [List.lookup_cons] at h
  cases z:y==n with
  | true=>rw [z] at h;cases h;rw [beq_iff_eq.mp z];exact List.mem_cons_self
  | false=>rw [z] at h;exact List.mem_cons_of_mem _ (bA h)
theorem bK {env:Env}:∀ {l:List (Str×NameKind)} {y:Str} {k:NameKind},
  (l.map fun (n,k)=>if (k==NameKind.free && env.scope.kind==.function && env.kindOf n==some .cell) then (n,NameKind.cell) else (n,k)).lookup y=some k->
  l.lookup y=some k∨(k=.cell/\l.lookup y=some .free)
 | (n,k')::r,y,k,h=>by
  rw [List.map_cons] at h
  rw [List.lookup_cons]
  by_cases c:(k'==NameKind.free && env.scope.kind==.function && env.kindOf n==some .cell)=true
  ·simp only [c,if_true,List.lookup_cons] at h
   cases z:y==n with
   | true=>
    rw [z] at h
    cases h
    refine .inr ⟨rfl,?_⟩
    simp only [Bool.and_eq_true] at c
    rw [beq_iff_eq.mp c.1.1]
   | false=>rw [z] at h;exact bK h
  ·simp only [c,Bool.false_eq_true,if_false,List.lookup_cons] at h
   cases z:y==n with
   | true=>rw [z] at h;exact .inl h
   | false=>rw [z] at h;exact bK h
def msk (x y:Str):Str:=if y=x then ("" : Str) else y
structure BlkOk (X:Cx) (x:Str) (scope:Scope):Prop where
 kind:scope.kind=.function
 cell:∀ y∈scope.names,y.2≠.cell
 loc:scope.names.lookup x=some .local
 names:∀ y∈scope.names,y.2=.local->scope.names.lookup y.1=some .local
 fre:∀ p∈scope.names,p.2=.free->X.env.kindOf p.1=some .cell∨X.env.kindOf p.1=some .free
 oth:∀ y∈X.N,y≠x->scope.names.lookup y≠some .local
 emp:scope.names.lookup ("" : Str)=none
def cxC (X:Cx) (x:Str) (scope:Scope) (C:Addr) (s₂:Shared) (H₂:Hp) (fp:List Addr):Cx:=
  { prog:=X.prog,w:=X.w,K:=X.K,mg:=X.mg,base:=X.base,A:=X.A,N:=X.N.map (msk x)++[x],s₀:=s₂,H₀:=H₂,env:=compEnvC scope (yY X.env scope.names []) C X.env,outer:=X.stack,stack:=X.stack,
    ex:=fp,fn:=fun _=>false,calm:=X.calm,pn:=X.pn,xe:=fun _ _=>False }
section
variable {X:Cx} {pins:List (Addr×Obj)} {σ:St} {H:Hp} {s₂:Shared} {x:Str} {scope:Scope} {fp:List Addr} {D C:Addr} {h₁:Heap}
theorem BlkOk.cl (B:BlkOk X x scope) (I:Inv X pins σ H s₂):∀ p∈scope.names,p.2=.free->∃ c,X.env.cells.lookup p.1=some c:=fun p hp e=>I.ok.has p.1 (B.fre p hp e)
theorem zLb (I:Inv X pins σ H s₂) (B:BlkOk X x scope) (hfp:∀ b∈fp,nM X pins H b) (hfl:∀ b∈fp,b < s₂.heap.objs.size) (hD:s₂.heap.objs.size<=D) (hC:s₂.heap.objs.size<=C) (hDC:D≠C)
  (old:∀ b o,s₂.heap.get? b=some o->h₁.get? b=some o) {n:Nat} (hacc:h₁.get? D=some { cls:=.type "list", data:=.seq ([]:List Value).toArray n }) {m:Str->Option Value} (hns:h₁.Ns C m) (t:Nat):
  Inv (cxC X x scope C s₂ H fp) pins (σ++[none]) (upd H D (.lst [])) { s₂ with heap:=h₁,toks:=t }:=by
 have sub:=pB scope.names [] (B.cl I) (fun y c e=>nomatch e)
 have old_lt:∀ {b:Addr} {o:Obj},s₂.heap.get? b=some o->b≠D/\b≠C:=fun e=>⟨Nat.ne_of_lt (Nat.lt_of_lt_of_le (Heap.lt_size e) hD),Nat.ne_of_lt (Nat.lt_of_lt_of_le (Heap.lt_size e) hC)⟩
 have free:∀ {b:Addr},b≠D->H b=none->upd H D (.lst []) b=none:=fun n e=>by rw [aO n];exact e
 refine ⟨⟨I.ok.mod,B.kind,I.ok.glob,I.ok.blt,hC,fun y z c e1 e2=>I.ok.inj y z c (sub y c e1) (sub z c e2),fun y hy=>?_,fun y c e=>(nomatch e),I.ok.hd,I.ok.frames,.inl rfl,fun b hb=>⟨Nat.ne_of_lt (Nat.lt_of_lt_of_le (hfl b hb) hC),fun y c e=>(hfp b hb).2.2.2.2.1 y c (sub y c e)⟩,
  I.bs,Nat.le_trans I.ok.bsz I.sz,fun b o e hb=>?_,fun b hb z=>?_,I.stack,I.stkFree⟩,rfl,I.bare,Un.laid old hD (I.hok.fresh hD),⟨m,hns,fun i y v e1 e2 e3=>?_⟩,fun y c e=>?_,free (Ne.symm hDC) (I.hok.fresh hC),fun y c e=>?_,fun p hp=>?_,I.hok.laid old hD ⟨Nat.zero_le _,[],n,.nil,hacc⟩,?_⟩
 ·have:∃ k,(k=NameKind.cell∨k=NameKind.free)/\((relabel scope X.env).names).lookup y=some k:=hy.elim (fun h=>⟨_,.inl rfl,h⟩) fun h=>⟨_,.inr rfl,h⟩
  obtain ⟨k,hk,e⟩:=this
  have e':(y,NameKind.free)∈scope.names:=by
   rcases bK e with z | ⟨_,z⟩
   ·rcases hk with rfl | rfl
    ·exact absurd rfl (B.cell _ (bA z))
    ·exact bA z
   ·exact bA z
  exact oZ scope.names [] y e'
 ·rcases (hfp b hb).2.2.2.1 with z | z
  ·exact I.ok.noex b o e z
  ·exact absurd (Nat.lt_of_lt_of_le (Heap.lt_size e) (Nat.le_trans I.ok.bsz z)) (Nat.lt_irrefl _)
 ·rcases List.mem_cons.mp (I.stkSub b z) with w | w
  ·exact (hfp b hb).2.1 w
  ·exact (hfp b hb).2.2.1 w
 ·
  have hi:i < σ.length:=by
   by_cases hi:i < σ.length
   ·exact hi
   ·exfalso
    rw [List.getElem?_append_right (by omega)] at e2
    cases q:i - σ.length with
    | zero=>rw [q] at e2;cases e2
    | succ j=>rw [q] at e2;cases e2
  rw [List.getElem?_append_left hi] at e2
  have e1':(X.N.map (msk x)++[x])[i]?=some y:=e1
  rw [List.getElem?_append_left (by rw [List.length_map,<-I.len];exact hi),List.getElem?_map] at e1'
  cases q:X.N[i]? with
  | none=>rw [q] at e1';cases e1'
  | some z=>
   rw [q] at e1'
   have e1'':msk x z=y:=Option.some.inj e1'
   have hz:z∈X.N:=List.mem_of_getElem? q
   have vis:∃ k,((relabel scope X.env).names).lookup y=some k:=e3.elim (fun h=>⟨_,h⟩) fun h=>h.elim (fun h=>⟨_,h⟩) fun h=>⟨_,h⟩
   have hzx:z≠x:=fun w=>by
    obtain ⟨k,hk⟩:=vis
    have:y=("" : Str):=by rw [<-e1'',w];exact if_pos rfl
    rw [this] at hk
    rcases bK hk with h | ⟨_,h⟩<;>(rw [B.emp] at h;cases h)
   have hy:z=y:=by rw [<-e1''];exact (if_neg hzx).symm
   subst hy
   have fr:(z,NameKind.free)∈scope.names:=by
    rcases e3 with h | h | h
    ·rcases bK h with h | ⟨h,_⟩
     ·exact absurd h (B.oth z hz hzx)
     ·cases h
    ·rcases bK h with h | ⟨_,h⟩
     ·exact absurd rfl (B.cell _ (bA h))
     ·exact bA h
    ·rcases bK h with h | ⟨h,_⟩
     ·exact bA h
     ·cases h
   have kd:=B.fre _ fr rfl
   obtain ⟨m0,hn0,hl⟩:=I.loc
   obtain ⟨u,ru,lk⟩:=hl i z v q e2 (kd.elim (fun h=>.inr (.inl h)) fun h=>.inr (.inr h))
   refine ⟨u,ru,.inr ⟨?_,?_⟩⟩
   ·rcases e3 with h | h | h
    ·rcases bK h with h | ⟨h,_⟩
     ·exact absurd h (B.oth z hz hzx)
     ·cases h
    ·exact .inl h
    ·exact .inr h
   ·rcases lk with ⟨k1,_⟩ | ⟨_,c,hc,hcell⟩
    ·rcases kd with kd | kd<;>(rw [kd] at k1;cases k1)
    ·obtain ⟨c',hc'⟩:=oZ (env:=X.env) scope.names [] z fr
     have:=sub z c' hc'
     rw [hc] at this
     cases this
     obtain ⟨o,ho,hd⟩:=hcell
     exact ⟨c,hc',o,old _ _ ho,hd⟩
 ·obtain ⟨v,o,ho,hd⟩:=I.cell y c (sub y c e)
  exact ⟨v,o,old _ _ ho,hd⟩
 ·obtain ⟨v,o,ho,hd⟩:=I.cell y c (sub y c e)
  exact free (old_lt ho).1 (I.freeC y c (sub y c e))
 ·obtain ⟨e,n,ne,nf,d⟩:=I.pin p hp
  refine ⟨old _ _ e,free (old_lt e).1 n,(old_lt e).2,fun z=>?_,d⟩
  rcases List.mem_cons.mp (I.stkSub _ z) with w | w
  ·exact ne w
  ·exact nf w
 ·show (σ++[none]).length=(X.N.map (msk x)++[x]).length
  rw [List.length_append,List.length_append,List.length_map,I.len];rfl
end
end L3
namespace L3
open PySem PySem.Spec PyProof.Rows L2
unseal PEd PEf PTd PWd PAd PSd cN POd PGd eK PId PSx iE
section
variable {K:PySem.W.Frag} {mg:Str->Option Value} {B Bi Hi H Hi' H':Hp} {σ:St} {ρ:Rho}
theorem Rel.snoc {v:V} {d:D} (R:Rel K mg B Bi Hi H σ ρ) (h:IsD K Hi v d):Rel K mg B Bi Hi H (σ++[some v]) (ρ++[.val d]) where
 len:=by rw [List.length_append,List.length_append,R.len];rfl
 ext:=R.ext
 slot:=fun j s q=>by
  by_cases hl:j < ρ.length
  ·rw [List.getElem?_append_left hl] at q
   rw [List.getElem?_append_left (by rw [R.len];exact hl)]
   exact R.slot j s q
  ·rw [List.getElem?_append_right (by omega)] at q
   rw [List.getElem?_append_right (by rw [R.len];omega),R.len]
   cases z:j - ρ.length with
   | zero=>rw [z] at q;cases q;exact ⟨v,rfl,h⟩
   | succ n=>rw [z] at q;cases q
 dist:=fun j k a ds es q1 q2 q3 q4=>by
  have own:∀ {j:Nat} {ds:List D},(ρ++[Sl.val d])[j]?=some (.own ds)->j < ρ.length:=fun {j ds} q=>by
   by_cases hl:j < ρ.length
   ·exact hl
   ·rw [List.getElem?_append_right (by omega)] at q
    cases z:j - ρ.length with
    | zero=>rw [z] at q;cases q
    | succ n=>rw [z] at q;cases q
  have h1:=own q1
  have h2:=own q2
  rw [List.getElem?_append_left h1] at q1
  rw [List.getElem?_append_left h2] at q2
  rw [List.getElem?_append_left (by rw [R.len];exact h1)] at q3
  rw [List.getElem?_append_left (by rw [R.len];exact h2)] at q4
  exact R.dist j k a ds es q1 q2 q3 q4
theorem Ext.rewrite {a:Addr} {o:HO} (e:Ext Hi H Hi' H') (hn:H a=none) (hi:Hi' a=none) (hl:∃ xs,H' a=some (.lst xs)):Ext Hi H Hi' (upd H' a o) where
 i:=e.i
 h:=⟨fun b u z=>by rw [aO (aS z hn)];exact e.h.k _ _ z,fun P z=>by
  obtain ⟨xs,hl⟩:=hl
  exact (e.h.t P z).put (fun ps y=>by rw [hl] at y;cases y) (fun ob u y=>by rw [hl] at y;cases y)⟩
 s:=fun b u z=>by rw [aO (aS z hi)];exact e.s _ _ z
 n:=e.n
theorem IsDs.snoc {v:V} {d:D} (h:IsD K H v d):∀ {vs:List V} {ds:List D},IsDs K H vs ds->IsDs K H (vs++[v]) (ds++[d])
 | _,_,.nil=>.cons h .nil
 | _,_,.cons r t=>.cons r (IsDs.snoc h t)
end
theorem tO {α:Type} {r:Res α} {a:α} (h:noErr r=.ok a):r=.ok a:=by
 cases r with
 | ok b=>exact h
 | err c=>cases h
 | no=>cases h
theorem zBa {t:Tv} {f:Ev} {ρ:Rho} {d:D} {ds es:List D} (h:dN t f ρ (d::ds)=.ok es):
  (t (ρ++[.val d])=.ok false/\dN t f ρ ds=.ok es)∨(t (ρ++[.val d])=.ok true/\∃ e es',f (ρ++[.val d])=.ok e/\dN t f ρ ds=.ok es'/\es=e::es'):=by
 rw [dN] at h
 cases ht:noErr (t (ρ++[.val d])) with
 | no=>rw [ht] at h;cases h
 | err c=>rw [ht] at h;cases h
 | ok c=>
  rw [ht] at h
  have ht':=tO ht
  cases c with
  | false=>exact .inl ⟨ht',h⟩
  | true=>
   refine .inr ⟨ht',?_⟩
   have h':((noErr (f (ρ++[.val d]))).bind fun e=>(dN t f ρ ds).bind fun es=>.ok (e::es))=.ok es:=h
   cases hf:noErr (f (ρ++[.val d])) with
   | no=>rw [hf] at h';cases h'
   | err c=>rw [hf] at h';cases h'
   | ok e=>
    rw [hf] at h'
    have h'':((dN t f ρ ds).bind fun es=>.ok (e::es))=.ok es:=h'
    cases hr:dN t f ρ ds with
    | no=>rw [hr] at h'';cases h''
    | err c=>rw [hr] at h'';cases h''
    | ok es'=>
     rw [hr] at h''
     cases h''
     exact ⟨e,es',tO hf,rfl,rfl⟩
theorem tR {t:Tv} {f:Ev} {ρ:Rho} {c:Str}:∀ {ds:List D},dN t f ρ ds≠.err c
 | []=>fun h=>by cases h
 | d::ds=>fun h=>by
  rw [dN] at h
  cases ht:noErr (t (ρ++[.val d])) with
  | no=>rw [ht] at h;cases h
  | err c=>cases q:t (ρ++[.val d])<;>(rw [q] at ht;cases ht)
  | ok b=>
   rw [ht] at h
   cases b with
   | false=>exact tR h
   | true=>
    have h':((noErr (f (ρ++[.val d]))).bind fun e=>(dN t f ρ ds).bind fun es=>.ok (e::es))=.err c:=h
    cases hf:noErr (f (ρ++[.val d])) with
    | no=>rw [hf] at h';cases h'
    | err c=>cases q:f (ρ++[.val d])<;>(rw [q] at hf;cases hf)
    | ok e=>
     rw [hf] at h'
     cases hr:dN t f ρ ds with
     | no=>simp only [Res.bind,hr] at h';cases h'
     | err c'=>exact tR hr
     | ok es=>simp only [Res.bind,hr] at h';cases h'
@[irreducible] def PTs (X:Cx) (G:Gx) (ifs:List Expr) (t:Tv):Prop:=
 ∀ (pins:List (Addr×Obj)) (s:Shared) (σ:St) (H:Hp) (Q:Bool->Hp->Prop),Inv X pins σ H s->tTb X G t σ H Q->
  wpAny (model X.prog X.w) X.A (forIn ifs true fun c r=>if r=true then do let ok <-isTrue c X.env (eval c X.env);pure (ForInStep.yield ok) else pure (ForInStep.yield r)) (TP X pins σ Q) X.xe s
unseal PTs
theorem pE {X:Cx} {G:Gx}:PTs X G [] jN:=fun pins s σ H Q I ⟨ρ,Hi,R,o⟩=>wpAny_tests_nil ⟨H,I,Out.here (a:=true) o R.s⟩
end L3
namespace L3
open PySem PySem.Spec PyProof.Rows L2
unseal PEd PEf PTd PWd PAd PSd cN POd PGd eK PId PSx iE PTs
section
variable {X:Cx} {G:Gx} {elt iter:Expr} {x:Str} {px pos:Pos} {ifs:List Expr} {scope:Scope} {it:Fv} {t:Tv} {f:Ev} {k:Nat}
theorem zHO {M:Model} {A:Around} {α:Type} {m:Sem α} {itv u:Value} {s:Shared} {Q1:Unit->Shared->Prop} {R1:α->Shared->Prop} {E:Value->Shared->Prop} (h:wpAny M A (letOwnedTupleGo (.Name x px) itv u) Q1 E s)
  (k:∀ s5,Q1 () s5->wpAny M A m R1 E s5):wpAny M A m R1 E s:=by
 have key:=wpAny_bind (f:=fun _:Unit=>m) (wpAny_mono h (fun _ s5 h5=>k s5 h5) fun _ _ z=>z)
 have e:(letOwnedTupleGo (.Name x px) itv u >>= fun _=>m)=m:=pure_bind () fun _=>m
 rw [e] at key
 exact key
theorem zBv {N:List Str} (hN:N.Nodup) (h0:("" : Str)∉N) (hx:x≠("" : Str)):(N.map (msk x)++[x]).Nodup:=by
 rw [List.nodup_append]
 refine ⟨?_,List.nodup_cons.mpr ⟨by simp,List.nodup_nil⟩,fun a ha b hb e=>?_⟩
 ·induction N with
  | nil=>exact List.nodup_nil
  | cons y N ih=>
   rw [List.map_cons,List.nodup_cons]
   obtain ⟨hy,hN⟩:=List.nodup_cons.mp hN
   refine ⟨fun hm=>?_,ih hN fun z=>h0 (List.mem_cons_of_mem _ z)⟩
   obtain ⟨z,hz,e⟩:=List.mem_map.mp hm
   unfold msk at e
   by_cases c1:z=x
   ·by_cases c2:y=x
    ·exact hy (by rw [c2,<-c1];exact hz)
    ·rw [if_pos c1,if_neg c2] at e;exact h0 (by rw [e];exact List.mem_cons_self)
   ·by_cases c2:y=x
    ·rw [if_neg c1,if_pos c2] at e;exact h0 (by rw [<-e];exact List.mem_cons_of_mem _ hz)
    ·rw [if_neg c1,if_neg c2] at e;exact hy (by rw [<-e];exact hz)
 ·obtain ⟨z,hz,e1⟩:=List.mem_map.mp ha
  rw [List.mem_singleton] at hb
  subst hb
  subst e
  unfold msk at e1
  split at e1
  ·exact hx e1.symm
  ·rename_i c;exact c e1
structure CW where
 i:Nat
 v:List (Option V)
 H:Hp
 Hi:Hp
 ys:List V
 done:List D
 rest:List D
structure CS (Y:Cx) (pins:List (Addr×Obj)) (σ:St) (tn:Nat->Heap->Prop) (fp:List Addr) (Hi2 H2:Hp) (a:Addr) (m:Nat) (cp:Nat->Res (List D)) (es:List D) (c:CW) (s':Shared):Prop where
 inv:Inv Y pins (σ++c.v) c.H s'
 wid:c.v.length=m
 tn:tn c.i s'.heap
 fr:∀ b∈fp,c.H b=none
 ext:Ext Hi2 H2 c.Hi c.H
 acc:c.H a=some (.lst c.ys)
 hi:c.Hi a=none
 isd:IsDs Y.K c.Hi c.ys c.done
 len:c.done.length<=c.i
 cmp:cp c.i=.ok c.rest
 all:es=c.done++c.rest
def zLQ (X:Cx) (pins:List (Addr×Obj)) (σ:St) (use:Option (Value->Sem Unit)) (Q':Value->Shared->Prop) (Qa:Addr->Hp->Prop):Prop:=
 ∀ (C A:Addr) (m:Str->Option Value) (s4:Shared) (H3:Hp),s4.heap.Ns C m->(∀ h',Heap.SameBut C s4.heap h'->Inv X pins σ H3 { s4 with heap:=h' })->nM X pins H3 C->Qa A H3->
  compPost (model X.prog X.w) X.A X.xe use Q' (.ref A) C (.ok .next) s4
theorem tX (hc:X.calm=true/\TB X.K X.mg G.Bi G.B) (hr:Room k X.A) (Bk:BlkOk X x scope) (hN:X.N.Nodup) (h0:("" : Str)∉X.N) (hx0:x≠("" : Str)) (hi:PId X G (.Name x px) iter it)
  (hb:∀ (C:Addr) (s₂:Shared) (H₂:Hp) (fp:List Addr) (G':Gx),Good (cxC X x scope C s₂ H₂ fp) G' k->PTs (cxC X x scope C s₂ H₂ fp) G' ifs t/\PEd (cxC X x scope C s₂ H₂ fp) G' elt f)
  (hs:∀ x,foldedSetIterable iter X.env x=pure x:=by intro _;rfl)
  {pins:List (Addr×Obj)} {s:Shared} {σ:St} {H Hi:Hp} {ρ:Rho} {use:Option (Value->Sem Unit)} {Q':Value->Shared->Prop} {Qa:Addr->Hp->Prop} {cpos:Pos} (I:Inv X pins σ H s) (R:iK X G Hi H σ ρ)
  (ou:Out G Hi H ((jU it t f) ρ) fun ds Hi' H'=>∀ a,zDT X.K H Hi' H' a ds->Qa a H') (hend:zLQ X pins σ use Q' Qa):
  wpAny (model X.prog X.w) X.A (comprehension (.ListComp elt [⟨.Name x px,iter,ifs,0⟩] scope pos) scope X.env cpos (newList []) false (eval iter X.env) use) Q' X.xe s:=by
 refine wpAny_comprehension_free (use:=use) rfl hs (zFN (Bk.cl I)) Bk.kind Bk.names ?_
 refine thn (hi pins s σ H (fun J H2=>∃ ds Hi2,Ext Hi H Hi2 H2/\oG X.K Hi2 J ds/\Out G Hi2 H2 (if ds.length<=16777215 then dN t f ρ ds else .no) fun ds Hi' H'=>∀ a,zDT X.K H Hi' H' a ds->Qa a H') I
  ⟨ρ,Hi,R,(Out.bind ou).imp fun ds Hi2 H2 e2 o2 J gv=>⟨ds,Hi2,e2,gv,o2⟩⟩) fun v s1 h1=>thn h1 fun itv s2 h2=>?_
 obtain ⟨itA,fp,tn,J,H2,rfl,I2,T,st2,f2,ds,Hi2,e2,gv,ou2⟩:=h2
 have hlen:ds.length<=16777215:=by
  by_cases hlen:ds.length<=16777215
  ·exact hlen
  ·rw [if_neg hlen] at ou2;exact ou2.elim
 rw [if_pos hlen] at ou2
 cases hes:dN t f ρ ds with
 | no=>rw [hes] at ou2;exact ou2.elim
 | err c=>exact absurd hes tR
 | ok es=>
  rw [hes] at ou2
  have R2:iK X G Hi2 H2 σ ρ:=R.grow e2
  refine wpAny_newObj_type (wpAny_newFunctionEnv Bk.cell (by intro y hy;simp at hy) (fun h₁ hns₁ hsb₁=>?_) Bk.kind)
  dsimp only at hns₁ hsb₁ ⊢
  generalize hH2:s2.heap.push { cls:=.type "list", dict:=none,data:=.seq ([]:List Value).toArray }=HP at hns₁ hsb₁ ⊢
  have hC:HP.objs.size=s2.heap.objs.size+1:=by rw [<-hH2,Heap.size_push]
  have hDC:s2.heap.objs.size≠HP.objs.size:=by rw [hC];omega
  have ltC:∀ {b:Addr} {o:Obj},s2.heap.get? b=some o->b≠HP.objs.size:=fun e=>by rw [hC];exact Nat.ne_of_lt (Nat.lt_succ_of_lt (Heap.lt_size e))
  have old:∀ b o,s2.heap.get? b=some o->h₁.get? b=some o:=fun b o e=>hsb₁.extBut b o (ltC e) (Heap.get?_push_of_some _ (hH2 ▸ Heap.get?_push_of_some _ e))
  have hacc:h₁.get? s2.heap.objs.size=some { cls:=.type "list", data:=.seq ([]:List Value).toArray 0 }:=hsb₁.extBut _ _ hDC (Heap.get?_push_of_some _ (hH2 ▸ Heap.get?_push_size _ rfl))
  have hfl:∀ b∈fp,b < s2.heap.objs.size:=fun b hb=>by obtain ⟨o,e,_⟩:=T.obj _ _ st2 b hb;exact Heap.lt_size e
  have IE:=zLb (t:=s2.toks+([]:List (Str×Value)).length) I2 Bk f2 hfl (Nat.le_refl _) (by rw [hC];omega) hDC old hacc hns₁
  have sub:=pB scope.names [] (Bk.cl I2) (fun y c e=>nomatch e)
  have H2D:H2 s2.heap.objs.size=none:=I2.hok.fresh (Nat.le_refl _)
  have HD:H s2.heap.objs.size=none:=e2.h.none H2D
  have Hi2D:Hi2 s2.heap.objs.size=none:=e2.s.none H2D
  generalize hX:cxC X x scope HP.objs.size s2 H2 fp=Y at IE
  have GY:Good Y ⟨G.B,G.Bi,fun _ _=>False⟩ k:=by
   subst hX
   exact ⟨hc.1,hr,fun pins σ H s e s' _ h=>by obtain ⟨_,_,_,_,_,c,_,z⟩:=h;exact z.elim,PassesOwn.never,hc.2⟩
  obtain ⟨hts,hel⟩:=(hX ▸ hb HP.objs.size s2 H2 fp ⟨G.B,G.Bi,fun _ _=>False⟩ (hX.symm ▸ GY):PTs Y ⟨G.B,G.Bi,fun _ _=>False⟩ ifs t/\PEd Y ⟨G.B,G.Bi,fun _ _=>False⟩ elt f)
  have stat:∀ {H':Hp},(∀ b∈fp,H' b=none)->∀ b∈fp,nM Y pins H' b:=fun hn b hb=>by
   subst hX
   refine ⟨hn b hb,?_,fun z=>?_,.inl hb,fun y c e=>(f2 b hb).2.2.2.2.1 y c (sub y c e),(f2 b hb).2.2.2.2.2⟩
   ·show b≠HP.objs.size
    rw [hC];exact Nat.ne_of_lt (Nat.lt_succ_of_lt (hfl b hb))
   ·rcases List.mem_cons.mp (I2.stkSub b z) with w | w
    ·exact (f2 b hb).2.1 w
    ·exact (f2 b hb).2.2.1 w
  have YN:Y.N.Nodup:=by subst hX;exact zBv hN h0 hx0
  have Yx:Y.N[σ.length]?=some x:=by
   subst hX
   show (X.N.map (msk x)++[x])[σ.length]?=some x
   rw [List.getElem?_append_right (by rw [List.length_map,I2.len];omega),List.length_map,I2.len,Nat.sub_self]
   rfl
  have Yl:Y.env.scope.names.lookup x=some .local:=by subst hX;exact lookup_relabel_local Bk.loc
  have Ye:Y.env=compEnvC scope (yY X.env scope.names []) HP.objs.size X.env:=by subst hX;rfl
  have Yxe:∀ e s,¬ Y.xe e s:=by subst hX;exact fun _ _ h=>h
  have tn1:tn 0 h₁:=T.keep _ _ _ st2 fun b _ o e=>old b o e
  have loop:∀ s3:Shared,s3={ s2 with heap:=h₁,toks:=s2.toks+([]:List (Str×Value)).length }->
    codeAny (model X.prog X.w) X.A (.compLoop (.ListComp elt [⟨.Name x px,iter,ifs,0⟩] scope pos) 0 (.ref itA) (.ref s2.heap.objs.size) Y.env) (compPost (model X.prog X.w) X.A X.xe use Q' (.ref s2.heap.objs.size) HP.objs.size) s3:=by
   rintro s3 rfl
   subst hX
   have fr0:∀ b∈fp,upd H2 s2.heap.objs.size (.lst []) b=none:=fun b hb=>by
    rw [aO (Nat.ne_of_lt (hfl b hb))]
    exact (f2 b hb).1
   refine codeAny_compLoop_tests (fun n s'=>∃ c:CW,n=ds.length - c.i/\CS (cxC X x scope HP.objs.size s2 H2 fp) pins σ tn fp Hi2 H2 s2.heap.objs.size 1 (fun i=>dN t f ρ (ds.drop i)) es c s') ?_ ds.length
    ⟨⟨0,[none],_,Hi2,[],[],es⟩,rfl,⟨IE,rfl,tn1,fr0,(Ext.refl e2.s).trans (Ext.newF e2.s H2D),aP,Hi2D,.nil,Nat.le_refl _,hes,rfl⟩⟩
   ·rintro n s3 ⟨⟨i,vv,H3,Hi3,ys,done,rest⟩,rfl,I3,wd3,st3,fr3,e3,hD3,hiD3,rd3,hl3,hr3,hes3⟩
    dsimp only at I3 wd3 st3 fr3 e3 hD3 hiD3 rd3 hl3 hr3 hes3 ⊢
    obtain ⟨v,rfl⟩:∃ v,vv=[v]:=by
     match vv,wd3 with
     | [v],_=>exact ⟨v,rfl⟩
    obtain ⟨w1,w2⟩:=gv Hi3 H3 e3.i e3.s i
    have lift:∀ {α:Type} {m:Sem α} {Q':α->Shared->Prop} {E:Value->Shared->Prop} {s':Shared},wpAny (model X.prog X.w) X.A m Q' (cxC X x scope HP.objs.size s2 H2 fp).xe s'->wpAny (model X.prog X.w) X.A m Q' E s':=fun h=>wpAny_mono h (fun _ _ z=>z) fun e s z=>(Yxe e s z).elim
    by_cases hlt:i < ds.length
    ·obtain ⟨d,hd⟩:∃ d,ds[i]?=some d:=⟨_,List.getElem?_eq_getElem hlt⟩
     obtain ⟨go,yl⟩:=w2 d hd
     have e4:ds.drop i=d::ds.drop (i+1):=by
      rw [List.getElem?_eq_getElem hlt] at hd
      cases hd
      exact List.drop_eq_getElem_cons hlt
     rw [e4] at hr3
     refine thn (T.item (cxC X x scope HP.objs.size s2 H2 fp) rfl rfl rfl hc.1 i pins s3 _ H3 _ I3 (stat fr3) st3 go) fun r s4 ⟨u,hru,h4⟩=>?_
     subst hru
     refine zHO h4 fun s5 h5=>?_
     obtain ⟨xv,H5,I5,r5,y5,st5,fr5⟩:=h5
     obtain ⟨Hi5,e5,rd5⟩:=yl xv H5 y5
     have I5':=I5.pinned (stat fr5) (T.obj _ _ st5)
     refine wpAny_assign_Name (oA I5' YN Yx (.inl Yl) r5 (fun s6 I6=>?_) (.inr Yl))
     have es6:(σ++[v]).set σ.length (some xv)=σ++[some xv]:=by rw [List.set_append_right _ _ (Nat.le_refl _),Nat.sub_self];rfl
     rw [es6] at I6
     have E5:Ext Hi2 H2 Hi5 H5:=e3.trans e5
     have R5:iK (cxC X x scope HP.objs.size s2 H2 fp) ⟨G.B,G.Bi,fun _ _=>False⟩ Hi5 H5 (σ++[some xv]) (ρ++[.val d]):=Rel.snoc (R2.grow E5) rd5
     obtain ⟨hD5,hiD5⟩:=e5.out hD3 hiD3
     have rd5':=rd3.mono e5.i
     have again:∀ {H8 Hi8:Hp} {ys':List V} {done' rest':List D} {s8:Shared},Inv (cxC X x scope HP.objs.size s2 H2 fp) (pins++pI fp s5.heap) (σ++[some xv]) H8 s8->Ext Hi2 H2 Hi8 H8->H8 s2.heap.objs.size=some (.lst ys')->Hi8 s2.heap.objs.size=none->IsDs X.K Hi8 ys' done'->done'.length<=i+1->
       dN t f ρ (ds.drop (i+1))=.ok rest'->es=done'++rest'->∃ m,m < ds.length - i/\∃ c:CW,m=ds.length - c.i/\CS (cxC X x scope HP.objs.size s2 H2 fp) pins σ tn fp Hi2 H2 s2.heap.objs.size 1 (fun i=>dN t f ρ (ds.drop i)) es c s8:=fun {H8 Hi8 ys' done' rest' s8} I8 E8 a1 a2 a3 a4 a5 a6=>by
      refine ⟨ds.length - (i+1),by omega,⟨i+1,[some xv],H8,Hi8,ys',done',rest'⟩,rfl,⟨I8.unpinned,rfl,T.keep _ _ _ st5 fun b hb o e=>(I8.pin (b,o) (List.mem_append_right _ (List.mem_append_right _ (cW hb e)))).1,fun b hb=>?_,E8,a1,a2,a3,a4,a5,a6⟩⟩
      obtain ⟨o,e,_⟩:=T.obj _ _ st5 b hb
      exact (I8.pin (b,o) (List.mem_append_right _ (List.mem_append_right _ (cW hb e)))).2.1
     rcases zBa hr3 with ⟨ht,hr4⟩ | ⟨ht,e,es',hf,hr4,hee⟩
     ·refine lift (thn (hts _ s6 _ H5 (fun b H'=>b=false/\∃ Hi',Ext Hi5 H5 Hi' H') I6 ⟨_,Hi5,R5,by rw [ht];exact fun Hi' H' e=>⟨rfl,Hi',e⟩⟩) fun b s7 h7=>?_)
      obtain ⟨H7,I7,rfl,Hi7,e7⟩:=h7
      obtain ⟨hD7,hiD7⟩:=e7.out hD5 hiD5
      exact again I7 (E5.trans e7) hD7 hiD7 (rd5'.mono e7.i) (by omega) hr4 hes3
     ·refine lift (thn (hts _ s6 _ H5 (fun b H'=>b=true/\∃ Hi',Ext Hi5 H5 Hi' H') I6 ⟨_,Hi5,R5,by rw [ht];exact fun Hi' H' e=>⟨rfl,Hi',e⟩⟩) fun b s7 h7=>?_)
      obtain ⟨H7,I7,rfl,Hi7,e7⟩:=h7
      obtain ⟨hD7,hiD7⟩:=e7.out hD5 hiD5
      simp only [if_true]
      refine lift (thn (hel _ s7 _ H7 (fun w H'=>∃ Hi',Ext Hi7 H7 Hi' H'/\IsD X.K Hi' w e) I7 ⟨_,Hi7,R5.grow e7,by rw [hf];exact fun Hi' H' ee w hw=>⟨Hi',ee,hw⟩⟩) fun u8 s8 h8=>?_)
      obtain ⟨w8,H8,I8,r8,Hi8,e8,rw8⟩:=h8
      obtain ⟨hD8,hiD8⟩:=e8.out hD7 hiD7
      have rdy:IsDs X.K Hi8 ys done:=(rd5'.mono e7.i).mono e8.i
      refine lift (thn (oX (X:=(cxC X x scope HP.objs.size s2 H2 fp)) _ s8 _ H8 (.ref s2.heap.objs.size) [w8] (.ref s2.heap.objs.size) [u8] (fun _ H'=>H'=upd H8 s2.heap.objs.size (.lst (ys++[w8]))) I8 rfl (.cons r8 .nil) ⟨_,ys,w8,rfl,rfl,hD8,?_,rfl⟩) fun _ s9 h9=>?_)
      ·rw [rdy.length]
       exact Nat.lt_of_le_of_lt hl3 (Nat.lt_of_lt_of_le hlt (Nat.le_trans hlen (by decide)))
      ·obtain ⟨_,H9,I9,_,rfl⟩:=h9
       refine again I9 (Ext.rewrite ((E5.trans e7).trans e8) H2D hiD8 ⟨_,hD8⟩) aP hiD8 (rdy.snoc rw8) (by rw [List.length_append];exact Nat.succ_le_succ hl3) hr4 ?_
       rw [hes3,hee,List.append_assoc];rfl
    ·rw [List.drop_eq_nil_of_le (by omega),dN] at hr3
     cases hr3
     refine thn (T.done (cxC X x scope HP.objs.size s2 H2 fp) rfl rfl rfl hc.1 i pins s3 _ H3 _ I3 (stat fr3) st3 (w1 (by omega))) fun r s4 ⟨hrn,I4⟩=>?_
     subst hrn
     obtain ⟨m4,hn4,_⟩:=I4.loc
     have fC:H3 HP.objs.size=none:=I4.free
     have nC:∀ b u,H3 b=some u->b≠HP.objs.size:=fun b u e z=>by rw [z,fC] at e;cases e
     have U4:=I4.base
     refine hend HP.objs.size s2.heap.objs.size m4 s4 H3 hn4 (fun h' hs'=>?_) (I2.fpOk (by rw [hC];omega) fC) ?_
     ·have kp:∀ b o,b≠HP.objs.size->s4.heap.get? b=some o->h'.get? b=some o:=fun b o hb e=>hs'.extBut b o hb e
      refine Inv.call' I2 (ch:=fp) I4.os ⟨fun b o e n hb hx=>kp b o (ltC e) (U4.keep b o e n hb hx),fun b o e n hb hx=>?_,U4.free,fun b o e hx=>?_,U4.tups,U4.frzs,U4.tbls⟩ (fun b u e=>?_) I4.bare (fun b hb=>⟨(f2 b hb).2.2.2.1,(f2 b hb).2.1,(f2 b hb).2.2.2.2.1,(f2 b hb).2.2.2.2.2⟩)
      ·obtain ⟨sl,q⟩:=U4.slot b o e n hb hx
       exact ⟨sl,kp b _ (ltC e) q⟩
      ·obtain ⟨o',q⟩:=U4.there b o e hx
       exact ⟨o',kp b _ (ltC e) q⟩
      ·refine (I4.hok b u e).stay (fun c v hc q=>kp c v ?_ q) (fun _ q=>q) fun _ _ q=>q
       rcases hc with z | z
       ·rw [z];exact nC b u e
       ·exact nC c _ z
     ·refine ou2 Hi3 H3 e3 _ ⟨HD,hiD3,ys,hD3,?_⟩
      rw [hes3,List.append_nil]
      exact rd3
  rw [Ye] at loop
  exact codeAny_compStart_list (loop _ rfl) (T.self _ 0 _ _ _ tn1 (loop _ rfl))
theorem zHc (hc:X.calm=true/\TB X.K X.mg G.Bi G.B) (hr:Room k X.A) (Bk:BlkOk X x scope) (hN:X.N.Nodup) (h0:("" : Str)∉X.N) (hx0:x≠("" : Str)) (hi:PId X G (.Name x px) iter it)
  (hb:∀ (C:Addr) (s₂:Shared) (H₂:Hp) (fp:List Addr) (G':Gx),Good (cxC X x scope C s₂ H₂ fp) G' k->PTs (cxC X x scope C s₂ H₂ fp) G' ifs t/\PEd (cxC X x scope C s₂ H₂ fp) G' elt f)
  (hs:∀ x,foldedSetIterable iter X.env x=pure x:=by intro _;rfl):PEf X G (.ListComp elt [⟨.Name x px,iter,ifs,0⟩] scope pos) (jU it t f):=by
 intro pins s σ H Q I w
 obtain ⟨ρ,Hi,R,ou⟩:=w
 rw [eval_ListComp]
 refine tX hc hr Bk hN h0 hx0 hi hb hs (use:=none) (Qa:=fun a H'=>Q (.ref a) H') I R ou fun C A m s4 H3 hn hI _ q=>?_
 exact ⟨m,hn,fun h' hs'=>⟨.ref A,H3,hI h' hs',rfl,q⟩⟩
def PC (X:Cx) (e:Expr) (t:TE):Prop:=∀ (pins:List (Addr×Obj)) (s:Shared) (σ:St) (H:Hp) (Q:VK),Inv X pins σ H s->t σ H Q->∀ (u:Value->Sem Unit) (Q':Unit->Shared->Prop),
 (∀ (C:Addr) (m:Str->Option Value) (s4:Shared) (v:V) (w:Value) (H3:Hp),s4.heap.Ns C m->(∀ h',Heap.SameBut C s4.heap h'->Inv X pins σ H3 { s4 with heap:=h' })->nM X pins H3 C->bW v w->Q v H3->
  wpAny (model X.prog X.w) X.A (u w) (fun _ s''=>∃ m,s''.heap.Ns C m/\∀ h',Heap.SameBut C s''.heap h'->Q' () { s'' with heap:=h' }) X.xe s4)->wpAny (model X.prog X.w) X.A (evalThenUse e X.env u) Q' X.xe s
theorem PC.wk {X:Cx} {e:Expr} {t t':TE} (h:PC X e t) (w:∀ σ H Q,t' σ H Q->t σ H Q):PC X e t':=fun pins s σ H Q I q=>h pins s σ H Q I (w σ H Q q)
@[irreducible] def PCd (X:Cx) (G:Gx) (e:Expr) (f:Ev):Prop:=PC X e (tD X G f)
unseal PCd
@[irreducible] def PCf (X:Cx) (G:Gx) (e:Expr) (f:Fv):Prop:=PC X e (tF X G f)
unseal PCf
theorem zHa (hc:X.calm=true/\TB X.K X.mg G.Bi G.B) (hr:Room k X.A) (Bk:BlkOk X x scope) (hN:X.N.Nodup) (h0:("" : Str)∉X.N) (hx0:x≠("" : Str)) (hi:PId X G (.Name x px) iter it)
  (hb:∀ (C:Addr) (s₂:Shared) (H₂:Hp) (fp:List Addr) (G':Gx),Good (cxC X x scope C s₂ H₂ fp) G' k->PTs (cxC X x scope C s₂ H₂ fp) G' ifs t/\PEd (cxC X x scope C s₂ H₂ fp) G' elt f)
  (hs:∀ x,foldedSetIterable iter X.env x=pure x:=by intro _;rfl):PCf X G (.ListComp elt [⟨.Name x px,iter,ifs,0⟩] scope pos) (jU it t f):=by
 intro pins s σ H Q I w u Q' hend
 obtain ⟨ρ,Hi,R,ou⟩:=w
 rw [arm_evalThenUse_ListComp]
 refine wpAny_bind (tX hc hr Bk hN h0 hx0 hi hb hs (use:=some u) (Q':=fun _ s=>wpAny (model X.prog X.w) X.A (pure ()) Q' X.xe s) (Qa:=fun a H'=>Q (.ref a) H') I R ou fun C A m s4 H3 hn hI fo q=>?_)
 refine thn (hend C m s4 (.ref A) (.ref A) H3 hn hI fo rfl q) fun _ s5 h5=>?_
 obtain ⟨m5,hn5,h5⟩:=h5
 exact ⟨m5,hn5,fun h' hs'=>wpAny_pure (h5 h' hs')⟩
theorem PCf.d (h:PCf X G e fs):PCd X G e (eF fs):=PC.wk h fun σ H Q q=>by
 obtain ⟨ρ,Hi,R,ou⟩:=q
 refine ⟨ρ,Hi,R,?_⟩
 cases z:fs ρ with
 | no=>unfold eF at ou;rw [z] at ou;exact ou
 | err c=>unfold eF at ou;rw [z] at ou;exact ou
 | ok ds=>
  unfold eF at ou;rw [z] at ou
  intro Hi1 H1 e1 a n
  obtain ⟨n1,n2,xs,n3,n4⟩:=n
  have o2:∀ Hi' H',Ext Hi H Hi' H'->∀ v,IsD X.K Hi' v (.lst ds)->Q v H':=ou
  exact o2 _ _ (e1.hold n1 n3 n2) (.ref a) (.lst (SqL.of aP) (n4.mono (bM n2 _)))
theorem zDc {i:Nat} {y:Str} {e:Expr} {te:TE} {pos' pos:Pos} (hN:X.N.Nodup) (hi:X.N[i]?=some y) (hx:Loc X.env.scope y) (he:PC X e te) (hs:swapsWith e (some (.Name y pos')) pos.line X.env=pure true)
  (hf:X.fn y=true∨X.env.scope.names.lookup y=some .local):PS X (.Assign [.Name y pos'] e pos) (zLh te (L2.gName i)):=by
 intro pins s σ H E I h
 rw [exec_Assign_Name_used _ _ _ _ hs]
 refine wpAny_bind (wpAny_standAt (wpAny_bind ?_))
 refine he pins s σ H _ I h _ _ fun C m s4 v w H3 hn hI fo r q=>?_
 have I4:Inv X pins σ H3 s4:=hI s4.heap (Heap.SameBut.refl _ _)
 refine wpAny_assign_Name (wN I4 hN hi hx r (fun s5 I5 sb=>?_) hf)
 obtain ⟨a,sb,ha⟩:=sb
 have aC:C≠a:=by
  rcases ha with rfl | ha
  ·exact fo.2.1
  ·exact fun z=>fo.2.2.2.2.1 y a ha z.symm
 refine ⟨m,hn.sameBut sb aC,fun h' hs'=>wpAny_pure ?_⟩
 have fC:=fo.1
 have nC:∀ b u,H3 b=some u->b≠C:=fun b u e z=>by rw [z,fC] at e;cases e
 have kp:∀ b o,b≠C->s5.heap.get? b=some o->h'.get? b=some o:=fun b o hb e=>hs'.extBut b o hb e
 refine ⟨σ.set i (some v),H3,?_,q⟩
 refine Inv.call' I5 (ch:=[C]) rfl ⟨fun b o e n hb hx=>kp b o (by simpa using hx) e,fun b o e n hb hx=>⟨o.slots,kp b _ (by simpa using hx) e⟩,fun b o e n hx=>n,fun b o e hx=>⟨o,kp b _ (by simpa using hx) e⟩,fun _ _ q=>q,fun _ _ _ q=>q,fun _ ps q=>⟨#[],by simpa using q⟩⟩ (fun b u e=>?_) I5.bare (fun b hb=>?_)
 ·refine (I5.hok b u e).stay (fun c v hc q=>kp c v ?_ q) (fun _ q=>q) fun _ _ q=>q
  rcases hc with z | z
  ·rw [z];exact nC b u e
  ·exact nC c _ z
 ·have e:b=C:=by simpa using hb
  subst e
  exact ⟨fo.2.2.2.1,fo.2.1,fo.2.2.2.2.1,fo.2.2.2.2.2⟩
theorem zFO {i:Nat} {y:Str} {e:Expr} {f:Ev} {pos' pos:Pos} (hN:X.N.Nodup) (hi:X.N[i]?=some y) (hx:Loc X.env.scope y) (he:PCd X G e f) (hs:swapsWith e (some (.Name y pos')) pos.line X.env=pure true)
  (hf:X.fn y=true∨X.env.scope.names.lookup y=some .local:=by first | exact .inl rfl | exact .inr rfl | assumption):PSd X G (.Assign [.Name y pos'] e pos) (fL i f):=PS.wk (zDc hN hi hx he hs hf) fun E σ H q=>by
 obtain ⟨ρ,Hi,R,h⟩:=q
 exact ⟨ρ,Hi,R,gQ R h fun d Hi' H' _ e h' v r=>h' _ Hi' H' (Same.refl _) ((R.grow e).set r)⟩
theorem zJS {i:Nat} {y:Str} {e:Expr} {fs:Fv} {pos' pos:Pos} (hN:X.N.Nodup) (hi:X.N[i]?=some y) (hx:Loc X.env.scope y) (he:PCf X G e fs) (hs:swapsWith e (some (.Name y pos')) pos.line X.env=pure true)
  (hf:X.fn y=true∨X.env.scope.names.lookup y=some .local:=by first | exact .inl rfl | exact .inr rfl | assumption):PSd X G (.Assign [.Name y pos'] e pos) (zBf i fs):=PS.wk (zDc hN hi hx he hs hf) fun E σ H q=>by
 obtain ⟨ρ,Hi,R,h⟩:=q
 refine ⟨ρ,Hi,R,gQ R h fun ds Hi' H' _ e h' a n=>?_⟩
 obtain ⟨n1,n2,xs,n3,n4⟩:=n
 exact h' _ Hi' H' (Same.refl _) (R.setOwn e n1 n3 n2 n4)
end
end L3
namespace L3
open PySem PySem.Spec PyProof.Rows L2
unseal PEd PEf PTd PWd PAd PSd cN POd PGd eK PId PSx iE PTs PCd PCf
def zKP (sc:Scope) (N:List Str) (x:Str) (scope:Scope):Bool:=
 scope.names.all (fun y=>y.2 != .cell) && scope.names.lookup x==some .local && scope.names.all (fun y=>y.2 != .local || scope.names.lookup y.1==some .local)
  && scope.names.all (fun p=>p.2 != .free || (sc.names.lookup p.1==some .cell || sc.names.lookup p.1==some .free)) && N.all (fun y=>y==x || scope.names.lookup y != some .local) && (scope.names.lookup ("" : Str)).isNone && !N.contains ("" : Str) && x != ("" : Str)
section
variable {X:Cx} {G:Gx} {elt iter:Expr} {x:Str} {px pos:Pos} {ifs:List Expr} {scope sc:Scope} {it:Fv} {t:Tv} {f:Ev} {k:Nat} {N:List Str}
theorem zFU (hk:scope.kind=.function) (hsc:X.env.scope=sc) (hN:X.N=N) (h:zKP sc N x scope=true):BlkOk X x scope/\("" : Str)∉X.N/\x≠("" : Str):=by
 unfold zKP at h
 simp only [Bool.and_eq_true] at h
 obtain ⟨⟨⟨⟨⟨⟨⟨h1,h2⟩,h3⟩,h4⟩,h5⟩,h6⟩,h7⟩,h8⟩:=h
 subst hN hsc
 refine ⟨⟨hk,fun y hy e=>?_,beq_iff_eq.mp h2,fun y hy e=>?_,fun p hp e=>?_,fun y hy hne e=>?_,?_⟩,fun z=>?_,fun z=>?_⟩
 ·have:=List.all_eq_true.mp h1 y hy
  rw [e] at this;cases this
 ·have:=List.all_eq_true.mp h3 y hy
  rw [e] at this
  simpa using this
 ·have:=List.all_eq_true.mp h4 p hp
  rw [e] at this
  have q:X.env.scope.names.lookup p.1=some .cell∨X.env.scope.names.lookup p.1=some .free:=by simpa using this
  exact q
 ·have:=List.all_eq_true.mp h5 y hy
  rw [e] at this
  simp [hne] at this
 ·simpa using h6
 ·have:X.N.contains ("" : Str)=true:=by simpa using z
  rw [this] at h7;cases h7
 ·rw [z] at h8;simp at h8
theorem kM (W:Good X G k) (hnd:N.Nodup) (hk:scope.kind=.function) (hsc:X.env.scope=sc) (hN:X.N=N) (h:zKP sc N x scope=true) (hi:PId X G (.Name x px) iter it)
  (hb:∀ (C:Addr) (s₂:Shared) (H₂:Hp) (fp:List Addr) (G':Gx),Good (cxC X x scope C s₂ H₂ fp) G' k->PTs (cxC X x scope C s₂ H₂ fp) G' ifs t/\PEd (cxC X x scope C s₂ H₂ fp) G' elt f)
  (hs:∀ x,foldedSetIterable iter X.env x=pure x:=by intro _;rfl):PEf X G (.ListComp elt [⟨.Name x px,iter,ifs,0⟩] scope pos) (jU it t f):=by
 obtain ⟨b,h0,hx⟩:=zFU hk hsc hN h
 exact zHc ⟨W.calm,W.tb⟩ W.room b (hN ▸ hnd) h0 hx hi hb hs
theorem zAd (W:Good X G k) (hnd:N.Nodup) (hk:scope.kind=.function) (hsc:X.env.scope=sc) (hN:X.N=N) (h:zKP sc N x scope=true) (hi:PId X G (.Name x px) iter it)
  (hb:∀ (C:Addr) (s₂:Shared) (H₂:Hp) (fp:List Addr) (G':Gx),Good (cxC X x scope C s₂ H₂ fp) G' k->PTs (cxC X x scope C s₂ H₂ fp) G' ifs t/\PEd (cxC X x scope C s₂ H₂ fp) G' elt f)
  (hs:∀ x,foldedSetIterable iter X.env x=pure x:=by intro _;rfl):PCf X G (.ListComp elt [⟨.Name x px,iter,ifs,0⟩] scope pos) (jU it t f):=by
 obtain ⟨b,h0,hx⟩:=zFU hk hsc hN h
 exact zHa ⟨W.calm,W.tb⟩ W.room b (hN ▸ hnd) h0 hx hi hb hs
end
end L3
namespace L3
open PySem PySem.Spec PyProof.Rows L2
unseal PEd PEf PTd PWd PAd PSd cN POd PGd eK PId PSx iE PTs PCd PCf
section
variable {X:Cx} {G:Gx} {a b:Expr} {pos:Pos} {f:Fv} {g:Ev}
theorem IsDs.rep {K:PySem.W.Frag} {H:Hp} {xs:List V} {ds:List D} (h:IsDs K H xs ds):∀ n:Nat,IsDs K H (List.replicate n xs).flatten (List.replicate n ds).flatten
 | 0=>.nil
 | n+1=>by
  rw [List.replicate_succ,List.replicate_succ,List.flatten_cons,List.flatten_cons]
  exact h.append (IsDs.rep h n)
theorem zCL (ha:PEf X G a f) (hb:PEd X G b g):PEf X G (.BinOp a .Mult b pos) (zIk f g):=PE.wk (zBL zKj ha hb) fun σ H Q q=>by
 obtain ⟨ρ,Hi,R,ou⟩:=q
 refine ⟨ρ,Hi,R,(Out.bind ou).imp fun ds Hi1 H1 e1 o1 l nl=>?_⟩
 refine ⟨ρ,Hi1,R.grow e1,(Out.bind o1).imp fun d Hi2 H2 e2 o2 v rv=>?_⟩
 cases d<;>first | exact o2.elim | skip
 rename_i k
 obtain ⟨n1,n2,xs,n3,n4⟩:=nl
 have o2':Out G Hi2 H2 (if 0<=k/\k < 2^62/\ds.length * k.toNat<=16777216 then Res.ok (List.replicate k.toNat ds).flatten else .no) _:=o2
 by_cases hz:0<=k/\k < 2^62/\ds.length * k.toNat<=16777216
 ·rw [if_pos hz] at o2'
  refine ⟨l,k,xs,rfl,rv.intI,e2.h.at n3,by omega,by omega,by rw [n4.length];exact hz.2.2,fun p hp=>?_⟩
  exact o2' _ _ (Ext.newF e2.s hp) p ⟨(e1.h.trans e2.h).none hp,e2.s.none hp,_,aP,(n4.mono e2.i).rep _⟩
 ·rw [if_neg hz] at o2';exact o2'.elim
end
section
variable {es r:List Expr} {a b f:Expr} {k:Nat} {p:Pos} {x:Str} {c:Const} {env:Env}
theorem zFp:starEach (.Tuple es k p::r) env=(false,eval (.Tuple es k p) env)::starEach r env:=rfl
theorem aY {o:Operator}:starEach (.BinOp a o b p::r) env=(false,eval (.BinOp a o b p) env)::starEach r env:=rfl
theorem bU:starEach (.Subscript a b p::r) env=(false,eval (.Subscript a b p) env)::starEach r env:=rfl
theorem aH:starEach (.Name x p::r) env=(false,eval (.Name x p) env)::starEach r env:=rfl
theorem fS:starEach (.Constant c k p::r) env=(false,eval (.Constant c k p) env)::starEach r env:=rfl
theorem aK {ks:List Keyword}:starEach (.Call f es ks p::r) env=(false,eval (.Call f es ks p) env)::starEach r env:=rfl
end
end L3
namespace L3
open PySem PySem.Spec PyProof.Rows L2
unseal PEd PEf PTd PWd PAd PSd cN POd PGd eK PId PSx iE PTs PCd PCf
section
variable {X:Cx} {G:Gx} {e st:Expr} {te tk:TE} {lo hi:Option Expr} {tl th:TO} {pos p2:Pos} {f g:Ev} {l h:Ov}
end
end L3
set_option maxRecDepth 100000
namespace L3
open PySem PySem.Spec PyProof.Rows L2
section
variable {prog:Program} {w:World} {A:Around} {E:Value->Shared->Prop} {s:Shared}
end
section
unseal PEd PEf PTd PWd PAd PSd cN POd PGd eK PId PSx iE PTs PCd PCf
variable {X:Cx} {G:Gx} {fs:Fv} {f:Ev}
end
end L3
namespace L3
open PySem PySem.Spec PyProof.Rows L2
unseal PEd PEf PTd PWd PAd PSd cN POd PGd eK PId PSx iE PTs PCd PCf
section
variable {X:Cx} {G:Gx}
def zLT (K:PySem.W.Frag):List V->Hp->VK->Prop:=fun xs H Q=>∃ (a:Addr) (ns:List Int),xs=[.ref a]/\(SqL K H a (ns.map V.int)∨SqT K H a (ns.map V.int))/\Q (.int ns.sum) H
theorem pG (ns:List Int):∀ j,preSum (fun i=>ns.getD i 0) j=(ns.take j).sum
 | 0=>by rw [List.take_zero];rfl
 | j+1=>by
  rw [preSum,pG ns j,List.take_succ]
  rw [List.getD_eq_getElem?_getD]
  cases ns[j]? with
  | none=>simp
  | some x=>simp
theorem tN {ns:List Int} {its:List Value} (r:cM (ns.map V.int) its) {i:Nat} {v:Value} (h:its[i]?=some v):∃ t,v=.int (ns.getD i 0) t:=by
 have hl:=r.length
 rw [List.length_map] at hl
 have hi:=(List.getElem?_eq_some_iff.mp h).1
 have hx:(ns.map V.int)[i]?=some (.int (ns.getD i 0)):=by
  rw [List.getElem?_map,List.getD_eq_getElem?_getD,List.getElem?_eq_getElem (by omega)]
  rfl
 obtain ⟨u,hu,ru⟩:=r.get hx
 rw [h] at hu
 cases hu
 exact ru
theorem eR (hc:X.calm=true):oF X (.builtin "sum") (zLT X.K):=by
 intro pins s σ H xs us Q I r h
 obtain ⟨a,ns,rfl,hq,q⟩:=h
 obtain ⟨u,rfl,ru⟩:=r.one
 cases ru
 have hh:=I.ok.hd hc
 rcases hq with hq | hq
 ·obtain ⟨its,rv,p,hz⟩:=I.list hq
  have hlt:a < s.heap.objs.size:=by obtain ⟨_,e,_⟩:=p.isList;exact Heap.lt_size e
  have hl:=rv.length
  rw [List.length_map] at hl
  refine call_sum_walkG (wpAny_pyIter_list p.isList ?_)
  refine ⟨s.heap.objs.size,_,_,_,_,_,fun i=>ns.getD i 0,rfl,Walks.list (A:=X.A.in1) hh s.heap.objs.size a (Nat.ne_of_lt hlt) its.toArray,⟨⟨_,Heap.get?_push_size _ rfl,rfl,rfl⟩,p.isList.push _⟩,fun b hb=>?_,fun i v hv=>tN rv (by simpa using hv),fun h' tk t' hk=>?_⟩
  ·show b < (s.heap.push _).objs.size
   rw [Heap.size_push]
   rcases List.mem_cons.mp hb with rfl | hb
   ·exact Nat.lt_succ_self _
   ·rcases List.mem_cons.mp hb with rfl | hb
    ·exact Nat.lt_succ_of_lt hlt
    ·cases hb
  ·refine ⟨.int ns.sum,H,I.kept (t':=tk) fun b o e=>hk b o (fun z=>?_) (Heap.get?_push_of_some _ e),⟨t',?_⟩,q⟩
   ·have z':b=s.heap.objs.size:=by simpa using z
    have l:=Heap.lt_size e
    rw [z'] at l
    exact Nat.lt_irrefl _ l
   ·rw [List.size_toArray,<-hl,pG,List.take_length]
 ·obtain ⟨its,rv,p,hz⟩:=I.tuple hq
  have p':s.heap.IsTuple a its.toArray:=p
  have hlt:a < s.heap.objs.size:=by obtain ⟨_,e,_⟩:=p';exact Heap.lt_size e
  have hl:=rv.length
  rw [List.length_map] at hl
  refine call_sum_walkG (wpAny_pyIter_tuple p' ?_)
  refine ⟨s.heap.objs.size,_,_,_,_,_,fun i=>ns.getD i 0,rfl,Walks.tuple (A:=X.A.in1) hh s.heap.objs.size a (Nat.ne_of_lt hlt) its.toArray,⟨⟨_,Heap.get?_push_size _ rfl,rfl,rfl⟩,p'.push _⟩,fun b hb=>?_,fun i v hv=>tN rv (by simpa using hv),fun h' tk t' hk=>?_⟩
  ·show b < (s.heap.push _).objs.size
   rw [Heap.size_push]
   rcases List.mem_cons.mp hb with rfl | hb
   ·exact Nat.lt_succ_self _
   ·rcases List.mem_cons.mp hb with rfl | hb
    ·exact Nat.lt_succ_of_lt hlt
    ·cases hb
  ·refine ⟨.int ns.sum,H,I.kept (t':=tk) fun b o e=>hk b o (fun z=>?_) (Heap.get?_push_of_some _ e),⟨t',?_⟩,q⟩
   ·have z':b=s.heap.objs.size:=by simpa using z
    have l:=Heap.lt_size e
    rw [z'] at l
    exact Nat.lt_irrefl _ l
   ·rw [List.size_toArray,<-hl,pG,List.take_length]
theorem gD {K:PySem.W.Frag} {H:Hp}:∀ {xs:List V} {ds:List D} {ns:List Int},IsDs K H xs ds->jM ds=some ns->xs=ns.map V.int
 | _,_,ns,.nil,h=>by cases h;rfl
 | _,_,ns,.cons (d:=d) (ds:=ds) r rs,h=>by
  cases d with
  | int i=>
   rw [jM] at h
   cases z:jM ds with
   | none=>rw [z] at h;cases h
   | some ms=>
    rw [z] at h
    cases h
    rw [r.intI,gD rs z]
    rfl
  | _=>cases h
theorem kO:sL X (zLT X.K) tV:=⟨fun a c z=>(by
  unfold tV at z
  split at z
  ·split at z<;>cases z
  ·split at z<;>cases z
  ·cases z),fun Hi H vs ds d Q s r z q=>by
  unfold tV at z
  split at z
  ·split at z
   ·rename_i ns hns
    cases z
    obtain ⟨v,rfl,h⟩:=r.one
    obtain ⟨a,xs,rfl,h1,h2⟩:=h.lstI
    have e:=gD h2 hns
    subst e
    exact ⟨a,ns,rfl,.inl (bS s h1),q _ Hi H (Ext.refl s) (.int _)⟩
   ·cases z
  ·split at z
   ·rename_i ns hns
    cases z
    obtain ⟨v,rfl,h⟩:=r.one
    obtain ⟨a,xs,rfl,h1,h2⟩:=h.tupI
    have e:=gD h2 hns
    subst e
    exact ⟨a,ns,rfl,.inr (bN s h1),q _ Hi H (Ext.refl s) (.int _)⟩
   ·cases z
  ·cases z⟩
theorem dE:bootBuiltins "sum" = some (.builtin "sum"):=by first | rfl | decide +kernel
end
end L3
namespace L3
open PySem PySem.Spec PyProof.Rows L2
unseal PEd PEf PTd PWd PAd PSd cN POd PGd eK PId PSx iE PTs PCd PCf
section
variable {prog:Program} {w:World} {A:Around} {E:Value->Shared->Prop} {s:Shared}
end
section
variable {X:Cx} {G:Gx} {es:List Expr} {pos:Pos}
end
theorem ln0 {α:Type} {us:List α} (h:us.length=0):us=[]:=List.eq_nil_of_length_eq_zero h
theorem ln1 {α:Type} {us:List α} (h:us.length=1):∃ a0:α,us=[a0]:=by
 cases us with
 | nil=>cases h
 | cons a r=>
  cases ln0 (Nat.succ.inj h)
  exact ⟨a,rfl⟩
theorem ln2 {α:Type} {us:List α} (h:us.length=2):∃ a0 a1:α,us=[a0,a1]:=by
 cases us with
 | nil=>cases h
 | cons a r=>
  obtain ⟨a1,rfl⟩:=ln1 (Nat.succ.inj h)
  exact ⟨a,a1,rfl⟩
theorem ln3 {α:Type} {us:List α} (h:us.length=3):∃ a0 a1 a2:α,us=[a0,a1,a2]:=by
 cases us with
 | nil=>cases h
 | cons a r=>
  obtain ⟨a1,a2,rfl⟩:=ln2 (Nat.succ.inj h)
  exact ⟨a,a1,a2,rfl⟩
theorem ln4 {α:Type} {us:List α} (h:us.length=4):∃ a0 a1 a2 a3:α,us=[a0,a1,a2,a3]:=by
 cases us with
 | nil=>cases h
 | cons a r=>
  obtain ⟨a1,a2,a3,rfl⟩:=ln3 (Nat.succ.inj h)
  exact ⟨a,a1,a2,a3,rfl⟩
end L3
namespace L3
open PySem PySem.Spec PyProof.Rows L2
unseal PEd PEf PTd PWd PAd PSd cN POd PGd eK PId PSx iE PTs PCd PCf
section
variable {X:Cx} {G:Gx} {a b c e:Expr} {pos p2:Pos} {f g h:Ev} {fs:Fv} {lo hi:Option Expr} {l u:Ov}
def zMh (K:PySem.W.Frag):List V->Hp->VK->Prop:=fun xs H Q=>∃ (a:Addr) (bs:List Bool),xs=[.ref a]/\SqL K H a (bs.map V.bl)/\Q (.bl (bs.all id)) H
theorem zBY (bs:List Bool):(List.range bs.length).all (fun i=>bs.getD i false)=bs.all id:=by
 induction bs with
 | nil=>rfl
 | cons b r ih=>
  rw [List.length_cons,List.range_succ_eq_map,List.all_cons,List.all_cons,List.all_map,<-ih]
  rfl
theorem zEn (hc:X.calm=true):oF X (.builtin "all") (zMh X.K):=by
 intro pins s σ H xs us Q I r h
 obtain ⟨a,bs,rfl,hq,q⟩:=h
 obtain ⟨u,rfl,ru⟩:=wY r
 cases ru
 have hh:=I.ok.hd hc
 obtain ⟨its,rv,p,hz⟩:=I.list hq
 have hlt:a < s.heap.objs.size:=by obtain ⟨_,e,_⟩:=p.isList;exact Heap.lt_size e
 have hl:=rv.length
 rw [List.length_map] at hl
 refine call_all_walk (wpAny_pyIter_list p.isList ?_)
 refine ⟨s.heap.objs.size,_,_,_,_,_,fun i=>bs.getD i false,rfl,Walks.list (A:=X.A.in1) hh s.heap.objs.size a (Nat.ne_of_lt hlt) its.toArray,⟨⟨_,Heap.get?_push_size _ rfl,rfl,rfl⟩,p.isList.push _⟩,fun i v s' Q' E' hv hQ=>?_,fun h' tk hk=>?_⟩
 ·have hv':its[i]?=some v:=by simpa using hv
  have hi:i < its.length:=(List.getElem?_eq_some_iff.mp hv').1
  have hx:(bs.map V.bl)[i]?=some (.bl (bs.getD i false)):=by
   rw [List.getElem?_map,List.getD_eq_getElem?_getD,List.getElem?_eq_getElem (by omega)]
   rfl
  obtain ⟨u,hu,ru⟩:=rv.get hx
  rw [hv'] at hu
  cases hu
  cases ru
  exact wpAny_truthy_bool hQ
 ·refine ⟨.bl (bs.all id),H,I.kept (t':=tk) fun b o e=>hk b o (fun z=>?_) (Heap.get?_push_of_some _ e),?_,q⟩
  ·have z':b=s.heap.objs.size:=by simpa using z
   have l:=Heap.lt_size e
   rw [z'] at l
   exact Nat.lt_irrefl _ l
  ·show Value.bool _=Value.bool _
   rw [List.size_toArray,<-hl,zBY]
theorem pD {K:PySem.W.Frag} {H:Hp}:∀ {xs:List V} {ds:List D} {bs:List Bool},IsDs K H xs ds->nG ds=some bs->xs=bs.map V.bl
 | _,_,_,.nil,h=>by cases h;rfl
 | _,_,_,.cons (d:=d) (ds:=ds) r rs,h=>by
  cases d with
  | bl i=>
   rw [nG] at h
   cases z:nG ds with
   | none=>rw [z] at h;cases h
   | some ms=>
    rw [z] at h
    cases h
    rw [r.blI,pD rs z]
    rfl
  | _=>cases h
theorem zKf:sL X (zMh X.K) zJC:=⟨fun a c z=>(by
  unfold zJC at z
  split at z
  ·split at z<;>cases z
  ·cases z),fun Hi H vs ds d Q s r z q=>by
  unfold zJC at z
  split at z
  ·split at z
   ·rename_i ns hns
    cases z
    obtain ⟨v,rfl,h⟩:=r.one
    obtain ⟨a,xs,rfl,h1,h2⟩:=h.lstI
    have e:=pD h2 hns
    subst e
    exact ⟨a,ns,rfl,bS s h1,q _ Hi H (Ext.refl s) (.bl _)⟩
   ·cases z
  ·cases z⟩
theorem zCd:bootBuiltins "all" = some (.builtin "all"):=by first | rfl | decide +kernel
end
end L3
namespace L3
open PySem PySem.Spec PyProof.Rows L2
unseal PEd PEf PTd PWd PAd PSd cN POd PGd eK PId PSx iE PTs PCd PCf
section
variable {X:Cx} {G:Gx} {a b c e:Expr} {pos p2 p:Pos} {f g h:Ev} {fs:Fv} {x:Str}
theorem zEE {bl:List Stmt}:cN X G bl sNo:=fun pins s σ H E I q=>by
 obtain ⟨ρ,Hi,R,ou⟩:=q
 exact ou.elim
def zEF (T:List (Str×Str)):List (Str×KTD.Dat):=T.map fun q=>(q.1,.flat (.str q.2))
structure IsTab (K:PySem.W.Frag) (mg:Str->Option Value) (x:Str) (T:List (Str×Str)) (a:Addr):Prop where
 mg:mg x=some (.ref a)
 tab:∀ h:Heap,K.In h->KTD.TextTab h a (zEF T)
theorem zCf (k:Str):∀ T:List (Str×Str),KTD.datumAt k (zEF T)=(T.lookup k).map fun y=>.flat (.str y)
 | []=>rfl
 | (x,y)::r=>by
  show (if decide (k=x)=true then some (KTD.Dat.flat (.str y)) else KTD.datumAt k (zEF r))=_
  rw [List.lookup_cons]
  by_cases hx:k=x
  ·rw [if_pos (decide_eq_true hx),show (k==x)=true from beq_iff_eq.mpr hx];rfl
  ·rw [if_neg (by simp [hx]),show (k==x)=false from beq_eq_false_iff_ne.mpr hx];exact zCf k r
theorem zBA (k:Str) (T:List (Str×Str)):KTD.inKeys k (zEF T)=(T.lookup k).isSome:=by
 rw [<-KTD.isSome_datumAt,zCf,Option.isSome_map]
theorem zGc {T:List (Str×Str)} {ad:Addr} (t:IsTab X.K X.mg x T ad) (hg:Gl X x) (hd:(x==("__debug__" : Str))=false:=by decide):PE X (.Name x p) (tC (.ref ad)):=zCV hg t.mg rfl hd
theorem zCo {T:List (Str×Str)} {ad:Addr} (t:IsTab X.K X.mg x T ad):OpR X (compareOp .NotIn) (fun v y H Q=>∃ k,v=.str k/\y=.ref ad/\Q (.bl (!(T.lookup k).isSome)) H):=by
 intro pins s σ H v y u w Q I rx ry h
 obtain ⟨k,rfl,rfl,q⟩:=h
 obtain ⟨tk,rfl⟩:=rx
 cases ry
 refine KTD.notin_text ⟨t.tab s.heap I.kIn,fun _ _ e=>e⟩ ?_
 rw [zBA]
 exact ⟨.bl _,H,I.tok _,rfl,q⟩
theorem wL {h₀:Heap} {k:Str} {P:Value->Prop}:∀ {T:List (Str×Str)},(∀ z t,T.lookup k=some z->P (.str z t))->KTD.EachL h₀ k P (zEF T)
 | [],_=>trivial
 | [(x,y)],hP=>fun hk t=>hP y t (by rw [List.lookup_cons,show (k==x)=true from beq_iff_eq.mpr hk])
 | (x,y)::q::r,hP=>by
  show if decide (k=x)=true then KTD.Opened h₀ P (.flat (.str y)) else KTD.EachL h₀ k P (zEF (q::r))
  by_cases hk:k=x
  ·rw [if_pos (decide_eq_true hk)]
   exact fun t=>hP y t (by rw [List.lookup_cons,show (k==x)=true from beq_iff_eq.mpr hk])
  ·rw [if_neg (by simp [hk])]
   exact wL fun z t hz=>hP z t (by rw [List.lookup_cons,show (k==x)=false from beq_eq_false_iff_ne.mpr hk];exact hz)
theorem zCS (T:List (Str×Str)):((zEF T).all fun q=>KTD.plain q.2)=true:=by
 unfold zEF
 rw [List.all_map]
 exact List.all_eq_true.mpr fun _ _=>rfl
theorem zII {T:List (Str×Str)} {ad:Addr} (t:IsTab X.K X.mg x T ad):IxR X (fun v y H Q=>∃ k z,v=.ref ad/\y=.str k/\T.lookup k=some z/\Q (.str z) H):=by
 intro value slice pins s σ H v y u w Q I rx ry h hs
 obtain ⟨k,z,rfl,rfl,hk,q⟩:=h
 cases rx
 obtain ⟨tk,rfl⟩:=ry
 refine KTD.item_textA ⟨t.tab s.heap I.kIn,fun _ _ e=>e⟩ (zCS T) (by rw [zBA,hk];rfl) ?_ hs
 refine wL fun z' t' hz=>?_
 rw [hk] at hz
 cases hz
 exact ⟨.str _,H,I.tok _,⟨_,rfl⟩,q⟩
theorem unT {o:D->Res D} {r:R2} {y:V} (hr:∀ (Hi H:Hp) (v:V) (d:D) (Q:VK),IsD X.K Hi v d->Same Hi H->(∃ d',o d=.ok d'/\(∀ w Hi' H',Ext Hi H Hi' H'->IsD X.K Hi' w d'->Q w H'))->r v y H Q)
  (he:∀ d c,o d≠.err c):∀ σ H Q,tD X G (eUn o f) σ H Q->tOp r (tD X G f) (tC y) σ H Q:=fun σ H Q q=>by
 obtain ⟨ρ,Hi,R,ou⟩:=q
 refine xI R ou fun v d Hi1 H1 e1 R1 r1 o1=>?_
 cases z:o d with
 | no=>rw [z] at o1;exact o1.elim
 | err c=>exact absurd z (he d c)
 | ok d'=>rw [z] at o1;exact hr Hi1 H1 v d Q r1 R1.s ⟨d',z,fun w Hi' H' e1 r1=>o1 Hi' H' e1 w r1⟩
theorem zKm {T:List (Str×Str)} {ad:Addr}:∀ σ H Q,tD X G (eUn (mE T) f) σ H Q->tOp (fun v y H Q=>∃ k,v=.str k/\y=.ref ad/\Q (.bl (!(T.lookup k).isSome)) H) (tD X G f) (tC (.ref ad)) σ H Q:=
 unT (fun Hi H v d Q r s h=>by
  obtain ⟨d',z,q⟩:=h
  unfold mE at z
  split at z
  ·cases z;exact ⟨_,r.strI,rfl,q _ Hi H (Ext.refl s) (.bl _)⟩
  ·cases z) fun d c z=>by unfold mE at z;split at z<;>cases z
theorem zKw {op:CmpOp} {o:D->Res D} {r:R2} {y:V} (hp:PT X (.Compare a [op] [b] pos) (zJA (tOp r (tD X G f) (tC y)))) (hu:∀ σ H Q,tD X G (eUn o f) σ H Q->tOp r (tD X G f) (tC y) σ H Q):PTd X G (.Compare a [op] [b] pos) (eX (eUn o f)):=
 PT.wk hp fun σ H Q q=>by
  obtain ⟨ρ,Hi,R,ou⟩:=q
  refine hu σ H _ ⟨ρ,Hi,R,ou.bind.imp fun d Hi' H' e o v r=>?_⟩
  cases d with
  | bl c=>rw [r.blI];exact ⟨c,rfl,o.here e.s⟩
  | _=>exact o.elim
theorem zEm {T:List (Str×Str)} {ad:Addr} (t:IsTab X.K X.mg x T ad) (hg:Gl X x) (ha:PEd X G a f) (hm:behindInMarks .NotIn (.Name x p)=false) (hd:(x==("__debug__" : Str))=false:=by decide):PTd X G (.Compare a [.NotIn] [.Name x p] pos) (eX (eUn (mE T) f)):=
 zKw (zDj (zCo t) ha (zGc t hg hd) hm) zKm
theorem zJx {T:List (Str×Str)} {ad:Addr} (t:IsTab X.K X.mg x T ad) (hg:Gl X x) (hb:PEd X G b g) (hs:xZ b) (hd:(x==("__debug__" : Str))=false:=by decide):PEd X G (.Subscript (.Name x p) b pos) (eUn (wH T) g):=
 PE.wk (zAK (zII t) (zGc t hg hd) hb hs) fun σ H Q q=>by
  obtain ⟨ρ,Hi,R,ou⟩:=q
  refine xI R ou fun v d Hi1 H1 e1 R1 r1 o1=>?_
  cases d with
  | str k=>
   have o2:Out G Hi1 H1 (zKr (T.lookup k)) _:=o1
   cases z:T.lookup k with
   | none=>rw [z] at o2;exact o2.elim
   | some y=>rw [z] at o2;exact ⟨k,y,rfl,r1.strI,z,o2.here R1.s _ (.str _)⟩
  | _=>exact o1.elim
end
end L3
namespace L3
open PySem PySem.Spec PyProof.Rows L2
unseal PEd PEf PTd PWd PAd PSd cN POd PGd eK PId PSx iE PTs PCd PCf
section
variable {prog:Program} {w:World} {A:Around} {R:Result->Shared->Prop} {I:Addr} {fp wr:List Addr} {n:Nat} {P:Nat->Value->Prop} {St:Nat->Heap->Prop} {kw:List (Str×Value)}
def zHv (R:Result->Shared->Prop) (wr:List Addr) (S:Addr) (s:Shared) (P:Value->Prop):Prop:=
 ∀ v h' tk,P v->(∀ b o,b∉wr->b≠S->s.heap.get? b=some o->h'.get? b=some o)->R (.ok (.ret v)) { s with heap:=h',toks:=tk }
def zLy (s:Shared) (S:Addr) (vs:Array Value) (c:Nat):Prop:=s.heap.get? S=some { cls:=.type "list", dict:=none,data:=.seq vs c,slots:=#[] }
theorem zY:(toString "max" ++ toString ".loop" : String) = "max.loop" := by decide
theorem zGX (W:Walks prog w A.in1 I fp wr n P St) (bt:Nat->Nat->Bool) (hcmp:CmpOf prog w A.in1 .Gt P bt) (S:Addr) (hSf:S∉fp):
  ∀ (k j:Nat) (s:Shared) (vb:Value) (c:Nat),n - (j+1)=k->j+1<=n->St (j+1) s.heap->P (argBest bt j) vb->zLy s S #[vb,vb] c->zHv R wr S s (P (argBest bt (n - 1)))->
  codeAny (model prog w) A (.builtin "max.loop" ⟨[.ref I,.none,.ref S],kw⟩) R s:=by
 have hSw:S∉wr:=fun h=>hSf (W.sub _ h)
 intro k
 induction k with
 | zero=>
  intro j s vb c hk hj hst hPb hS hR
  have hin:j+1=n:=by omega
  refine codeAny_builtin F.entry_max_loop ?_;rw [Around.under_plainId F.plain_max_loop _]
  refine wpAny_bind (wpAny_seqItems hS rfl ?_)
  refine wpAny_bind (m:=tryCatch (pyNext (.ref I)) _) (wpAny_tryCatch (W.done s _ _ (hin ▸ hst) fun h' tk hk'=>?_))
  have hS':=hk' S _ hSw hS
  refine wpAny_bind (m:=updateSeq S (fun _=>#[])) (wpAny_updateSeq hS' rfl (wpAny_bind (wpAny_letGo (wpAny_pure ?_))))
  exact hR vb _ tk (by rw [<-hin];exact hPb) fun b o hbw hbS e=>(Heap.get?_update_other _ _ (Ne.symm hbS)).trans (hk' b o hbw e)
 | succ k ih=>
  intro j s vb c hk hj hst hPb hS hR
  have hlt:j+1 < n:=by omega
  refine codeAny_builtin F.entry_max_loop ?_;rw [Around.under_plainId F.plain_max_loop _]
  refine wpAny_bind (wpAny_seqItems hS rfl ?_)
  refine wpAny_bind (m:=tryCatch (pyNext (.ref I)) _) (wpAny_tryCatch (W.item (j+1) s _ _ hlt hst fun v h' tk hP hst' hk'=>?_))
  have hS':=hk' S _ hSw hS
  refine wpAny_bind (m:=tryCatch (holding [v,v] (richCompare .Gt v vb >>= _)) _) (wpAny_tryCatch (wpAny_holding (wpAny_bind (hcmp (j+1) (argBest bt j) v vb _ _ _ hP hPb ?_))))
  refine wpAny_bind (wpAny_holding (wpAny_truthy_bool (wpAny_bind (wpAny_letGo (wpAny_pure ?_)))))
  cases hb:bt (j+1) (argBest bt j) with
  | true=>
   simp only [if_true]
   refine wpAny_bind ?_;refine wpAny_updateSeq hS' rfl (wpAny_bind (wpAny_letGo ?_));rw [zY]
   refine wpAny_pure ⟨plainId_quiet F.plain_max_loop _,ih (j+1) _ v _ (by omega) hlt (W.frame _ _ _ hst' fun b hbf o e=>(Heap.get?_update_other _ _ (fun h:S=b=>hSf (by rw [h];exact hbf))).trans e) (by simp only [argBest,hb,if_true];exact hP) (Heap.get?_update_self _ hS' rfl) fun v' h'' tk'' hP' hk''=>?_⟩
   exact hR v' h'' tk'' hP' fun b o hbw hbS e=>hk'' b o hbw hbS ((Heap.get?_update_other _ _ (Ne.symm hbS)).trans (hk' b o hbw e))
  | false=>
   simp only [Bool.false_eq_true,if_false]
   refine wpAny_bind (wpAny_letGo ?_);rw [zY]
   exact wpAny_pure ⟨plainId_quiet F.plain_max_loop _,ih (j+1) _ vb c (by omega) hlt hst' (by simp only [argBest,hb,Bool.false_eq_true,if_false];exact hPb) hS' fun v' h'' tk'' hP' hk''=>hR v' h'' tk'' hP' fun b o hbw hbS e=>hk'' b o hbw hbS (hk' b o hbw e)⟩
theorem zEX (W:Walks prog w A.in1 I fp wr n P St) (bt:Nat->Nat->Bool) (hcmp:CmpOf prog w A.in1 .Gt P bt) (S:Addr) (hSf:S∉fp) (hn:0 < n) {s:Shared} {c:Nat} (hst:St 0 s.heap) (hS:zLy s S #[] c) (hR:zHv R wr S s (P (argBest bt (n - 1)))):
  codeAny (model prog w) A (.builtin "max.loop" ⟨[.ref I,.none,.ref S],kw⟩) R s:=by
 have hSw:S∉wr:=fun h=>hSf (W.sub _ h)
 refine codeAny_builtin F.entry_max_loop ?_;rw [Around.under_plainId F.plain_max_loop _]
 refine wpAny_bind (wpAny_seqItems hS rfl ?_)
 refine wpAny_bind (m:=tryCatch (pyNext (.ref I)) _) (wpAny_tryCatch (W.item 0 s _ _ hn hst fun v h' tk hP hst' hk'=>?_))
 have hS':=hk' S _ hSw hS
 refine wpAny_bind (m:=updateSeq S (fun _=>#[v,v])) (wpAny_updateSeq hS' rfl ?_);rw [zY]
 refine wpAny_pure ⟨plainId_quiet F.plain_max_loop _,zGX W bt hcmp S hSf _ 0 _ v _ rfl hn (W.frame _ _ _ hst' fun b hbf o e=>(Heap.get?_update_other _ _ (fun h:S=b=>hSf (by rw [h];exact hbf))).trans e) hP (Heap.get?_update_self _ hS' rfl) fun v' h'' tk'' hP' hk''=>?_⟩
 exact hR v' h'' tk'' hP' fun b o hbw hbS e=>hk'' b o hbw hbS ((Heap.get?_update_other _ _ (Ne.symm hbS)).trans (hk' b o hbw e))
theorem zHs {x:Str} {d:Value} (W:Walks prog w A.in1 I fp wr 0 P St) (S:Addr) (hSf:S∉fp) {s:Shared} {c:Nat} (hst:St 0 s.heap) (hS:zLy s S #[] c) (hR:zHv R wr S s (·=d)):
  codeAny (model prog w) A (.builtin "max.loop" ⟨[.ref I,.none,.ref S],[(x,d)]⟩) R s:=by
 refine codeAny_builtin F.entry_max_loop ?_;rw [Around.under_plainId F.plain_max_loop _]
 refine wpAny_bind (wpAny_seqItems hS rfl ?_)
 refine wpAny_bind (m:=tryCatch (pyNext (.ref I)) _) (wpAny_tryCatch (W.done s _ _ hst fun h' tk hk'=>?_))
 exact wpAny_bind (wpAny_rule (wpAny_pure (hR d h' tk rfl fun b o hbw _ e=>hk' b o hbw e)))
end
section
variable {X:Cx} {G:Gx} {a c:Expr} {pos p kp:Pos} {f g:Ev}
theorem zCH (num:Nat->Int):∀ k,num (argBest (fun i j=>decide (num i > num j)) k)=rQ (num 0) ((List.range k).map fun i=>num (i+1))
 | 0=>rfl
 | k+1=>by
  rw [List.range_succ,List.map_append]
  have app:∀ (l:List Int) (a b:Int),rQ a (l++[b])=if b > rQ a l then b else rQ a l:=by
   intro l
   induction l with
   | nil=>intro a b;rfl
   | cons x r ih=>intro a b;rw [List.cons_append,rQ,ih,rQ]
  rw [List.map_singleton,app,<-zCH num k]
  show num (if decide (num (k+1) > num (argBest _ k))=true then k+1 else argBest _ k)=_
  by_cases h:num (k+1) > num (argBest (fun i j=>decide (num i > num j)) k)
  ·rw [if_pos (decide_eq_true h),if_pos h]
  ·rw [if_neg (by simp [h]),if_neg h]
theorem xO (m:Int) (ns:List Int):(m::ns).getD (argBest (fun i j=>decide ((m::ns).getD i 0 > (m::ns).getD j 0)) ns.length) 0=rQ m ns:=by
 rw [zCH (fun i=>(m::ns).getD i 0) ns.length]
 show rQ m _=_
 congr 1
 refine List.ext_getElem? fun i=>?_
 rw [List.getElem?_map]
 by_cases h:i < ns.length
 ·rw [List.getElem?_range h,List.getElem?_eq_getElem h]
  show some ((m::ns).getD (i+1) 0)=_
  rw [List.getD_cons_succ,List.getD_eq_getElem?_getD,List.getElem?_eq_getElem h];rfl
 ·rw [List.getElem?_eq_none (by rw [List.length_range];omega),List.getElem?_eq_none (by omega)];rfl
def zLS (d:Int):List Int->Int
 | []=>d
 | m::r=>rQ m r
def zIz (K:PySem.W.Frag):R2:=fun x y H Q=>∃ (ad:Addr) (d:Int) (ns:List Int),x=.ref ad/\y=.int d/\SqL K H ad (ns.map V.int)/\Q (.int (zLS d ns)) H
theorem zCR (x v:Value):argsOk "max" ⟨[x],[(Str.ofString "default", v)]⟩:=by unfold argsOk;kernel_rfl
theorem zDg (hc:X.calm=true) {pins:List (Addr×Obj)} {s:Shared} {σ:St} {H:Hp} {ad:Addr} {d:Int} {t:Tok} {ns:List Int} {Q:VK} (I:Inv X pins σ H s) (hq:SqL X.K H ad (ns.map V.int)) (q:Q (.int (zLS d ns)) H):
  wpAny (model X.prog X.w) X.A (call (.builtin "max") [.ref ad] [(Str.ofString "default", .int d t)]) (EP X pins σ Q) X.xe s:=by
 have hh:=I.ok.hd hc
 obtain ⟨its,rv,p,hz⟩:=I.list hq
 have hlt:ad < s.heap.objs.size:=by obtain ⟨_,e,_⟩:=p.isList;exact Heap.lt_size e
 have hl:=rv.length
 rw [List.length_map] at hl
 refine kmk_tree F.kind_max F.plain_max F.entry_max (zCR _ _) ?_
 refine wpAny_bind (m:=Builtin.Builtins.bindParams "max" ["key", "default"] 0 ⟨[],[(Str.ofString "default", .int d t)]⟩) (wpAny_of_eq (a:=[none,some (.int d t)]) (by first | rfl | kernel_rfl) ?_)
 refine wpAny_bind (wpAny_pure ?_)
 refine wpAny_bind (wpAny_pyIter_list p.isList ?_)
 refine wpAny_bind (wpAny_newObj_type ?_)
 rw [zY]
 refine wpAny_pure ⟨plainId_quiet F.plain_max_loop _,?_⟩
 have W:=Walks.list (prog:=X.prog) (w:=X.w) (A:=X.A.in1) hh s.heap.objs.size ad (Nat.ne_of_lt hlt) its.toArray
 have hSf:(s.heap.push { cls:=.type "list_iterator", data:=.fields #[.ref ad,.int 0 0] }).objs.size∉[s.heap.objs.size,ad]:=by
  rw [Heap.size_push]
  intro z
  rcases List.mem_cons.mp z with z | z
  ·exact Nat.succ_ne_self _ z
  ·exact Nat.lt_irrefl _ (Nat.lt_of_le_of_lt (Nat.le_of_eq (List.mem_singleton.mp z)) (Nat.lt_succ_of_lt hlt))
 have keep:∀ {h':Heap} {b:Addr} {o:Obj},(∀ b o,b∉[s.heap.objs.size]->b≠(s.heap.push { cls:=.type "list_iterator", data:=.fields #[.ref ad,.int 0 0] }).objs.size->((s.heap.push { cls:=.type "list_iterator", data:=.fields #[.ref ad,.int 0 0] }).push { cls:=.type "list", data:=.seq #[] }).get? b=some o->h'.get? b=some o)->s.heap.get? b=some o->h'.get? b=some o:=fun {h' b o} hk e=>by
  have l:=Heap.lt_size e
  refine hk b o (fun z=>?_) (fun z=>?_) (Heap.get?_push_of_some _ (Heap.get?_push_of_some _ e))
  ·rw [List.mem_singleton.mp z] at l;exact Nat.lt_irrefl _ l
  ·rw [z,Heap.size_push] at l;exact Nat.lt_irrefl _ (Nat.lt_of_succ_lt l)
 have hst:((s.heap.push { cls:=.type "list_iterator", data:=.fields #[.ref ad,.int 0 0] }).push { cls:=.type "list", data:=.seq #[] }).IsListIter s.heap.objs.size ad 0/\((s.heap.push { cls:=.type "list_iterator", data:=.fields #[.ref ad,.int 0 0] }).push { cls:=.type "list", data:=.seq #[] }).IsList ad its.toArray:=
  ⟨⟨_,Heap.get?_push_of_some _ (Heap.get?_push_size _ rfl),rfl,rfl⟩,(p.isList.push _).push _⟩
 cases ns with
 | nil=>
  have e0:its=[]:=List.eq_nil_of_length_eq_zero (by rw [<-hl];rfl)
  subst e0
  exact zHs W _ hSf hst (Heap.get?_push_size _ rfl) fun v h' tk hv hk=>⟨.int d,H,I.kept (t':=tk) fun b o e=>keep hk e,⟨t,hv⟩,q⟩
 | cons m r=>
  refine zEX W (fun i j=>decide ((m::r).getD i 0 > (m::r).getD j 0)) (CmpOf.ints_gt _ fun i v hv=>tN rv (by simpa using hv)) _ hSf (by rw [List.size_toArray,<-hl];exact Nat.succ_pos _) hst (Heap.get?_push_size _ rfl) fun v h' tk hv hk=>?_
  obtain ⟨t',rfl⟩:=tN rv (i:=argBest (fun i j=>decide ((m::r).getD i 0 > (m::r).getD j 0)) (its.toArray.size - 1)) (by simpa using hv)
  refine ⟨.int (rQ m r),H,I.kept (t':=tk) fun b o e=>keep hk e,⟨t',?_⟩,q⟩
  rw [List.size_toArray,<-hl,List.length_cons,Nat.add_sub_cancel,xO]
theorem zGK {ta tb:TE} (hc:X.calm=true) (hg:Gl X "max") (hm:X.mg "max" = none) (ha:PE X a ta) (hb:PE X c tb) (hs:starEach [a] X.env=(false,eval a X.env)::starEach [] X.env:=by rfl):
  PE X (.Call (.Name "max" p) [a] [⟨some "default", c,kp⟩] pos) (tOp (zIz X.K) ta tb):=by
 intro pins s σ H Q I h
 refine wpAny_Call_Name_kw (jT I hg hm boot_max ?_ (by decide) (by decide))
 refine callWith_kw (thn ((gB ha lP hs) pos pins s σ H (fun vs H1=>match vs with | [x]=>tb σ H1 fun y H2=>zIz X.K x y H2 Q | _=>False) I h) fun us s1 ⟨vs,H1,I1,r1,q1⟩=>?_) (by rw [hs];rfl) (by rw [hs];rfl)
 match vs,r1,q1 with
 | [x],r1,q1=>
  obtain ⟨u,rfl,ru⟩:=wY r1
  refine kws_cons (thn (hb pins s1 σ H1 _ I1 q1) fun v s2 ⟨y,H2,I2,r2,q2⟩=>kws_nil ?_)
  obtain ⟨ad,d,ns,rfl,rfl,hq,q⟩:=q2
  cases ru
  obtain ⟨t,rfl⟩:=r2
  exact zDg hc I2 hq q
theorem zGr (hc:X.calm=true) (hg:Gl X "max") (hm:X.mg "max" = none) (ha:PEd X G a f) (hb:PEd X G c g) (hs:starEach [a] X.env=(false,eval a X.env)::starEach [] X.env:=by rfl):
  PEd X G (.Call (.Name "max" p) [a] [⟨some "default", c,kp⟩] pos) (eOp (fun x y=>yN [x,y]) f g):=PE.wk (zGK hc hg hm ha hb hs) (op2 ⟨fun a b c z=>(by
  replace z:yN [a,b]=_:=z
  unfold yN at z
  split at z
  ·split at z<;>cases z
  ·cases z),fun Hi H x y a b d Q s r1 r2 z q=>by
  replace z:yN [a,b]=_:=z
  unfold yN at z
  split at z
  ·rename_i ds d' he
   cases he
   obtain ⟨ad,xs,rfl,h1,h2⟩:=r1.lstI
   split at z
   ·rename_i m ns hns
    cases z
    have e:=gD h2 hns
    subst e
    exact ⟨ad,_,_,rfl,r2.intI,bS s h1,q _ Hi H (Ext.refl s) (.int _)⟩
   ·rename_i hns
    cases z
    have e:=gD h2 hns
    subst e
    exact ⟨ad,_,[],rfl,r2.intI,bS s h1,q _ Hi H (Ext.refl s) (.int _)⟩
   ·cases z
  ·cases z⟩)
end
end L3
namespace L3
open PySem PySem.Spec PyProof.Rows L2
unseal PEd PEf PTd PWd PAd PSd cN POd PGd eK PId PSx iE PTs PCd PCf
section
variable {X:Cx} {G:Gx} {e:Expr} {pos:Pos} {f:Ev}
end
end L3
namespace L2
open PySem PySem.Spec PyProof.Rows
section
variable {κ:Type} [DecidableEq κ]
end
abbrev KT (H:Hp):List (List Key×V)->List (List Key×Addr×Value)->Prop:=Paired fun p q=>p.1=q.1/\H q.2.1=some (.tup (p.1.map kV))/\bW p.2 q.2.2
section
variable {P:Program} {w:World} {H:Hp} {h:Heap} {a:Addr}
end
section
variable {X:Cx} {pins:List (Addr×Obj)} {σ:St} {H:Hp} {s:Shared} {a:Addr} {y v:V} {u r:Value} {o:Option V} {A:Around} {E:Value->Shared->Prop}
end
section
variable {X:Cx} {pins:List (Addr×Obj)} {σ:St} {H:Hp} {s:Shared} {a:Addr} {kvs:List (Key×V)} {k:Key} {u:Value} {A:Around} {E:Value->Shared->Prop}
end
section
variable {X:Cx} {o i e value:Expr} {pos pos' tpos:Pos} {td ty tv:TE}
end
section
variable {X:Cx} {pos:Pos}
end
end L2
namespace L3
open PySem PySem.Spec PyProof.Rows L2
unseal PEd PEf PTd PWd PAd PSd cN POd PGd eK PId PSx iE PTs PCd PCf
section
variable {X:Cx} {G:Gx} {a b c e:Expr} {pos p2 p:Pos} {f g h:Ev} {fs:Fv} {x:Str}
end
end L3
namespace L3
open PySem PySem.Spec PyProof.Rows L2
def itN (k:Bool):String:=if k then "list_iterator" else "tuple_iterator"
def oR (k:Bool) (h:Heap) (it l:Addr) (i:Nat):Prop:=if k then h.IsListIter it l i else h.IsTupleIter it l i
def gC (k:Bool) (h:Heap) (l:Addr) (xs:Array Value):Prop:=if k then h.IsList l xs else h.IsTuple l xs
theorem oR.get {k:Bool} {h:Heap} {it l:Addr} {i:Nat} (x:oR k h it l i):∃ o,h.get? it=some o/\o.cls=.type (itN k)/\o.data=.fields #[.ref l,.int i 0]:=by
 cases k<;>(obtain ⟨o,a,b,c⟩:=x;exact ⟨o,a,b,c⟩)
theorem oR.mk {k:Bool} {h:Heap} {it l:Addr} {i:Nat} {o:Obj} (a:h.get? it=some o) (b:o.cls=.type (itN k)) (c:o.data=.fields #[.ref l,.int i 0]):oR k h it l i:=by
 cases k<;>exact ⟨o,a,b,c⟩
theorem oR.go {k:Bool} {h h':Heap} {it l:Addr} {i:Nat} (x:oR k h it l i) (g:∀ o,h.get? it=some o->h'.get? it=some o):oR k h' it l i:=by
 obtain ⟨o,a,b,c⟩:=x.get
 exact .mk (g o a) b c
theorem gC.go {k:Bool} {h h':Heap} {l:Addr} {xs:Array Value} (x:gC k h l xs) (g:∀ o,h.get? l=some o->h'.get? l=some o):gC k h' l xs:=by
 cases k<;>(obtain ⟨o,a,b⟩:=x;exact ⟨o,g o a,b⟩)
section
variable {prog:Program} {w:World} {A:Around} {E:Value->Shared->Prop} {s:Shared}
theorem jX {k:Bool} {l:Addr} {xs:Array Value} {Q:Value->Shared->Prop} (hl:gC k s.heap l xs) (hQ:Q (.ref s.heap.objs.size) { s with heap:=s.heap.push { cls:=.type (itN k),data:=.fields #[.ref l,.int 0 0] } }):
  wpAny (model prog w) A (pyIter (.ref l)) Q E s:=by
 cases k
 ·exact wpAny_pyIter_tuple hl hQ
 ·exact wpAny_pyIter_list hl hQ
theorem nxT {it t:Addr} {i:Nat} {items:Array Value} {Q:Value->Shared->Prop} (hh:A.handled=none∨(items[i]?).isSome=true) (x:s.heap.IsTupleIter it t i) (y:s.heap.IsTuple t items)
  (go:∀ v,items[i]?=some v->∀ h2,h2.IsTupleIter it t (i+1)->Heap.SameBut it s.heap h2->Q v { s with heap:=h2 })
  (stop:items[i]?=none->∀ h2 e,Heap.ExtBut it s.heap h2->(∃ ob,h2.get? e=some ob/\ob.cls=.type "StopIteration")->E (.ref e) { s with heap:=h2 }):wpAny (model prog w) A (Builtin.SmallTypes.nextOf (.ref it)) Q E s:=by
 obtain ⟨oi,ei,ci,di⟩:=id x
 obtain ⟨ot,et,_,nt,dt⟩:=y
 have nn:¬ ((Value.ref t==Value.none)=true):=Bool.false_ne_true
 unfold Builtin.SmallTypes.nextOf
 refine wpAny_bind (wpAny_callSpecial?_slot (name:=Str.ofString "__next__") x.typeIs F.slot_tuple_iterator_next (wpAny_call_entry F.slot_tuple_iterator_next x.typeIs F.entry_tuple_iterator_next (show wpAny _ _ (field _ 0 >>= _) _ _ s from wpAny_bind (wpAny_field ei di (x:=.ref t) rfl ?_)) (F.args_tuple_iterator_next_1 _)))
 show wpAny _ _ (ite ((Value.ref t==Value.none)=true) _ _) _ _ s
 rw [if_neg nn]
 refine show wpAny _ _ (field _ 1 >>= _) _ _ s from wpAny_bind (wpAny_field ei di (x:=.int i 0) rfl (show wpAny _ _ (seqItems? _ >>= _) _ _ s from wpAny_bind (wpAny_seqItems et dt ?_)))
 have fr:∀ g:Array Value->Array Value,Heap.get? (s.heap.update it (Obj.mapFields g)) it=some (Obj.mapFields g oi):=fun g=>Heap.get?_update_self _ ei (Obj.isFreed_of_fields (Obj.data_mapFields di g))
 cases q:items[i]? with
 | some v=>
  simp only [Int.toNat_natCast,q]
  refine wpAny_bind (wpAny_setField ei di (by simp) (wpAny_pure ⟨v,rfl,wpAny_pure (go v q _ ⟨_,fr _,(Obj.cls_mapFields ..).trans ci,?_⟩ (Heap.SameBut.update ..))⟩))
  rw [Obj.data_mapFields di]
  simp [rawInt]
 | none=>
  have hh:A.handled=none:=hh.elim id fun z=>by rw [q] at z;cases z
  simp only [Int.toNat_natCast,q]
  refine wpAny_bind (wpAny_rule (wpAny_bind (wpAny_setField ei di (by simp) (show wpAny _ _ (newExc _ [] >>= _) _ _ _ from wpAny_bind ?_))))
  simp only [newExc,newTuple]
  refine wpAny_bind (wpAny_newObj_type (wpAny_bind (m:=firstArgMember _ _) (wpAny_of_eq (a:=Value.none) (by first | rfl | (simp only [firstArgMember];rfl)) (wpAny_newObj_type ?_ (by size_fits)))) (by size_fits))
  simp only [raiseNew]
  refine wpAny_bind (wpAny_handled ?_)
  rw [show A.in1.handled=none from hh]
  exact wpAny_bind (wpAny_pure (wpAny_throw (stop q _ _ (((Heap.SameBut.update ..).extBut.push _).push _) ⟨_,Heap.get?_push_size _ rfl,rfl⟩)))
theorem lZ {k:Bool} {it t:Addr} {i:Nat} {items:Array Value} {x:Value} {Q:Value->Shared->Prop} (hit:oR k s.heap it t i) (ht:gC k s.heap t items) (hx:items[i]?=some x)
  (hQ:∀ h',oR k h' it t (i+1)->Heap.SameBut it s.heap h'->Q x { s with heap:=h' }):wpAny (model prog w) A (Builtin.SmallTypes.nextOf (.ref it)) Q E s:=by
 cases k
 ·exact nxT (.inr (by rw [hx];rfl)) hit ht (fun v q h2 g1 g2=>by rw [hx] at q;cases q;exact hQ h2 g1 g2) fun q=>by rw [hx] at q;cases q
 ·exact wpAny_nextOf_list_item hit ht hx hQ
theorem pH {k:Bool} {it t:Addr} {i:Nat} {items:Array Value} {Q:Value->Shared->Prop} (hh:A.handled=none) (hit:oR k s.heap it t i) (ht:gC k s.heap t items) (hx:items[i]?=none)
  (hE:∀ h' e,Heap.ExtBut it s.heap h'->(∃ o,h'.get? e=some o/\o.cls=.type "StopIteration")->E (.ref e) { s with heap:=h' }):wpAny (model prog w) A (Builtin.SmallTypes.nextOf (.ref it)) Q E s:=by
 cases k
 ·exact nxT (.inl hh) hit ht (fun v q=>by rw [hx] at q;cases q) fun _=>hE
 ·exact wpAny_nextOf_list_end hh hit ht hx hE
theorem zKx {k:Bool} (hh:A.handled=none) (it l:Addr) (hne:l≠it) (items:Array Value):Draws prog w A it [it,l] items.size (fun i v=>items[i]?=some v) (fun i h=>oR k h it l i/\gC k h l items) where
 live:=fun _ _ st=>let ⟨o,ho,_⟩:=st.1.get;⟨o,ho⟩
 frame:=fun _ _ _ st hk=>⟨st.1.go fun o e=>hk it (by simp) o e,st.2.go fun o e=>hk l (by simp) o e⟩
 item:=fun i s Q E hi st hQ=>by
  refine lZ st.1 st.2 (x:=items[i]) (by simp [hi]) fun h' hit' hs'=>?_
  exact hQ _ h' s.toks (by simp [hi]) ⟨hit',st.2.go fun o e=>hs'.extBut _ o hne e⟩ hs'
 done:=fun s Q E st hE=>pH hh st.1 st.2 (by simp) hE
def qQ (f0:Value) (k1 k2:Bool) (l1 l2 n:Addr) (j1 j2:Nat) (h:Heap):Prop:=
 IsZip h (n+4) (n+2) (n+3) f0/\IsPair h (n+2) (.ref n) (.ref (n+1))/\(∃ a b,IsPair h (n+3) a b)/\oR k1 h n l1 j1/\oR k2 h (n+1) l2 j2
def kD (n:Addr) (h h2:Heap):Prop:=∀ c o,c≠n+4->c≠n+3->c≠n->c≠n+1->h.get? c=some o->h2.get? c=some o
theorem kD.then {n:Addr} {h h1 h2:Heap} (a:kD n h h1) (b:kD n h1 h2):kD n h h2:=fun c o c1 c2 c3 c4 e=>b c o c1 c2 c3 c4 (a c o c1 c2 c3 c4 e)
theorem kD.eb {n a:Addr} {h h2:Heap} (k:Heap.ExtBut a h h2) (m:a=n+4∨a=n+3∨a=n∨a=n+1):kD n h h2:=fun c o c1 c2 c3 c4 e=>k c o (fun z=>by subst z;rcases m with m | m | m | m<;>contradiction) e
theorem kD.sq {k:Bool} {n l:Addr} {h h2:Heap} {xs:Array Value} (a:kD n h h2) (hl:l < n) (x:gC k h l xs):gC k h2 l xs:=
 x.go fun o e=>a l o (Nat.ne_of_lt (Nat.lt_add_right 4 hl)) (Nat.ne_of_lt (Nat.lt_add_right 3 hl)) (Nat.ne_of_lt hl) (Nat.ne_of_lt (Nat.lt_succ_of_lt hl)) e
theorem zFh (n:Addr):n+3≠n+4/\n+2≠n+4/\n≠n+4/\n+1≠n+4/\n+2≠n+3/\n≠n+3/\n+1≠n+3/\n+2≠n/\n+1≠n/\n+2≠n+1:=by
 refine ⟨?_,?_,?_,?_,?_,?_,?_,?_,?_,?_⟩<;>(intro z;have z':(_:Nat)=_:=z;omega)
theorem qQ.fld {f0:Value} {k1 k2:Bool} {l1 l2 n:Addr} {j1 j2:Nat} {h h2:Heap} (g:qQ f0 k1 k2 l1 l2 n j1 j2 h) {f1:Value} (z:IsZip h2 (n+4) (n+2) (n+3) f1) (s:Heap.ExtBut (n+4) h h2):qQ f1 k1 k2 l1 l2 n j1 j2 h2:=by
 obtain ⟨_,g2,⟨a,b,g3⟩,g4,g5⟩:=g
 obtain ⟨e1,e2,e3,e4,_⟩:=zFh n
 exact ⟨z,s _ _ e2 g2,⟨a,b,s _ _ e1 g3⟩,g4.go fun o e=>s _ o e3 e,g5.go fun o e=>s _ o e4 e⟩
theorem qQ.it1 {f0:Value} {k1 k2:Bool} {l1 l2 n:Addr} {j1 j2 m:Nat} {h h2:Heap} (g:qQ f0 k1 k2 l1 l2 n j1 j2 h) (z:oR k1 h2 n l1 m) (s:Heap.ExtBut n h h2):qQ f0 k1 k2 l1 l2 n m j2 h2:=by
 obtain ⟨g1,g2,⟨a,b,g3⟩,_,g5⟩:=g
 obtain ⟨e1,e2,e3,e4,e5,e6,e7,e8,e9,_⟩:=zFh n
 exact ⟨s _ _ e3.symm g1,s _ _ e8 g2,⟨a,b,s _ _ e6.symm g3⟩,z,g5.go fun o e=>s _ o e9 e⟩
theorem qQ.it2 {f0:Value} {k1 k2:Bool} {l1 l2 n:Addr} {j1 j2 m:Nat} {h h2:Heap} (g:qQ f0 k1 k2 l1 l2 n j1 j2 h) (z:oR k2 h2 (n+1) l2 m) (s:Heap.ExtBut (n+1) h h2):qQ f0 k1 k2 l1 l2 n j1 m h2:=by
 obtain ⟨g1,g2,⟨a,b,g3⟩,g4,_⟩:=g
 obtain ⟨e1,e2,e3,e4,e5,e6,e7,e8,e9,e10⟩:=zFh n
 exact ⟨s _ _ e4.symm g1,s _ _ e10 g2,⟨a,b,s _ _ e7.symm g3⟩,g4.go fun o e=>s _ o e9.symm e,z⟩
theorem qQ.out {f0 a b:Value} {k1 k2:Bool} {l1 l2 n:Addr} {j1 j2:Nat} {h h2:Heap} (g:qQ f0 k1 k2 l1 l2 n j1 j2 h) (z:IsPair h2 (n+3) a b) (s:Heap.ExtBut (n+3) h h2):qQ f0 k1 k2 l1 l2 n j1 j2 h2:=by
 obtain ⟨g1,g2,_,g4,g5⟩:=g
 obtain ⟨e1,e2,e3,e4,e5,e6,e7,_⟩:=zFh n
 exact ⟨s _ _ e1.symm g1,s _ _ e5 g2,⟨a,b,z⟩,g4.go fun o e=>s _ o e6 e,g5.go fun o e=>s _ o e7 e⟩
theorem zMs {k1 k2:Bool} {n l1 l2:Addr} {j:Nat} {xs ys:Array Value} {Q:PySem.Fin->Shared->Prop} (hh:A.handled=none) (b1:l1 < n) (b2:l2 < n) (g:qQ .none k1 k2 l1 l2 n j j s.heap) (d1:gC k1 s.heap l1 xs) (d2:gC k2 s.heap l2 ys)
  (go:∀ x y,xs[j]?=some x->ys[j]?=some y->∀ h2,qQ (rawInt s.heap.objs.size) k1 k2 l1 l2 n (j+1) (j+1) h2->IsPair h2 s.heap.objs.size x y->kD n s.heap h2->Q (.done (.ret (.ref s.heap.objs.size))) { s with heap:=h2 })
  (stop:xs[j]?=none∨ys[j]?=none->∀ h2 e,kD n s.heap h2->(∃ o,h2.get? e=some o/\o.cls=.type "StopIteration")->E (.ref e) { s with heap:=h2 }):
  wpAny (model prog w) A (Builtin.«zip.__next__» ⟨[.ref (n+4)],[]⟩) Q E s:=by
 have stopZ:∀ {h1:Heap} {e:Addr} {v:Value} {k:Nat} {R:Unit->Shared->Prop},(xs[j]?=none∨ys[j]?=none)->kD n s.heap h1->IsZip h1 (n+4) (n+2) (n+3) .ellipsis->(∃ o,h1.get? e=some o/\o.cls=.type "StopIteration")->k < 5->
   (∀ h3,kD n s.heap h3->(∃ o,h3.get? e=some o/\o.cls=.type "StopIteration")->R () { s with heap:=h3 })->wpAny (model prog w) A (setField (.ref (n+4)) k v) R E { s with heap:=h1 }:=by
  intro h1 e v k R q kz z he hk fin
  obtain ⟨oe,e1,e2⟩:=he
  have nz:e≠n+4:=fun y=>by subst y;rw [z] at e1;cases e1;simp at e2
  exact wpAny_setField_rec z (by simpa using hk) fun h3 _ s3=>fin h3 (kz.then (.eb s3.extBut (.inl rfl))) ⟨oe,s3.extBut _ _ nz e1,e2⟩
 obtain ⟨z0,t0,⟨a,b,p0⟩,_⟩:=id g
 refine show wpAny _ _ (field _ 2 >>= _) _ _ s from wpAny_bind (wpAny_field z0 rfl (x:=.bool false) rfl (show wpAny _ _ (field _ 3 >>= _) _ _ s from wpAny_bind (wpAny_field z0 rfl (x:=.ref (n+2)) rfl (wpAny_bind (wpAny_seqItems t0 rfl (wpAny_bind ?_))))))
 unfold Builtin.SmallTypes.ownedTupleIsFree
 refine wpAny_bind (wpAny_field z0 rfl (x:=.none) rfl (wpAny_pure ?_))
 simp only [if_true]
 refine wpAny_bind (wpAny_rule (wpAny_bind (wpAny_field z0 rfl (x:=.ref (n+3)) rfl (wpAny_bind (wpAny_setField_rec z0 (by simp) fun h1 z1 s1=>wpAny_bind ?_)))))
 have g1:qQ .ellipsis k1 k2 l1 l2 n j j h1:=g.fld z1 s1.extBut
 have k1':kD n s.heap h1:=.eb s1.extBut (.inl rfl)
 simp only [List.zipIdx_cons,List.zipIdx_nil,List.forIn_cons,List.forIn_nil]
 refine wpAny_bind (wpAny_bind (wpAny_onRaise (show wpAny _ _ (Builtin.SmallTypes.nextOf _ >>= _) _ _ _ from wpAny_bind ?_)))
 cases q1:xs[j]? with
 | none=>
  refine pH (s:={ s with heap:=h1 }) hh g1.2.2.2.1 (k1'.sq b1 d1) q1 fun h2 e x2 he=>stopZ (.inl q1) (k1'.then (.eb x2 (.inr (.inr (.inl rfl))))) (x2 _ _ (zFh n).2.2.1.symm g1.1) he (by decide) fun h3=>stop (.inl q1) h3 e
 | some x=>
  refine lZ (s:={ s with heap:=h1 }) g1.2.2.2.1 (k1'.sq b1 d1) q1 fun h2 i2 s2=>wpAny_pure ?_
  have g2:=g1.it1 i2 s2.extBut
  have k2':=k1'.then (.eb s2.extBut (.inr (.inr (.inl rfl))))
  have p2:IsPair h2 (n+3) a b:=s2.extBut _ _ (zFh n).2.2.2.2.2.1.symm (s1.extBut _ _ (zFh n).1 p0)
  refine wpAny_bind (wpAny_seqItems (s:={ s with heap:=h2 }) p2 rfl (wpAny_bind (wpAny_updateSeq_pair p2 fun h3 p3 s3=>wpAny_bind (wpAny_letGo (wpAny_pure ?_)))))
  have g3:=g2.out p3 s3.extBut
  have k3':=k2'.then (.eb s3.extBut (.inr (.inl rfl)))
  refine wpAny_bind (wpAny_bind (wpAny_onRaise (show wpAny _ _ (Builtin.SmallTypes.nextOf _ >>= _) _ _ _ from wpAny_bind ?_)))
  cases q2:ys[j]? with
  | none=>
   refine pH (s:={ s with heap:=h3 }) hh g3.2.2.2.2 (k3'.sq b2 d2) q2 fun h4 e x4 he=>stopZ (.inr q2) (k3'.then (.eb x4 (.inr (.inr (.inr rfl))))) (x4 _ _ (zFh n).2.2.2.1.symm g3.1) he (by decide) fun h5=>stop (.inr q2) h5 e
  | some y=>
   refine lZ (s:={ s with heap:=h3 }) g3.2.2.2.2 (k3'.sq b2 d2) q2 fun h4 i4 s4=>wpAny_pure ?_
   have g4:=g3.it2 i4 s4.extBut
   have p4:IsPair h4 (n+3) x b:=s4.extBut _ _ (zFh n).2.2.2.2.2.2.1.symm p3
   refine wpAny_bind (wpAny_seqItems (s:={ s with heap:=h4 }) p4 rfl (wpAny_bind (wpAny_updateSeq_pair p4 fun h5 p5 s5=>wpAny_bind (wpAny_letGo (wpAny_pure (wpAny_pure ?_))))))
   have p5:IsPair h5 (n+3) x y:=p5
   have g5:=g4.out p5 s5.extBut
   have k5':=(k3'.then (.eb s4.extBut (.inr (.inr (.inr rfl))))).then (.eb s5.extBut (.inr (.inl rfl)))
   have sz:h5.objs.size=s.heap.objs.size:=s5.1.trans (s4.1.trans (s3.1.trans (s2.1.trans s1.1)))
   refine wpAny_bind (wpAny_seqItems (s:={ s with heap:=h5 }) p5 rfl (wpAny_bind (wpAny_newTuple (show wpAny _ _ (Builtin.SmallTypes.ownedTupleHandOut _ (.ref h5.objs.size) >>= _) _ _ _ from wpAny_bind ?_))))
   unfold Builtin.SmallTypes.ownedTupleHandOut
   refine wpAny_bind (wpAny_setField_rec (Heap.get?_push_of_some _ g5.1) (by simp) fun h7 z7 s7=>wpAny_setField_rec z7 (by simp) fun h8 z8 s8=>wpAny_pure ?_)
   have nz:h5.objs.size≠n+4:=Nat.ne_of_gt (Heap.lt_size g5.1)
   have x8:Heap.ExtBut (n+4) h5 h8:=fun c o c1 e=>s8.extBut _ _ c1 (s7.extBut _ _ c1 (Heap.get?_push_of_some _ e))
   have g8:qQ (rawInt h5.objs.size) k1 k2 l1 l2 n (j+1) (j+1) h8:=g5.fld z8 x8
   have t8:IsPair h8 h5.objs.size x y:=s8.extBut _ _ nz (s7.extBut _ _ nz (Heap.get?_push_size _ rfl))
   rw [sz] at g8 t8
   show Q (.done (.ret (.ref h5.objs.size))) _
   rw [sz]
   exact go x y q1 q2 h8 g8 t8 (k5'.then (.eb x8 (.inl rfl)))
theorem zMd {k1 k2:Bool} {n l1 l2:Addr} {j:Nat} {xs ys:Array Value} {Q:Option Value->Shared->Prop} (hh:A.handled=none) (b1:l1 < n) (b2:l2 < n) (g:qQ .none k1 k2 l1 l2 n j j s.heap) (d1:gC k1 s.heap l1 xs) (d2:gC k2 s.heap l2 ys)
  (go:∀ x y,xs[j]?=some x->ys[j]?=some y->∀ h2,qQ (rawInt s.heap.objs.size) k1 k2 l1 l2 n (j+1) (j+1) h2->IsPair h2 s.heap.objs.size x y->kD n s.heap h2->Q (some (.ref s.heap.objs.size)) { s with heap:=h2 })
  (stop:xs[j]?=none∨ys[j]?=none->∀ h2,kD n s.heap h2->Q none { s with heap:=h2 }):wpAny (model prog w) A (pyNext (.ref (n+4))) Q E s:=by
 have ty:s.TypeIs (.ref (n+4)) "zip" := ⟨_,g.1,rfl⟩
 unfold pyNext
 refine wpAny_bind (wpAny_attempt (wpAny_callSpecial?_slot (name:=Str.ofString "__next__") ty F.slot_zip_next (wpAny_call_entry F.slot_zip_next ty F.entry_zip_next
  (zMs hh b1 b2 g d1 d2 (fun x y q1 q2 h2 a1 a2 a3=>⟨_,rfl,wpAny_pure (go x y q1 q2 h2 a1 a2 a3)⟩) fun q h2 e k he=>?_) (F.args_zip_next_1 _))))
 obtain ⟨o,eo,co⟩:=he
 exact wpAny_bind (wpAny_isInstance (T := "StopIteration") (b:=true) ⟨o,eo,co⟩ isSubtype_stop (wpAny_pure (stop q h2 k)))
end
abbrev zO (k:Bool) (l:Addr):Obj:={ cls:=.type (itN k),data:=.fields #[.ref l,.int 0 0] }
abbrev zH2 (k1 k2:Bool) (h:Heap) (l1 l2:Addr):Heap:=(h.push (zO k1 l1)).push (zO k2 l2)
abbrev zH3 (k1 k2:Bool) (h:Heap) (l1 l2:Addr):Heap:=(zH2 k1 k2 h l1 l2).push { cls:=.type "tuple", data:=.seq #[.ref h.objs.size,.ref (h.push (zO k1 l1)).objs.size] }
abbrev zH4 (k1 k2:Bool) (h:Heap) (l1 l2:Addr):Heap:=(zH3 k1 k2 h l1 l2).push { cls:=.type "tuple", data:=.seq #[.none,.none] }
abbrev zH5 (k1 k2:Bool) (h:Heap) (l1 l2:Addr):Heap:=(zH4 k1 k2 h l1 l2).push { cls:=.type "zip", data:=.fields #[.none,.bool false,.bool false,.ref (zH2 k1 k2 h l1 l2).objs.size,.ref (zH3 k1 k2 h l1 l2).objs.size] }
theorem zEd (k1 k2:Bool) (l1 l2:Addr) (xs ys:Array Value):Meets (Builtin.«zip.__new__» ⟨[.type "zip", .ref l1,.ref l2],[]⟩) (fun _ R s=>gC k1 s.heap l1 xs/\gC k2 s.heap l2 ys/\
  R (.ok (.ret (.ref (zH4 k1 k2 s.heap l1 l2).objs.size))) { s with heap:=zH5 k1 k2 s.heap l1 l2 }):=
 .of_wp fun prog w A R s h=>by
  obtain ⟨hp,g,d,tk,os⟩:=s
  obtain ⟨hl1,hl2,h⟩:=h
  have hsub:=sub_zip
  have d1:gC k1 (Shared.heap ⟨hp,g,d,tk,os⟩) l1 xs:=hl1
  have d2:gC k2 (Shared.heap ⟨hp.push { cls:=.type (itN k1),data:=.fields #[.ref l1,.int 0 0] },g,d,tk,os⟩) l2 ys:=hl2.go fun o e=>Heap.get?_push_of_some _ e
  wp_walk using jX d1,jX d2
  exact ⟨_,rfl,h⟩
section
variable {prog:Program} {w:World} {A:Around} {E:Value->Shared->Prop} {s:Shared}
theorem zEW {k1 k2:Bool} {l1 l2:Addr} {xs ys:Array Value} {Q:Value->Shared->Prop} (d1:gC k1 s.heap l1 xs) (d2:gC k2 s.heap l2 ys)
  (h:∀ h2,qQ .none k1 k2 l1 l2 s.heap.objs.size 0 0 h2->(∀ c o,s.heap.get? c=some o->h2.get? c=some o)->Q (.ref (s.heap.objs.size+4)) { s with heap:=h2 }):wpAny (model prog w) A (call (.type "zip") [.ref l1,.ref l2]) Q E s:=by
 refine callType_new F.called_zip (by decide) (F.typeCall_zip_2 _ _) (F.newCall_zip_2 _ _) (fun obj=>F.args_object_init_3 obj _ _) F.entry_zip_new (zEd k1 k2 l1 l2 xs ys) ⟨d1,d2,?_⟩
 have up:∀ {h:Heap} {a:Addr} {o ob:Obj},h.get? a=some o->(h.push ob).get? a=some o:=fun e=>Heap.get?_push_of_some _ e
 have m1:(s.heap.push (zO k1 l1)).objs.size=s.heap.objs.size+1:=Heap.size_push ..
 have m2:(zH2 k1 k2 s.heap l1 l2).objs.size=s.heap.objs.size+2:=(Heap.size_push ..).trans (congrArg (·+1) m1)
 have m3:(zH3 k1 k2 s.heap l1 l2).objs.size=s.heap.objs.size+3:=(Heap.size_push ..).trans (congrArg (·+1) m2)
 have m4:(zH4 k1 k2 s.heap l1 l2).objs.size=s.heap.objs.size+4:=(Heap.size_push ..).trans (congrArg (·+1) m3)
 have r0:(zH5 k1 k2 s.heap l1 l2).get? s.heap.objs.size=some (zO k1 l1):=up (up (up (up (Heap.get?_push_size _ rfl))))
 have r1:(zH5 k1 k2 s.heap l1 l2).get? (s.heap.push (zO k1 l1)).objs.size=some (zO k2 l2):=up (up (up (Heap.get?_push_size _ rfl)))
 have r2:(zH5 k1 k2 s.heap l1 l2).get? (zH2 k1 k2 s.heap l1 l2).objs.size=some _:=up (up (Heap.get?_push_size _ rfl))
 have r3:(zH5 k1 k2 s.heap l1 l2).get? (zH3 k1 k2 s.heap l1 l2).objs.size=some _:=up (Heap.get?_push_size _ rfl)
 have r4:(zH5 k1 k2 s.heap l1 l2).get? (zH4 k1 k2 s.heap l1 l2).objs.size=some _:=Heap.get?_push_size _ rfl
 rw [m1] at r1
 rw [m1,m2] at r2
 rw [m3] at r3
 rw [m2,m3,m4] at r4
 show _/\_
 rw [m4]
 exact ⟨⟨_,r4,rfl⟩,h _ ⟨r4,r2,⟨_,_,r3⟩,.mk r0 rfl rfl,.mk r1 rfl rfl⟩ fun c o x=>up (up (up (up (up x))))⟩
end
end L3
namespace L3
open PySem PySem.Spec PyProof.Rows L2
section
variable {X:Cx} {pins:List (Addr×Obj)} {σ:St} {H:Hp} {s:Shared} {h':Heap} {fp:List Addr}
theorem yG {t':Nat} {p:Addr} {xs:List V} {us:List Value} (I:Inv X pins σ H s) (hf:∀ b∈fp,nM X pins H b) (k:∀ b o,b∉fp->s.heap.get? b=some o->h'.get? b=some o)
  (hp:s.heap.objs.size<=p) (ht:IsTup h' p us.toArray) (hv:cM xs us) (hz:xs.length<=sizeLine):Inv X pins σ (upd H p (.tup xs)) { s with heap:=h',toks:=t' }:=by
 have hn:H p=none:=I.hok.fresh hp
 have nf:∀ b u,H b=some u->b∉fp:=fun b u e z=>by rw [(hf b z).1] at e;cases e
 have np:∀ b u,H b=some u->upd H p (.tup xs) b=some u:=fun b u e=>by rw [aO (aS e hn)];exact e
 refine I.step (g':=s.gens) (d':=s.drawn) (ch:=fp) (fun b hb=>⟨(hf b hb).2.2.2.1,(hf b hb).2.1,(hf b hb).2.2.2.2.1,(hf b hb).2.2.2.2.2⟩) (fun b o _ _ hc e _=>k b o hc e) (fun b o _ _ hc e _=>⟨o.slots,k b o hc e⟩) (fun b o _ e n=>?_)
  (fun b o hc e=>⟨o,k b o hc e⟩) (fun b xs e=>np _ _ e) (fun b o u e=>np _ _ e) (fun b ps e=>⟨#[],by rw [np _ _ e];simp⟩) (fun m hm=>?_) (fun b u e=>?_) I.bare
 ·rw [aO (Nat.ne_of_lt (Nat.lt_of_lt_of_le (Heap.lt_size e) hp))];exact n
 ·obtain ⟨o,es,ep,ho,r⟩:=hm
  exact ⟨o,es,ep,k _ o (fun z=>(hf _ z).2.1 rfl) ho,r⟩
 ·by_cases hb:b=p
  ·subst hb
   rw [aP] at e;cases e
   exact ⟨hz,us,hv,ht⟩
  ·rw [aO hb] at e
   refine (I.hok b u e).stay (fun c v hc q=>k c v ?_ q) (fun _ q=>np _ _ q) fun _ _ q=>np _ _ q
   rcases hc with z | z
   ·rw [z];exact nf b u e
   ·exact nf c _ z
theorem xA {t':Nat} (I:Inv X pins σ H s) (hf:∀ b∈fp,nM X pins H b) (k:∀ b o,b∉fp->s.heap.get? b=some o->h'.get? b=some o):Inv X pins σ H { s with heap:=h',toks:=t' }:=by
 have nf:∀ b u,H b=some u->b∉fp:=fun b u e z=>by rw [(hf b z).1] at e;cases e
 refine I.step (g':=s.gens) (d':=s.drawn) (ch:=fp) (fun b hb=>⟨(hf b hb).2.2.2.1,(hf b hb).2.1,(hf b hb).2.2.2.2.1,(hf b hb).2.2.2.2.2⟩) (fun b o _ _ hc e _=>k b o hc e) (fun b o _ _ hc e _=>⟨o.slots,k b o hc e⟩) (fun b o _ e n=>n)
  (fun b o hc e=>⟨o,k b o hc e⟩) (fun b xs e=>e) (fun b o u e=>e) (fun b ps e=>⟨#[],by rw [e];simp⟩) (fun m hm=>?_) (fun b u e=>?_) I.bare
 ·obtain ⟨o,es,ep,ho,r⟩:=hm
  exact ⟨o,es,ep,k _ o (fun z=>(hf _ z).2.1 rfl) ho,r⟩
 ·refine (I.hok b u e).stay (fun c v hc q=>k c v ?_ q) (fun _ q=>q) fun _ _ q=>q
  rcases hc with z | z
  ·rw [z];exact nf b u e
  ·exact nf c _ z
end
def SqK (k:Bool) (K:PySem.W.Frag) (H:Hp) (a:Addr) (xs:List V):Prop:=if k then SqL K H a xs else SqT K H a xs
theorem dD {k:Bool} {K:PySem.W.Frag} {H H':Hp} (e:Same H H') {a:Addr} {xs:List V} (h:SqK k K H a xs):SqK k K H' a xs:=by
 cases k
 ·exact bN e h
 ·exact bS e h
section
variable {X:Cx} {pins:List (Addr×Obj)} {σ:St} {H:Hp} {s:Shared} {k:Bool} {a:Addr} {xs ys:List V}
theorem sqI (I:Inv X pins σ H s) (h:SqK k X.K H a xs):∃ its:List Value,cM xs its/\gC k s.heap a its.toArray/\xs.length<=sizeLine:=by
 cases k
 ·obtain ⟨its,rv,p,hz⟩:=I.tuple h
  exact ⟨its,rv,p,hz⟩
 ·obtain ⟨its,rv,p,hz⟩:=I.list h
  exact ⟨its,rv,p.isList,hz⟩
theorem mQ (I:Inv X pins σ H s) (h:SqK k X.K H a xs) (h':SqK k X.K H a ys):xs=ys:=by
 cases k
 ·exact I.tuple_inj h h'
 ·exact I.list_inj h h'
theorem gC.lt {h:Heap} {l:Addr} {xs:Array Value} (x:gC k h l xs):l < h.objs.size:=by
 cases k<;>(obtain ⟨o,e,_⟩:=x;exact Heap.lt_size e)
end
def Itz (K:PySem.W.Frag) (k1 k2:Bool) (a1 a2:Addr):It:=
  ⟨fun i H=>∃ xs ys x y,SqK k1 K H a1 xs/\SqK k2 K H a2 ys/\xs[i]?=some x/\ys[i]?=some y,
   fun i H v H'=>∃ p x y,v=.ref p/\H p=none/\H'=upd H p (.tup [x,y])/\(∀ xs,SqK k1 K H a1 xs->xs[i]?=some x)/\∀ ys,SqK k2 K H a2 ys->ys[i]?=some y,
   fun i H=>∃ xs ys,SqK k1 K H a1 xs/\SqK k2 K H a2 ys/\(xs.length<=i∨ys.length<=i)⟩
def zMn (k1 k2:Bool) (a1 a2 n:Addr) (i:Nat) (h:Heap):Prop:=qQ .none k1 k2 a1 a2 n i i h
theorem dJ {h:Heap} {b:Addr} {o:Obj} {d:Data} (e:h.get? b=some o) (hd:o.data=d) (nd:∀ v,d≠.cell v):∃ o,h.get? b=some o/\∀ v,o.data≠.cell v:=⟨o,e,fun v z=>nd v (hd.symm.trans z)⟩
theorem zEG {P:Program} {w:World} {K:PySem.W.Frag} {elts:List Expr} {x1:Nat} {tp:Pos} (k1 k2:Bool) (a1 a2 n:Addr) (l1:a1 < n) (l2:a2 < n):
  Turn P w K (.Tuple elts x1 tp) (Itz K k1 k2 a1 a2) [n+4,n+2,n+3,n,n+1] (n+4) (zMn k1 k2 a1 a2 n) where
 mem:=by simp
 obj:=fun i h st b hb=>by
  obtain ⟨t1,t2,⟨a,b',t3⟩,t4,t5⟩:=st
  obtain ⟨o4,e4,_,d4⟩:=t4.get
  obtain ⟨o5,e5,_,d5⟩:=t5.get
  simp only [List.mem_cons,List.not_mem_nil,or_false] at hb
  rcases hb with rfl | rfl | rfl | rfl | rfl
  ·exact dJ t1 rfl fun v z=>by cases z
  ·exact dJ t2 rfl fun v z=>by cases z
  ·exact dJ t3 rfl fun v z=>by cases z
  ·exact dJ e4 d4 fun v z=>by cases z
  ·exact dJ e5 d5 fun v z=>by cases z
 keep:=fun i h h' st k=>by
  obtain ⟨t1,t2,⟨a,b',t3⟩,t4,t5⟩:=st
  exact ⟨k _ (by simp) _ t1,k _ (by simp) _ t2,⟨a,b',k _ (by simp) _ t3⟩,t4.go fun o e=>k _ (by simp) o e,t5.go fun o e=>k _ (by simp) o e⟩
 item:=by
  intro X hP hw hK hc i pins s σ H E I hf st hg
  subst hP hw hK
  obtain ⟨xs,ys,x,y,q1,q2,hx,hy⟩:=hg
  obtain ⟨us,r1,s1,z1⟩:=sqI I q1
  obtain ⟨ws,r2,s2,z2⟩:=sqI I q2
  obtain ⟨u,hu,ru⟩:=r1.get hx
  obtain ⟨v,hv,rv⟩:=r2.get hy
  have hu':us.toArray[i]?=some u:=by simpa using hu
  have hv':ws.toArray[i]?=some v:=by simpa using hv
  have st':=st
  obtain ⟨t1,t2,⟨a,b,t3⟩,t4,t5⟩:=st
  refine zMd (I.ok.hd hc) l1 l2 st' s1 s2 (fun x' y' f1 f2 h' g' p' kz=>?_) (fun q=>?_)
  rotate_left
  ·rw [hu',hv'] at q;rcases q with q | q<;>cases q
  rw [hu'] at f1;cases f1
  rw [hv'] at f2;cases f2
  refine ⟨_,rfl,wpAny_letOwnedTupleGo_zip (s:={ s with heap:=h' }) g'.1 fun h'' c1 c2=>?_⟩
  have zl:s.heap.objs.size≠n+4:=Nat.ne_of_gt (Heap.lt_size t1)
  have np:H s.heap.objs.size=none:=I.hok.fresh (Nat.le_refl _)
  have I1:Inv X pins σ (upd H s.heap.objs.size (.tup [x,y])) { s with heap:=h'',toks:=s.toks }:=yG (us:=[u,v]) I hf (fun b o hb e=>by
    simp only [List.mem_cons,List.not_mem_nil,or_false,not_or] at hb
    exact c2.extBut b o hb.1 (kz b o hb.1 hb.2.2.1 hb.2.2.2.1 hb.2.2.2.2 e)) (Nat.le_refl _) ⟨_,c2.extBut _ _ zl p',rfl,_,rfl⟩ (.cons ru (.cons rv .nil)) (show 2<=sizeLine by decide)
  refine ⟨.ref s.heap.objs.size,_,I1,rfl,⟨_,x,y,rfl,np,rfl,fun zs hz=>by rw [mQ I hz q1];exact hx,fun zs hz=>by rw [mQ I hz q2];exact hy⟩,g'.fld c1 c2.extBut,fun b hb=>?_⟩
  ·obtain ⟨o,e,_⟩:∃ o,s.heap.get? b=some o/\True:=by
    obtain ⟨o4,e4,_⟩:=t4.get
    obtain ⟨o5,e5,_⟩:=t5.get
    simp only [List.mem_cons,List.not_mem_nil,or_false] at hb
    rcases hb with rfl | rfl | rfl | rfl | rfl
    ·exact ⟨_,t1,trivial⟩
    ·exact ⟨_,t2,trivial⟩
    ·exact ⟨_,t3,trivial⟩
    ·exact ⟨_,e4,trivial⟩
    ·exact ⟨_,e5,trivial⟩
   rw [aO (Nat.ne_of_lt (Heap.lt_size e))]
   exact (hf b hb).1
 done:=by
  intro X hP hw hK hc i pins s σ H E I hf st hg
  subst hP hw hK
  obtain ⟨xs,ys,q1,q2,hl⟩:=hg
  obtain ⟨us,r1,s1,z1⟩:=sqI I q1
  obtain ⟨ws,r2,s2,z2⟩:=sqI I q2
  have st':=st
  obtain ⟨t1,t2,⟨a,b,t3⟩,t4,t5⟩:=st
  have e1:=r1.length
  have e2:=r2.length
  refine zMd (I.ok.hd hc) l1 l2 st' s1 s2 (fun x y f1 f2=>?_) fun _ h' b7=>⟨rfl,xA (t':=s.toks) I hf fun b o hb e=>?_⟩
  ·have m1:=(Array.getElem?_eq_some_iff.mp f1).1
   have m2:=(Array.getElem?_eq_some_iff.mp f2).1
   rw [List.size_toArray] at m1 m2
   omega
  ·simp only [List.mem_cons,List.not_mem_nil,or_false,not_or] at hb
   exact b7 b o hb.1 hb.2.2.1 hb.2.2.2.1 hb.2.2.2.2 e
 self:=fun _ _ _ _ _ st h=>wpAny_pyIter_zip st.1 h
abbrev eO (n:Addr):Obj:={ cls:=.type "enumerate", data:=.fields #[.none,.bool false,.ref n,rawInt 0,.none,.none] }
theorem zBt (k:Bool) (l:Addr) (xs:Array Value):Meets (Builtin.«enumerate.__new__» ⟨[.type "enumerate", .ref l],[]⟩) (fun _ R s=>gC k s.heap l xs/\
  R (.ok (.ret (.ref (s.heap.push (zO k l)).objs.size))) { s with heap:=(s.heap.push (zO k l)).push (eO s.heap.objs.size) }):=
 .of_wp fun prog w A R s h=>by
  cases s with | mk hp g d tk os=>
  have d1:gC k (Shared.heap ⟨hp,g,d,tk,os⟩) l xs:=h.1
  have fin:=h.2
  have hsub:=sub_enumerate
  obtain ⟨ob,ho⟩:∃ ob,hp.get? l=some ob:=by cases k<;>(obtain ⟨o,e,_⟩:=d1;exact ⟨o,e⟩)
  clear h
  wp_walk using AutoSeq1.wpAny_loadPart' ho
  refine wpAny_stack_any fun st=>wpAny_pure ?_
  split
  ·rename_i c _ _ _ _ _
   cases (c==Value.type "enumerate")<;>(wp_walk using AutoSeq1.wpAny_loadPart' ho,jX d1;exact ⟨_,rfl,fin⟩)
  ·wp_walk using AutoSeq1.wpAny_loadPart' ho,jX d1
   exact ⟨_,rfl,fin⟩
theorem zDo {prog:Program} {w:World} {A:Around} {E:Value->Shared->Prop} {s:Shared} {k:Bool} {l:Addr} {xs:Array Value} {Q:Value->Shared->Prop} (sq:gC k s.heap l xs)
  (h:∀ h2,IsEnum h2 (s.heap.objs.size+1) s.heap.objs.size 0 .none->oR k h2 s.heap.objs.size l 0->(∀ c o,s.heap.get? c=some o->h2.get? c=some o)->Q (.ref (s.heap.objs.size+1)) { s with heap:=h2 }):
  wpAny (model prog w) A (call (.type "enumerate") [.ref l]) Q E s:=by
 refine callType_new F.called_enumerate (by decide) (F.typeCall_enumerate_1 _) (F.newCall_enumerate_1 _) (fun obj=>F.args_object_init_2 obj _) F.entry_enumerate_new (zBt k l xs) ⟨sq,?_⟩
 have m1:(s.heap.push (zO k l)).objs.size=s.heap.objs.size+1:=Heap.size_push ..
 have r0:((s.heap.push (zO k l)).push (eO s.heap.objs.size)).get? s.heap.objs.size=some (zO k l):=Heap.get?_push_of_some _ (Heap.get?_push_size _ rfl)
 have r1:((s.heap.push (zO k l)).push (eO s.heap.objs.size)).get? (s.heap.push (zO k l)).objs.size=some (eO s.heap.objs.size):=Heap.get?_push_size _ rfl
 show _/\_
 rw [m1] at r1 ⊢
 exact ⟨⟨_,r1,rfl⟩,h _ r1 (.mk r0 rfl rfl) fun c o x=>Heap.get?_push_of_some _ (Heap.get?_push_of_some _ x)⟩
def Ite (K:PySem.W.Frag) (k:Bool) (a:Addr):It:=
  ⟨fun i H=>∃ xs x,SqK k K H a xs/\xs[i]?=some x,
   fun i H v H'=>∃ p x,v=.ref p/\H p=none/\H'=upd H p (.tup [.int i,x])/\∀ xs,SqK k K H a xs->xs[i]?=some x,
   fun i H=>∃ xs,SqK k K H a xs/\xs.length<=i⟩
def EnS (k:Bool) (a n:Addr) (i:Nat) (h:Heap):Prop:=(∃ old,IsEnum h (n+1) n i old)/\oR k h n a i
theorem zCm {P:Program} {w:World} {K:PySem.W.Frag} {elts:List Expr} {x1:Nat} {tp:Pos} (k:Bool) (a n:Addr) (l1:a < n):
  Turn P w K (.Tuple elts x1 tp) (Ite K k a) [n+1,n] (n+1) (EnS k a n) where
 mem:=by simp
 obj:=fun i h st b hb=>by
  obtain ⟨⟨old,t1⟩,t2⟩:=st
  obtain ⟨o4,e4,_,d4⟩:=t2.get
  simp only [List.mem_cons,List.not_mem_nil,or_false] at hb
  rcases hb with rfl | rfl
  ·exact dJ t1 rfl fun v z=>by cases z
  ·exact dJ e4 d4 fun v z=>by cases z
 keep:=fun i h h' st k=>by
  obtain ⟨⟨old,t1⟩,t2⟩:=st
  exact ⟨⟨old,k _ (by simp) _ t1⟩,t2.go fun o e=>k _ (by simp) o e⟩
 item:=by
  intro X hP hw hK hc i pins s σ H E I hf st hg
  subst hP hw hK
  obtain ⟨xs,x,q1,hx⟩:=hg
  obtain ⟨us,r1,s1,z1⟩:=sqI I q1
  obtain ⟨u,hu,ru⟩:=r1.get hx
  obtain ⟨⟨old,t1⟩,t2⟩:=st
  have hi:i < us.toArray.size:=by simpa using (List.getElem?_eq_some_iff.mp hu).1
  have en:n+1∉[n,a]:=fun z=>by
   rcases List.mem_cons.mp z with z | z
   ·exact Nat.succ_ne_self n z
   ·exact Nat.ne_of_gt (Nat.lt_succ_of_lt l1) (List.mem_singleton.mp z)
  have D:=zKx (prog:=X.prog) (w:=X.w) (A:=X.A.in1) (k:=k) (I.ok.hd hc) n a (Nat.ne_of_lt l1) us.toArray
  refine wpAny_pyNext_enum_itemD D t1 ⟨t2,s1⟩ hi (Nat.succ_ne_self n) en fun v h' tk b0 b1 b2 b3 _ b7=>⟨_,rfl,wpAny_letOwnedTupleGo_enum (s:={ s with heap:=h',toks:=tk+1 }) b1 fun h'' c1 c2=>?_⟩
  have hv:v=u:=by
   have:us.toArray[i]?=some u:=by simpa using hu
   rw [this] at b0;cases b0;rfl
  subst hv
  have zl:s.heap.objs.size≠n+1:=Nat.ne_of_gt (Heap.lt_size t1)
  have np:H s.heap.objs.size=none:=I.hok.fresh (Nat.le_refl _)
  have I1:Inv X pins σ (upd H s.heap.objs.size (.tup [.int i,x])) { s with heap:=h'',toks:=tk+1 }:=yG (us:=[.int i tk,v]) I hf (fun b o hb e=>by
    simp only [List.mem_cons,List.not_mem_nil,or_false,not_or] at hb
    exact c2.extBut b o hb.1 (b7 b o hb.1 hb.2 e)) (Nat.le_refl _) ⟨_,c2.extBut _ _ zl b3,rfl,_,rfl⟩ (.cons ⟨_,rfl⟩ (.cons ru .nil)) (show 2<=sizeLine by decide)
  refine ⟨.ref s.heap.objs.size,_,I1,rfl,⟨_,x,rfl,np,rfl,fun zs hz=>by rw [mQ I hz q1];exact hx⟩,⟨⟨v,by simpa using c1⟩,b2.1.go fun o e=>c2.extBut _ o (Nat.ne_of_lt (Nat.lt_succ_self n)) e⟩,fun b hb=>?_⟩
  obtain ⟨o,e,_⟩:∃ o,s.heap.get? b=some o/\True:=by
   obtain ⟨o4,e4,_⟩:=t2.get
   simp only [List.mem_cons,List.not_mem_nil,or_false] at hb
   rcases hb with rfl | rfl
   ·exact ⟨_,t1,trivial⟩
   ·exact ⟨_,e4,trivial⟩
  rw [aO (Nat.ne_of_lt (Heap.lt_size e))]
  exact (hf b hb).1
 done:=by
  intro X hP hw hK hc i pins s σ H E I hf st hg
  subst hP hw hK
  obtain ⟨xs,q1,hl⟩:=hg
  obtain ⟨us,r1,s1,z1⟩:=sqI I q1
  obtain ⟨⟨old,t1⟩,t2⟩:=st
  have e1:=r1.length
  have hT:s.TypeIs (.ref (n+1)) "enumerate" := ⟨_,t1,rfl⟩
  unfold pyNext
  refine wpAny_bind (wpAny_attempt (wpAny_callSpecial?_slot (name:=Str.ofString "__next__") hT F.slot_enumerate_next (wpAny_call_entry F.slot_enumerate_next hT F.entry_enumerate_next ?_ (F.args_enumerate_next_1 _))))
  show wpAny _ _ (field (.ref (n+1)) 2 >>= _) _ _ _
  refine wpAny_bind (wpAny_field t1 rfl (x:=.ref n) rfl ?_)
  refine wpAny_bind (pH (I.ok.hd hc) t2 s1 (by simp;omega) fun h' x he' hx'=>?_)
  obtain ⟨o,ho,hc⟩:=hx'
  refine wpAny_bind (wpAny_isInstance (T := "StopIteration") (b:=true) ⟨o,ho,hc⟩ isSubtype_stop ?_)
  refine wpAny_pure ⟨rfl,xA (t':=s.toks) I hf fun b o hb e=>?_⟩
  simp only [List.mem_cons,List.not_mem_nil,or_false,not_or] at hb
  exact he' b o hb.2 e
 self:=fun _ _ _ _ _ st h=>wpAny_pyIter_enum st.1.choose_spec h
section
unseal PEd PEf PTd PWd PAd PSd cN POd PGd eK PId PSx iE PTs PCd PCf
variable {X:Cx} {G:Gx} {fs:Fv} {f:Ev}
def iZp (K:PySem.W.Frag) (ta:TA):TI:=fun σ H R=>ta σ H fun vs H1=>∃ k1 k2 a1 a2 xs ys,vs=[.ref a1,.ref a2]/\SqK k1 K H1 a1 xs/\SqK k2 K H1 a2 ys/\R (Itz K k1 k2 a1 a2) H1
theorem zJu {a b:Expr} {ta:TA} {p pos:Pos} {elts:List Expr} {x1:Nat} {tp:Pos} (hg:Gl X "zip") (hm:X.mg "zip" = none) (ha:PA X [a,b] ta)
  (hs:starEach [a,b] X.env=[(false,eval a X.env),(false,eval b X.env)]:=by rfl) (hs2:starEach [b] X.env=[(false,eval b X.env)]:=by rfl):PI X (.Tuple elts x1 tp) (.Call (.Name "zip" p) [a,b] [] pos) (iZp X.K ta):=by
 intro pins s σ H R I h
 refine Call_ (jT I hg hm boot_zip (PyProof.Rows.callWith_type1 (thn (ha pos pins s σ H _ I h) fun us s1 ⟨vs,H1,I1,r1,q1⟩=>?_) (by rw [hs,hs2]) (by rw [hs2];rfl)))
 obtain ⟨k1,k2,a1,a2,xs,ys,rfl,h1,h2,q⟩:=q1
 cases r1 with
 | cons r rr=>
  cases rr with
  | cons r' rr=>
   cases rr
   cases r
   cases r'
   obtain ⟨us,rv,p1,z1⟩:=sqI I1 h1
   obtain ⟨ws,rw_,p2,z2⟩:=sqI I1 h2
   refine zEW p1 p2 fun h' b1 b6=>wpAny_pyIter_zip (s:={ s1 with heap:=h' }) b1.1 ?_
   refine ⟨s1.heap.objs.size+4,_,_,_,H1,rfl,I1.kept (t':=s1.toks) b6,zEG k1 k2 a1 a2 s1.heap.objs.size p1.lt p2.lt,b1,fun b hb=>?_,q⟩
   have hb':s1.heap.objs.size<=b:=by
    simp only [List.mem_cons,List.not_mem_nil,or_false] at hb
    rcases hb with rfl | rfl | rfl | rfl | rfl<;>omega
   exact I1.fpOk hb' (I1.hok.fresh hb')
theorem wM:∀ (xs ys:List D) (i:Nat) (d:D),(iI xs ys)[i]?=some d->∃ a b,xs[i]?=some a/\ys[i]?=some b/\d=.tup [a,b]
 | a::r,b::q,0,d,h=>by cases h;exact ⟨a,b,rfl,rfl,rfl⟩
 | a::r,b::q,i+1,d,h=>wM r q i d h
 | [],_,i,d,h=>by cases i<;>cases h
 | a::r,[],i,d,h=>by cases i<;>cases h
theorem wO:∀ (xs ys:List D),(iI xs ys).length=min xs.length ys.length
 | a::r,b::q=>by
  have:=wO r q
  simp only [iI,List.length_cons,this]
  omega
 | [],_=>by simp [iI]
 | a::r,[]=>by simp [iI]
theorem zBU {K:PySem.W.Frag} {Hi:Hp} {k1 k2:Bool} {a1 a2:Addr} {xs ys:List V} {ds es:List D} (h1:SqK k1 K Hi a1 xs) (h2:IsDs K Hi xs ds) (h3:SqK k2 K Hi a2 ys) (h4:IsDs K Hi ys es):
  oG K Hi (Itz K k1 k2 a1 a2) (iI ds es):=fun Hi1 H1 s1 s2 i=>by
 have g1:=dD (s1.trans s2) h1
 have g3:=dD (s1.trans s2) h3
 refine ⟨fun hl=>⟨xs,ys,g1,g3,?_⟩,fun d hd=>?_⟩
 ·rw [wO] at hl
  have e1:=h2.length
  have e2:=h4.length
  omega
 ·obtain ⟨a,b,ha,hb,rfl⟩:=wM ds es i d hd
  obtain ⟨v,hv,rv⟩:=h2.at ha
  obtain ⟨w,hw,rw_⟩:=h4.at hb
  refine ⟨⟨xs,ys,v,w,g1,g3,hv,hw⟩,fun x H2 y=>?_⟩
  obtain ⟨p,x',y',rfl,hp,rfl,y1,y2⟩:=y
  have e1:=y1 xs g1
  have e2:=y2 ys g3
  rw [hv] at e1;cases e1
  rw [hw] at e2;cases e2
  have hi:=s2.none hp
  have sm:=bM hi (.tup [v,w])
  exact ⟨upd Hi1 p (.tup [v,w]),Ext.new s2 hp,.tup (.inl (.inl aP)) (.cons ((rv.mono s1).mono sm) (.cons ((rw_.mono s1).mono sm) .nil))⟩
theorem zKc {K:PySem.W.Frag} {H:Hp} {v:V} {d:D} {ds:List D} (h:IsD K H v d) (e:pM d=some ds):∃ k a xs,v=.ref a/\SqK k K H a xs/\IsDs K H xs ds:=by
 cases d with
 | lst es=>cases e;obtain ⟨a,xs,rfl,h1,h2⟩:=h.lstI;exact ⟨true,a,xs,rfl,h1,h2⟩
 | tup es=>cases e;obtain ⟨a,xs,rfl,h1,h2⟩:=h.tupI;exact ⟨false,a,xs,rfl,h1,h2⟩
 | _=>cases e
theorem zEl {a b:Expr} {p pos:Pos} {elts:List Expr} {x1:Nat} {tp:Pos} (hg:Gl X "zip") (hm:X.mg "zip" = none) (ha:PAd X G [a,b] fs)
  (hs:starEach [a,b] X.env=[(false,eval a X.env),(false,eval b X.env)]:=by rfl) (hs2:starEach [b] X.env=[(false,eval b X.env)]:=by rfl):
  PId X G (.Tuple elts x1 tp) (.Call (.Name "zip" p) [a,b] [] pos) (zGP fs):=PI.wk (zJu hg hm ha hs hs2) fun σ H Q q=>by
 obtain ⟨ρ,Hi,R,ou⟩:=q
 refine zDX R ou fun vs ds Hi1 H1 e1 R1 r1 o1=>?_
 split at o1
 ·rename_i x y
  obtain ⟨v,w,rfl,h,h'⟩:=r1.two
  split at o1
  ·rename_i ds es q1 q2
   obtain ⟨k1,a1,xs,rfl,g1,g2⟩:=zKc h q1
   obtain ⟨k2,a2,ys,rfl,g3,g4⟩:=zKc h' q2
   exact ⟨k1,k2,a1,a2,xs,ys,rfl,dD R1.s g1,dD R1.s g3,o1.here R1.s _ (zBU g1 g2 g3 g4)⟩
  ·exact o1.elim
 ·exact o1.elim
def iEn (K:PySem.W.Frag) (ta:TA):TI:=fun σ H R=>ta σ H fun vs H1=>∃ k a xs,vs=[.ref a]/\SqK k K H1 a xs/\R (Ite K k a) H1
theorem zHS {a:Expr} {ta:TA} {p pos:Pos} {elts:List Expr} {x1:Nat} {tp:Pos} (hg:Gl X "enumerate") (hm:X.mg "enumerate" = none) (ha:PA X [a] ta) (hs:starEach [a] X.env=[(false,eval a X.env)]:=by rfl):
  PI X (.Tuple elts x1 tp) (.Call (.Name "enumerate" p) [a] [] pos) (iEn X.K ta):=by
 intro pins s σ H R I h
 refine Call_ (jT I hg hm boot_enumerate (PyProof.Rows.callWith_type1 (thn (ha pos pins s σ H _ I h) fun us s1 ⟨vs,H1,I1,r1,q1⟩=>?_) hs rfl))
 obtain ⟨k,t,xs,rfl,hq,q⟩:=q1
 cases r1 with
 | cons r rr=>
  cases rr
  cases r
  obtain ⟨its,rv,pt,hz⟩:=sqI I1 hq
  refine zDo pt fun h' b1 b2 b6=>wpAny_pyIter_enum (s:={ s1 with heap:=h' }) b1 ?_
  refine ⟨s1.heap.objs.size+1,_,_,_,H1,rfl,I1.kept (t':=s1.toks) b6,zCm k t s1.heap.objs.size pt.lt,⟨⟨_,b1⟩,b2⟩,fun b hb=>?_,q⟩
  have hb':s1.heap.objs.size<=b:=by
   simp only [List.mem_cons,List.not_mem_nil,or_false] at hb
   rcases hb with rfl | rfl<;>omega
  exact I1.fpOk hb' (I1.hok.fresh hb')
theorem uA:∀ (xs:List D) (n i:Nat) (d:D),(lI n xs)[i]?=some d->∃ a,xs[i]?=some a/\d=.tup [.int ((n+i:Nat):Int),a]
 | a::r,n,0,d,h=>by cases h;exact ⟨a,rfl,rfl⟩
 | a::r,n,i+1,d,h=>by
  obtain ⟨b,h1,h2⟩:=uA r (n+1) i d h
  exact ⟨b,h1,by rw [h2];congr 4;omega⟩
 | [],n,i,d,h=>by cases i<;>cases h
theorem uW:∀ (xs:List D) (n:Nat),(lI n xs).length=xs.length
 | a::r,n=>by simp only [lI,List.length_cons,uW r (n+1)]
 | [],n=>rfl
theorem qP {K:PySem.W.Frag} {Hi:Hp} {k:Bool} {a:Addr} {xs:List V} {ds:List D} (h1:SqK k K Hi a xs) (h2:IsDs K Hi xs ds):oG K Hi (Ite K k a) (lI 0 ds):=fun Hi1 H1 s1 s2 i=>by
 have g1:=dD (s1.trans s2) h1
 refine ⟨fun hl=>⟨xs,g1,?_⟩,fun d hd=>?_⟩
 ·rw [uW] at hl
  rw [h2.length];exact hl
 ·obtain ⟨a,ha,rfl⟩:=uA ds 0 i d hd
  obtain ⟨v,hv,rv⟩:=h2.at ha
  refine ⟨⟨xs,v,g1,hv⟩,fun x H2 y=>?_⟩
  obtain ⟨p,x',rfl,hp,rfl,y1⟩:=y
  have e1:=y1 xs g1
  rw [hv] at e1;cases e1
  have hi:=s2.none hp
  rw [Nat.zero_add]
  exact ⟨upd Hi1 p (.tup [.int i,v]),Ext.new s2 hp,.tup (.inl (.inl aP)) (.cons (.int _) (.cons ((rv.mono s1).mono (bM hi _)) .nil))⟩
theorem zIO {a:Expr} {p pos:Pos} {elts:List Expr} {x1:Nat} {tp:Pos} (hg:Gl X "enumerate") (hm:X.mg "enumerate" = none) (ha:PEd X G a f) (hst:starEach [a] X.env=[(false,eval a X.env)]:=by rfl):
  PId X G (.Tuple elts x1 tp) (.Call (.Name "enumerate" p) [a] [] pos) (zFs f):=PI.wk (zHS hg hm (gB ha lP (by rw [hst];rfl)) hst) fun σ H Q q=>by
 obtain ⟨ρ,Hi,R,ou⟩:=q
 refine xI R ou fun v d Hi1 H1 e1 R1 r1 o1=>?_
 cases d with
 | lst ds=>
  obtain ⟨a,xs,rfl,h1,h2⟩:=r1.lstI
  exact ⟨true,a,xs,rfl,bS R1.s h1,o1.here R1.s _ (qP (k:=true) h1 h2)⟩
 | tup ds=>
  obtain ⟨a,xs,rfl,h1,h2⟩:=r1.tupI
  exact ⟨false,a,xs,rfl,bN R1.s h1,o1.here R1.s _ (qP (k:=false) h1 h2)⟩
 | _=>exact o1.elim
end
end L3
namespace L3
open PySem PySem.Spec PyProof.Rows L2
unseal PEd PEf PTd PWd PAd PSd cN POd PGd eK PId PSx iE PTs PCd PCf
structure BlkOk2 (X:Cx) (xs:List Str) (scope:Scope):Prop where
 kind:scope.kind=.function
 cell:∀ y∈scope.names,y.2≠.cell
 loc:∀ x∈xs,scope.names.lookup x=some .local
 names:∀ y∈scope.names,y.2=.local->scope.names.lookup y.1=some .local
 fre:∀ p∈scope.names,p.2=.free->X.env.kindOf p.1=some .cell∨X.env.kindOf p.1=some .free
 oth:∀ y∈X.N,scope.names.lookup y≠some .local
def qN (X:Cx) (xs:List Str) (scope:Scope) (C:Addr) (s₂:Shared) (H₂:Hp) (fp:List Addr):Cx:=
  { prog:=X.prog,w:=X.w,K:=X.K,mg:=X.mg,base:=X.base,A:=X.A,N:=X.N++xs,s₀:=s₂,H₀:=H₂,env:=compEnvC scope (yY X.env scope.names []) C X.env,outer:=X.stack,stack:=X.stack,
    ex:=fp,fn:=fun _=>false,calm:=X.calm,pn:=X.pn,xe:=fun _ _=>False }
section
variable {X:Cx} {pins:List (Addr×Obj)} {σ:St} {H:Hp} {s₂:Shared} {xs:List Str} {scope:Scope} {fp:List Addr} {D C:Addr} {h₁:Heap}
theorem BlkOk2.cl (B:BlkOk2 X xs scope) (I:Inv X pins σ H s₂):∀ p∈scope.names,p.2=.free->∃ c,X.env.cells.lookup p.1=some c:=fun p hp e=>I.ok.has p.1 (B.fre p hp e)
theorem zJm (I:Inv X pins σ H s₂) (B:BlkOk2 X xs scope) (hfp:∀ b∈fp,nM X pins H b) (hfl:∀ b∈fp,b < s₂.heap.objs.size) (hD:s₂.heap.objs.size<=D) (hC:s₂.heap.objs.size<=C) (hDC:D≠C)
  (old:∀ b o,s₂.heap.get? b=some o->h₁.get? b=some o) {n:Nat} (hacc:h₁.get? D=some { cls:=.type "list", data:=.seq ([]:List Value).toArray n }) {m:Str->Option Value} (hns:h₁.Ns C m) (t:Nat):
  Inv (qN X xs scope C s₂ H fp) pins (σ++xs.map fun _=>none) (upd H D (.lst [])) { s₂ with heap:=h₁,toks:=t }:=by
 have sub:=pB scope.names [] (B.cl I) (fun y c e=>nomatch e)
 have old_lt:∀ {b:Addr} {o:Obj},s₂.heap.get? b=some o->b≠D/\b≠C:=fun e=>⟨Nat.ne_of_lt (Nat.lt_of_lt_of_le (Heap.lt_size e) hD),Nat.ne_of_lt (Nat.lt_of_lt_of_le (Heap.lt_size e) hC)⟩
 have free:∀ {b:Addr},b≠D->H b=none->upd H D (.lst []) b=none:=fun n e=>by rw [aO n];exact e
 refine ⟨⟨I.ok.mod,B.kind,I.ok.glob,I.ok.blt,hC,fun y z c e1 e2=>I.ok.inj y z c (sub y c e1) (sub z c e2),fun y hy=>?_,fun y c e=>(nomatch e),I.ok.hd,I.ok.frames,.inl rfl,fun b hb=>⟨Nat.ne_of_lt (Nat.lt_of_lt_of_le (hfl b hb) hC),fun y c e=>(hfp b hb).2.2.2.2.1 y c (sub y c e)⟩,
  I.bs,Nat.le_trans I.ok.bsz I.sz,fun b o e hb=>?_,fun b hb z=>?_,I.stack,I.stkFree⟩,rfl,I.bare,Un.laid old hD (I.hok.fresh hD),⟨m,hns,fun i y v e1 e2 e3=>?_⟩,fun y c e=>?_,free (Ne.symm hDC) (I.hok.fresh hC),fun y c e=>?_,fun p hp=>?_,I.hok.laid old hD ⟨Nat.zero_le _,[],n,.nil,hacc⟩,?_⟩
 ·have:∃ k,(k=NameKind.cell∨k=NameKind.free)/\((relabel scope X.env).names).lookup y=some k:=hy.elim (fun h=>⟨_,.inl rfl,h⟩) fun h=>⟨_,.inr rfl,h⟩
  obtain ⟨k,hk,e⟩:=this
  have e':(y,NameKind.free)∈scope.names:=by
   rcases bK e with z | ⟨_,z⟩
   ·rcases hk with rfl | rfl
    ·exact absurd rfl (B.cell _ (bA z))
    ·exact bA z
   ·exact bA z
  exact oZ scope.names [] y e'
 ·rcases (hfp b hb).2.2.2.1 with z | z
  ·exact I.ok.noex b o e z
  ·exact absurd (Nat.lt_of_lt_of_le (Heap.lt_size e) (Nat.le_trans I.ok.bsz z)) (Nat.lt_irrefl _)
 ·rcases List.mem_cons.mp (I.stkSub b z) with w | w
  ·exact (hfp b hb).2.1 w
  ·exact (hfp b hb).2.2.1 w
 ·
  have hi:i < σ.length:=by
   by_cases hi:i < σ.length
   ·exact hi
   ·exfalso
    rw [List.getElem?_append_right (by omega),List.getElem?_map] at e2
    cases q:xs[i - σ.length]? with
    | none=>rw [q] at e2;cases e2
    | some z=>rw [q] at e2;cases e2
  rw [List.getElem?_append_left hi] at e2
  have e1':(X.N++xs)[i]?=some y:=e1
  rw [List.getElem?_append_left (by rw [<-I.len];exact hi)] at e1'
  cases q:X.N[i]? with
  | none=>rw [q] at e1';cases e1'
  | some z=>
   rw [q] at e1'
   have hy:z=y:=Option.some.inj e1'
   have hz:z∈X.N:=List.mem_of_getElem? q
   subst hy
   have fr:(z,NameKind.free)∈scope.names:=by
    rcases e3 with h | h | h
    ·rcases bK h with h | ⟨h,_⟩
     ·exact absurd h (B.oth z hz)
     ·cases h
    ·rcases bK h with h | ⟨_,h⟩
     ·exact absurd rfl (B.cell _ (bA h))
     ·exact bA h
    ·rcases bK h with h | ⟨h,_⟩
     ·exact bA h
     ·cases h
   have kd:=B.fre _ fr rfl
   obtain ⟨m0,hn0,hl⟩:=I.loc
   obtain ⟨u,ru,lk⟩:=hl i z v q e2 (kd.elim (fun h=>.inr (.inl h)) fun h=>.inr (.inr h))
   refine ⟨u,ru,.inr ⟨?_,?_⟩⟩
   ·rcases e3 with h | h | h
    ·rcases bK h with h | ⟨h,_⟩
     ·exact absurd h (B.oth z hz)
     ·cases h
    ·exact .inl h
    ·exact .inr h
   ·rcases lk with ⟨k1,_⟩ | ⟨_,c,hc,hcell⟩
    ·rcases kd with kd | kd<;>(rw [kd] at k1;cases k1)
    ·obtain ⟨c',hc'⟩:=oZ (env:=X.env) scope.names [] z fr
     have:=sub z c' hc'
     rw [hc] at this
     cases this
     obtain ⟨o,ho,hd⟩:=hcell
     exact ⟨c,hc',o,old _ _ ho,hd⟩
 ·obtain ⟨v,o,ho,hd⟩:=I.cell y c (sub y c e)
  exact ⟨v,o,old _ _ ho,hd⟩
 ·obtain ⟨v,o,ho,hd⟩:=I.cell y c (sub y c e)
  exact free (old_lt ho).1 (I.freeC y c (sub y c e))
 ·obtain ⟨e,n,ne,nf,d⟩:=I.pin p hp
  refine ⟨old _ _ e,free (old_lt e).1 n,(old_lt e).2,fun z=>?_,d⟩
  rcases List.mem_cons.mp (I.stkSub _ z) with w | w
  ·exact ne w
  ·exact nf w
 ·show (σ++xs.map fun _=>none).length=(X.N++xs).length
  rw [List.length_append,List.length_append,List.length_map,I.len]
end
theorem xX {f:Ev} {ρ:Rho} {d:D} {ds es:List D} (h:dH f ρ (d::ds)=.ok es):
  ∃ a b e es',d=.tup [a,b]/\f (ρ++[.val a,.val b])=.ok e/\dH f ρ ds=.ok es'/\es=e::es':=by
 unfold dH at h
 split at h
 ·cases ‹_=[]›
 ·rename_i a b ds' q
  cases q
  cases hf:noErr (f (ρ++[.val a,.val b])) with
  | no=>rw [hf] at h;cases h
  | err c=>rw [hf] at h;cases h
  | ok e=>
   rw [hf] at h
   cases hr:dH f ρ ds with
   | no=>simp only [Res.bind,hr] at h;cases h
   | err c=>simp only [Res.bind,hr] at h;cases h
   | ok es'=>
    simp only [Res.bind,hr] at h
    cases h
    exact ⟨a,b,e,es',rfl,tO hf,rfl,rfl⟩
 ·cases h
theorem vP {f:Ev} {ρ:Rho} {c:Str}:∀ {ds:List D},dH f ρ ds≠.err c
 | []=>fun h=>by cases h
 | d::ds=>fun h=>by
  unfold dH at h
  split at h
  ·cases ‹_=[]›
  ·rename_i a b ds' q
   cases q
   cases hf:noErr (f (ρ++[.val a,.val b])) with
   | no=>rw [hf] at h;cases h
   | err c=>cases q:f (ρ++[.val a,.val b])<;>(rw [q] at hf;cases hf)
   | ok e=>
    rw [hf] at h
    cases hr:dH f ρ ds with
    | no=>simp only [Res.bind,hr] at h;cases h
    | err c'=>exact vP hr
    | ok es'=>simp only [Res.bind,hr] at h;cases h
  ·cases h
section
variable {X:Cx} {G:Gx} {elt iter:Expr} {xa xb:Str} {pa pb tp pos:Pos} {x1:Nat} {scope:Scope} {it:Fv} {f:Ev} {k:Nat}
theorem qT (hc:X.calm=true/\TB X.K X.mg G.Bi G.B) (hr:Room k X.A) (Bk:BlkOk2 X [xa,xb] scope) (hN:(X.N++[xa,xb]).Nodup) (hi:PId X G (.Tuple [.Name xa pa,.Name xb pb] x1 tp) iter it)
  (hb:∀ (C:Addr) (s₂:Shared) (H₂:Hp) (fp:List Addr) (G':Gx),Good (qN X [xa,xb] scope C s₂ H₂ fp) G' k->PEd (qN X [xa,xb] scope C s₂ H₂ fp) G' elt f)
  (hs:∀ x,foldedSetIterable iter X.env x=pure x:=by intro _;rfl)
  {pins:List (Addr×Obj)} {s:Shared} {σ:St} {H Hi:Hp} {ρ:Rho} {use:Option (Value->Sem Unit)} {Q':Value->Shared->Prop} {Qa:Addr->Hp->Prop} {cpos:Pos} (I:Inv X pins σ H s) (R:iK X G Hi H σ ρ)
  (ou:Out G Hi H ((kR it f) ρ) fun ds Hi' H'=>∀ a,zDT X.K H Hi' H' a ds->Qa a H') (hend:zLQ X pins σ use Q' Qa):
  wpAny (model X.prog X.w) X.A (comprehension (.ListComp elt [⟨.Tuple [.Name xa pa,.Name xb pb] x1 tp,iter,[],0⟩] scope pos) scope X.env cpos (newList []) false (eval iter X.env) use) Q' X.xe s:=by
 refine wpAny_comprehension_free (use:=use) rfl hs (zFN (Bk.cl I)) Bk.kind Bk.names ?_
 refine thn (hi pins s σ H (fun J H2=>∃ ds Hi2,Ext Hi H Hi2 H2/\oG X.K Hi2 J ds/\Out G Hi2 H2 (if ds.length<=16777215 then dH f ρ ds else .no) fun ds Hi' H'=>∀ a,zDT X.K H Hi' H' a ds->Qa a H') I
  ⟨ρ,Hi,R,(Out.bind ou).imp fun ds Hi2 H2 e2 o2 J gv=>⟨ds,Hi2,e2,gv,o2⟩⟩) fun v s1 h1=>thn h1 fun itv s2 h2=>?_
 obtain ⟨itA,fp,tn,J,H2,rfl,I2,T,st2,f2,ds,Hi2,e2,gv,ou2⟩:=h2
 have hlen:ds.length<=16777215:=by
  by_cases hlen:ds.length<=16777215
  ·exact hlen
  ·rw [if_neg hlen] at ou2;exact ou2.elim
 rw [if_pos hlen] at ou2
 cases hes:dH f ρ ds with
 | no=>rw [hes] at ou2;exact ou2.elim
 | err c=>exact absurd hes vP
 | ok es=>
  rw [hes] at ou2
  have R2:iK X G Hi2 H2 σ ρ:=R.grow e2
  refine wpAny_newObj_type (wpAny_newFunctionEnv Bk.cell (by intro y hy;simp at hy) (fun h₁ hns₁ hsb₁=>?_) Bk.kind)
  dsimp only at hns₁ hsb₁ ⊢
  generalize hH2:s2.heap.push { cls:=.type "list", dict:=none,data:=.seq ([]:List Value).toArray }=HP at hns₁ hsb₁ ⊢
  have hC:HP.objs.size=s2.heap.objs.size+1:=by rw [<-hH2,Heap.size_push]
  have hDC:s2.heap.objs.size≠HP.objs.size:=by rw [hC];omega
  have ltC:∀ {b:Addr} {o:Obj},s2.heap.get? b=some o->b≠HP.objs.size:=fun e=>by rw [hC];exact Nat.ne_of_lt (Nat.lt_succ_of_lt (Heap.lt_size e))
  have old:∀ b o,s2.heap.get? b=some o->h₁.get? b=some o:=fun b o e=>hsb₁.extBut b o (ltC e) (Heap.get?_push_of_some _ (hH2 ▸ Heap.get?_push_of_some _ e))
  have hacc:h₁.get? s2.heap.objs.size=some { cls:=.type "list", data:=.seq ([]:List Value).toArray 0 }:=hsb₁.extBut _ _ hDC (Heap.get?_push_of_some _ (hH2 ▸ Heap.get?_push_size _ rfl))
  have hfl:∀ b∈fp,b < s2.heap.objs.size:=fun b hb=>by obtain ⟨o,e,_⟩:=T.obj _ _ st2 b hb;exact Heap.lt_size e
  have IE:=zJm (t:=s2.toks+([]:List (Str×Value)).length) I2 Bk f2 hfl (Nat.le_refl _) (by rw [hC];omega) hDC old hacc hns₁
  have sub:=pB scope.names [] (Bk.cl I2) (fun y c e=>nomatch e)
  have H2D:H2 s2.heap.objs.size=none:=I2.hok.fresh (Nat.le_refl _)
  have HD:H s2.heap.objs.size=none:=e2.h.none H2D
  have Hi2D:Hi2 s2.heap.objs.size=none:=e2.s.none H2D
  generalize hX:qN X [xa,xb] scope HP.objs.size s2 H2 fp=Y at IE
  have GY:Good Y ⟨G.B,G.Bi,fun _ _=>False⟩ k:=by
   subst hX
   exact ⟨hc.1,hr,fun pins σ H s e s' _ h=>by obtain ⟨_,_,_,_,_,c,_,z⟩:=h;exact z.elim,PassesOwn.never,hc.2⟩
  have hel:=(hX ▸ hb HP.objs.size s2 H2 fp ⟨G.B,G.Bi,fun _ _=>False⟩ (hX.symm ▸ GY):PEd Y ⟨G.B,G.Bi,fun _ _=>False⟩ elt f)
  have stat:∀ {H':Hp},(∀ b∈fp,H' b=none)->∀ b∈fp,nM Y pins H' b:=fun hn b hb=>by
   subst hX
   refine ⟨hn b hb,?_,fun z=>?_,.inl hb,fun y c e=>(f2 b hb).2.2.2.2.1 y c (sub y c e),(f2 b hb).2.2.2.2.2⟩
   ·show b≠HP.objs.size
    rw [hC];exact Nat.ne_of_lt (Nat.lt_succ_of_lt (hfl b hb))
   ·rcases List.mem_cons.mp (I2.stkSub b z) with w | w
    ·exact (f2 b hb).2.1 w
    ·exact (f2 b hb).2.2.1 w
  have YN:Y.N.Nodup:=by subst hX;exact hN
  have Ya:Y.N[σ.length]?=some xa:=by
   subst hX
   show (X.N++[xa,xb])[σ.length]?=some xa
   rw [List.getElem?_append_right (by rw [I2.len];omega),I2.len,Nat.sub_self]
   rfl
  have Yb:Y.N[σ.length+1]?=some xb:=by
   subst hX
   show (X.N++[xa,xb])[σ.length+1]?=some xb
   rw [List.getElem?_append_right (by rw [I2.len];omega),I2.len,Nat.add_sub_cancel_left]
   rfl
  have Yla:Y.env.scope.names.lookup xa=some .local:=by subst hX;exact lookup_relabel_local (Bk.loc xa (by simp))
  have Ylb:Y.env.scope.names.lookup xb=some .local:=by subst hX;exact lookup_relabel_local (Bk.loc xb (by simp))
  have asg:PG Y (.Tuple [.Name xa pa,.Name xb pb] x1 tp) (L2.zBE Y.K 2 (L2.iZ (L2.gName σ.length) (L2.iZ (L2.gName (σ.length+1)) L2.zBK))):=
   zGd (by subst hX;exact hc.1) (rO (xU YN Ya (.inl Yla) (.inr Yla)) (rO (xU YN Yb (.inl Ylb) (.inr Ylb)) zCr))
  have Ye:Y.env=compEnvC scope (yY X.env scope.names []) HP.objs.size X.env:=by subst hX;rfl
  have Yxe:∀ e s,¬ Y.xe e s:=by subst hX;exact fun _ _ h=>h
  have tn1:tn 0 h₁:=T.keep _ _ _ st2 fun b _ o e=>old b o e
  have loop:∀ s3:Shared,s3={ s2 with heap:=h₁,toks:=s2.toks+([]:List (Str×Value)).length }->
    codeAny (model X.prog X.w) X.A (.compLoop (.ListComp elt [⟨.Tuple [.Name xa pa,.Name xb pb] x1 tp,iter,[],0⟩] scope pos) 0 (.ref itA) (.ref s2.heap.objs.size) Y.env) (compPost (model X.prog X.w) X.A X.xe use Q' (.ref s2.heap.objs.size) HP.objs.size) s3:=by
   rintro s3 rfl
   subst hX
   have fr0:∀ b∈fp,upd H2 s2.heap.objs.size (.lst []) b=none:=fun b hb=>by
    rw [aO (Nat.ne_of_lt (hfl b hb))]
    exact (f2 b hb).1
   refine PyProof.Rows.LCp.codeAny_compLoop_pair (fun n s'=>∃ c:CW,n=ds.length - c.i/\CS (qN X [xa,xb] scope HP.objs.size s2 H2 fp) pins σ tn fp Hi2 H2 s2.heap.objs.size 2 (fun i=>dH f ρ (ds.drop i)) es c s') ?_ ds.length
    ⟨⟨0,[none,none],_,Hi2,[],[],es⟩,rfl,⟨IE,rfl,tn1,fr0,(Ext.refl e2.s).trans (Ext.newF e2.s H2D),aP,Hi2D,.nil,Nat.le_refl _,hes,rfl⟩⟩
   ·rintro n s3 ⟨⟨i,vv,H3,Hi3,ys,done,rest⟩,rfl,I3,wd3,st3,fr3,e3,hD3,hiD3,rd3,hl3,hr3,hes3⟩
    dsimp only at I3 wd3 st3 fr3 e3 hD3 hiD3 rd3 hl3 hr3 hes3 ⊢
    obtain ⟨v,v',rfl⟩:∃ v v',vv=[v,v']:=by
     match vv,wd3 with
     | [v,v'],_=>exact ⟨v,v',rfl⟩
    obtain ⟨w1,w2⟩:=gv Hi3 H3 e3.i e3.s i
    have lift:∀ {α:Type} {m:Sem α} {Q':α->Shared->Prop} {E:Value->Shared->Prop} {s':Shared},wpAny (model X.prog X.w) X.A m Q' (qN X [xa,xb] scope HP.objs.size s2 H2 fp).xe s'->wpAny (model X.prog X.w) X.A m Q' E s':=fun h=>wpAny_mono h (fun _ _ z=>z) fun e s z=>(Yxe e s z).elim
    by_cases hlt:i < ds.length
    ·obtain ⟨d,hd⟩:∃ d,ds[i]?=some d:=⟨_,List.getElem?_eq_getElem hlt⟩
     obtain ⟨go,yl⟩:=w2 d hd
     have e4:ds.drop i=d::ds.drop (i+1):=by
      rw [List.getElem?_eq_getElem hlt] at hd
      cases hd
      exact List.drop_eq_getElem_cons hlt
     rw [e4] at hr3
     refine thn (T.item (qN X [xa,xb] scope HP.objs.size s2 H2 fp) rfl rfl rfl hc.1 i pins s3 _ H3 _ I3 (stat fr3) st3 go) fun r s4 ⟨u,hru,h4⟩=>?_
     subst hru
     refine thn h4 fun _ s5 h5=>?_
     obtain ⟨xv,H5,I5,r5,y5,st5,fr5⟩:=h5
     obtain ⟨Hi5,e5,rd5⟩:=yl xv H5 y5
     have I5':=I5.pinned (stat fr5) (T.obj _ _ st5)
     obtain ⟨a,b,e,es',rfl,hf,hr4,hee⟩:=xX hr3
     obtain ⟨pa',ps,rfl,hq,hps⟩:=rd5.tupI
     obtain ⟨va,vb,rfl,ra,rb⟩:=hps.two
     refine lift (thn (asg _ s5 _ H5 _ u (fun σ' H'=>σ'=σ++[some va,some vb]/\H'=H5) I5' r5 ⟨pa',_,rfl,bN (e3.trans e5).s hq,rfl,va,_,rfl,vb,_,rfl,rfl,?_,rfl⟩) fun _ s6 h6=>?_)
     ·rw [List.set_append_right _ _ (Nat.le_refl _),Nat.sub_self,List.set_append_right _ _ (Nat.le_succ _),Nat.succ_sub (Nat.le_refl _),Nat.sub_self];rfl
     obtain ⟨σ6,H6,I6,rfl,rfl⟩:=h6
     have E5:Ext Hi2 H2 Hi5 H6:=e3.trans e5
     have R5:iK (qN X [xa,xb] scope HP.objs.size s2 H2 fp) ⟨G.B,G.Bi,fun _ _=>False⟩ Hi5 H6 (σ++[some va,some vb]) (ρ++[.val a,.val b]):=by
      have:=Rel.snoc (Rel.snoc (R2.grow E5) ra) rb
      rw [List.append_assoc,List.append_assoc] at this
      exact this
     obtain ⟨hD5,hiD5⟩:=e5.out hD3 hiD3
     have rd5':=rd3.mono e5.i
     have again:∀ {H8 Hi8:Hp} {ys':List V} {done' rest':List D} {s8:Shared},Inv (qN X [xa,xb] scope HP.objs.size s2 H2 fp) (pins++pI fp s5.heap) (σ++[some va,some vb]) H8 s8->Ext Hi2 H2 Hi8 H8->H8 s2.heap.objs.size=some (.lst ys')->Hi8 s2.heap.objs.size=none->IsDs X.K Hi8 ys' done'->done'.length<=i+1->
       dH f ρ (ds.drop (i+1))=.ok rest'->es=done'++rest'->∃ m,m < ds.length - i/\∃ c:CW,m=ds.length - c.i/\CS (qN X [xa,xb] scope HP.objs.size s2 H2 fp) pins σ tn fp Hi2 H2 s2.heap.objs.size 2 (fun i=>dH f ρ (ds.drop i)) es c s8:=fun {H8 Hi8 ys' done' rest' s8} I8 E8 a1 a2 a3 a4 a5 a6=>by
      refine ⟨ds.length - (i+1),by omega,⟨i+1,[some va,some vb],H8,Hi8,ys',done',rest'⟩,rfl,⟨I8.unpinned,rfl,T.keep _ _ _ st5 fun b hb o e=>(I8.pin (b,o) (List.mem_append_right _ (List.mem_append_right _ (cW hb e)))).1,fun b hb=>?_,E8,a1,a2,a3,a4,a5,a6⟩⟩
      obtain ⟨o,e,_⟩:=T.obj _ _ st5 b hb
      exact (I8.pin (b,o) (List.mem_append_right _ (List.mem_append_right _ (cW hb e)))).2.1
     refine lift (thn (hel _ s6 _ H6 (fun w H'=>∃ Hi',Ext Hi5 H6 Hi' H'/\IsD X.K Hi' w e) I6 ⟨_,Hi5,R5,by rw [hf];exact fun Hi' H' ee w hw=>⟨Hi',ee,hw⟩⟩) fun u8 s8 h8=>?_)
     obtain ⟨w8,H8,I8,r8,Hi8,e8,rw8⟩:=h8
     obtain ⟨hD8,hiD8⟩:=e8.out hD5 hiD5
     have rdy:IsDs X.K Hi8 ys done:=rd5'.mono e8.i
     refine lift (thn (oX (X:=(qN X [xa,xb] scope HP.objs.size s2 H2 fp)) _ s8 _ H8 (.ref s2.heap.objs.size) [w8] (.ref s2.heap.objs.size) [u8] (fun _ H'=>H'=upd H8 s2.heap.objs.size (.lst (ys++[w8]))) I8 rfl (.cons r8 .nil) ⟨_,ys,w8,rfl,rfl,hD8,?_,rfl⟩) fun _ s9 h9=>?_)
     ·rw [rdy.length]
      exact Nat.lt_of_le_of_lt hl3 (Nat.lt_of_lt_of_le hlt (Nat.le_trans hlen (by decide)))
     ·obtain ⟨_,H9,I9,_,rfl⟩:=h9
      refine again I9 (Ext.rewrite (E5.trans e8) H2D hiD8 ⟨_,hD8⟩) aP hiD8 (rdy.snoc rw8) (by rw [List.length_append];exact Nat.succ_le_succ hl3) hr4 ?_
      rw [hes3,hee,List.append_assoc];rfl
    ·rw [List.drop_eq_nil_of_le (by omega),dH] at hr3
     cases hr3
     refine thn (T.done (qN X [xa,xb] scope HP.objs.size s2 H2 fp) rfl rfl rfl hc.1 i pins s3 _ H3 _ I3 (stat fr3) st3 (w1 (by omega))) fun r s4 ⟨hrn,I4⟩=>?_
     subst hrn
     obtain ⟨m4,hn4,_⟩:=I4.loc
     have fC:H3 HP.objs.size=none:=I4.free
     have nC:∀ b u,H3 b=some u->b≠HP.objs.size:=fun b u e z=>by rw [z,fC] at e;cases e
     have U4:=I4.base
     refine hend HP.objs.size s2.heap.objs.size m4 s4 H3 hn4 (fun h' hs'=>?_) (I2.fpOk (by rw [hC];omega) fC) ?_
     ·have kp:∀ b o,b≠HP.objs.size->s4.heap.get? b=some o->h'.get? b=some o:=fun b o hb e=>hs'.extBut b o hb e
      refine Inv.call' I2 (ch:=fp) I4.os ⟨fun b o e n hb hx=>kp b o (ltC e) (U4.keep b o e n hb hx),fun b o e n hb hx=>?_,U4.free,fun b o e hx=>?_,U4.tups,U4.frzs,U4.tbls⟩ (fun b u e=>?_) I4.bare (fun b hb=>⟨(f2 b hb).2.2.2.1,(f2 b hb).2.1,(f2 b hb).2.2.2.2.1,(f2 b hb).2.2.2.2.2⟩)
      ·obtain ⟨sl,q⟩:=U4.slot b o e n hb hx
       exact ⟨sl,kp b _ (ltC e) q⟩
      ·obtain ⟨o',q⟩:=U4.there b o e hx
       exact ⟨o',kp b _ (ltC e) q⟩
      ·refine (I4.hok b u e).stay (fun c v hc q=>kp c v ?_ q) (fun _ q=>q) fun _ _ q=>q
       rcases hc with z | z
       ·rw [z];exact nC b u e
       ·exact nC c _ z
     ·refine ou2 Hi3 H3 e3 _ ⟨HD,hiD3,ys,hD3,?_⟩
      rw [hes3,List.append_nil]
      exact rd3
  rw [Ye] at loop
  exact codeAny_compStart_list (loop _ rfl) (T.self _ 0 _ _ _ tn1 (loop _ rfl))
theorem zFj (hc:X.calm=true/\TB X.K X.mg G.Bi G.B) (hr:Room k X.A) (Bk:BlkOk2 X [xa,xb] scope) (hN:(X.N++[xa,xb]).Nodup) (hi:PId X G (.Tuple [.Name xa pa,.Name xb pb] x1 tp) iter it)
  (hb:∀ (C:Addr) (s₂:Shared) (H₂:Hp) (fp:List Addr) (G':Gx),Good (qN X [xa,xb] scope C s₂ H₂ fp) G' k->PEd (qN X [xa,xb] scope C s₂ H₂ fp) G' elt f)
  (hs:∀ x,foldedSetIterable iter X.env x=pure x:=by intro _;rfl):PEf X G (.ListComp elt [⟨.Tuple [.Name xa pa,.Name xb pb] x1 tp,iter,[],0⟩] scope pos) (kR it f):=by
 intro pins s σ H Q I w
 obtain ⟨ρ,Hi,R,ou⟩:=w
 rw [eval_ListComp]
 refine qT hc hr Bk hN hi hb hs (use:=none) (Qa:=fun a H'=>Q (.ref a) H') I R ou fun C A m s4 H3 hn hI _ q=>?_
 exact ⟨m,hn,fun h' hs'=>⟨.ref A,H3,hI h' hs',rfl,q⟩⟩
theorem zEp (hc:X.calm=true/\TB X.K X.mg G.Bi G.B) (hr:Room k X.A) (Bk:BlkOk2 X [xa,xb] scope) (hN:(X.N++[xa,xb]).Nodup) (hi:PId X G (.Tuple [.Name xa pa,.Name xb pb] x1 tp) iter it)
  (hb:∀ (C:Addr) (s₂:Shared) (H₂:Hp) (fp:List Addr) (G':Gx),Good (qN X [xa,xb] scope C s₂ H₂ fp) G' k->PEd (qN X [xa,xb] scope C s₂ H₂ fp) G' elt f)
  (hs:∀ x,foldedSetIterable iter X.env x=pure x:=by intro _;rfl):PCf X G (.ListComp elt [⟨.Tuple [.Name xa pa,.Name xb pb] x1 tp,iter,[],0⟩] scope pos) (kR it f):=by
 intro pins s σ H Q I w u Q' hend
 obtain ⟨ρ,Hi,R,ou⟩:=w
 rw [arm_evalThenUse_ListComp]
 refine wpAny_bind (qT hc hr Bk hN hi hb hs (use:=some u) (Q':=fun _ s=>wpAny (model X.prog X.w) X.A (pure ()) Q' X.xe s) (Qa:=fun a H'=>Q (.ref a) H') I R ou fun C A m s4 H3 hn hI fo q=>?_)
 refine thn (hend C m s4 (.ref A) (.ref A) H3 hn hI fo rfl q) fun _ s5 h5=>?_
 obtain ⟨m5,hn5,h5⟩:=h5
 exact ⟨m5,hn5,fun h' hs'=>wpAny_pure (h5 h' hs')⟩
def zEy (sc:Scope) (N:List Str) (xs:List Str) (scope:Scope):Bool:=
 scope.names.all (fun y=>y.2 != .cell) && xs.all (fun x=>scope.names.lookup x==some .local) && scope.names.all (fun y=>y.2 != .local || scope.names.lookup y.1==some .local)
  && scope.names.all (fun p=>p.2 != .free || (sc.names.lookup p.1==some .cell || sc.names.lookup p.1==some .free)) && N.all (fun y=>scope.names.lookup y != some .local)
theorem zDF {sc:Scope} {N xs:List Str} (hk:scope.kind=.function) (hsc:X.env.scope=sc) (hN:X.N=N) (h:zEy sc N xs scope=true):BlkOk2 X xs scope:=by
 unfold zEy at h
 simp only [Bool.and_eq_true] at h
 obtain ⟨⟨⟨⟨h1,h2⟩,h3⟩,h4⟩,h5⟩:=h
 subst hN hsc
 refine ⟨hk,fun y hy e=>?_,fun x hx=>?_,fun y hy e=>?_,fun p hp e=>?_,fun y hy e=>?_⟩
 ·have:=List.all_eq_true.mp h1 y hy
  rw [e] at this;cases this
 ·exact beq_iff_eq.mp (List.all_eq_true.mp h2 x hx)
 ·have:=List.all_eq_true.mp h3 y hy
  rw [e] at this
  simpa using this
 ·have:=List.all_eq_true.mp h4 p hp
  rw [e] at this
  have q:X.env.scope.names.lookup p.1=some .cell∨X.env.scope.names.lookup p.1=some .free:=by simpa using this
  exact q
 ·have:=List.all_eq_true.mp h5 y hy
  rw [e] at this
  cases this
theorem vU {sc:Scope} {N:List Str} (W:Good X G k) (hnd:(N++[xa,xb]).Nodup) (hk:scope.kind=.function) (hsc:X.env.scope=sc) (hN:X.N=N) (h:zEy sc N [xa,xb] scope=true) (hi:PId X G (.Tuple [.Name xa pa,.Name xb pb] x1 tp) iter it)
  (hb:∀ (C:Addr) (s₂:Shared) (H₂:Hp) (fp:List Addr) (G':Gx),Good (qN X [xa,xb] scope C s₂ H₂ fp) G' k->PEd (qN X [xa,xb] scope C s₂ H₂ fp) G' elt f)
  (hs:∀ x,foldedSetIterable iter X.env x=pure x:=by intro _;rfl):PEf X G (.ListComp elt [⟨.Tuple [.Name xa pa,.Name xb pb] x1 tp,iter,[],0⟩] scope pos) (kR it f):=
 zFj ⟨W.calm,W.tb⟩ W.room (zDF hk hsc hN h) (hN ▸ hnd) hi hb hs
theorem zBV {sc:Scope} {N:List Str} (W:Good X G k) (hnd:(N++[xa,xb]).Nodup) (hk:scope.kind=.function) (hsc:X.env.scope=sc) (hN:X.N=N) (h:zEy sc N [xa,xb] scope=true) (hi:PId X G (.Tuple [.Name xa pa,.Name xb pb] x1 tp) iter it)
  (hb:∀ (C:Addr) (s₂:Shared) (H₂:Hp) (fp:List Addr) (G':Gx),Good (qN X [xa,xb] scope C s₂ H₂ fp) G' k->PEd (qN X [xa,xb] scope C s₂ H₂ fp) G' elt f)
  (hs:∀ x,foldedSetIterable iter X.env x=pure x:=by intro _;rfl):PCf X G (.ListComp elt [⟨.Tuple [.Name xa pa,.Name xb pb] x1 tp,iter,[],0⟩] scope pos) (kR it f):=
 zEp ⟨W.calm,W.tb⟩ W.room (zDF hk hsc hN h) (hN ▸ hnd) hi hb hs
end
end L3
namespace L3
open PySem PySem.Spec PyProof.Rows L2
section
variable {prog:Program} {w:World} {A:Around} {E:Value->Shared->Prop} {s:Shared}
end
section
variable {X:Cx} {G:Gx} {fs:Fv} {f:Ev}
unseal PEd PEf PTd PWd PAd PSd cN POd PGd eK PId PSx iE PTs PCd PCf
end
end L3
namespace L3
open PySem PySem.Spec PyProof.Rows L2
unseal PEd PEf PTd PWd PAd PSd cN POd PGd eK PId PSx iE PTs PCd PCf
section
variable {X:Cx} {G:Gx} {f:Ev} {pos:Pos}
section
variable {o:Expr} {k:Nat} {b:Bool} {p1 p2 p3:Pos}
end
section
variable {i fo:Nat} {x y:Str} {ea eb ec ct o0 o1:Expr} {body rest:List Stmt} {a b:Fv} {cmp:Tv} {sr:Sv} {p1 p2 p3 p4 p5 p6 p7 p8 p9 p10 p11 p12 p13 p14 p15 p16:Pos} {k5 k0 k1:Nat}
end
theorem IsDs.three {K:PySem.W.Frag} {H:Hp} {xs:List V} {d1 d2 d3:D} (h:IsDs K H xs [d1,d2,d3]):∃ v1 v2 v3,xs=[v1,v2,v3]/\IsD K H v1 d1/\IsD K H v2 d2/\IsD K H v3 d3:=by
 cases h with
 | cons u1 t=>cases t with
  | cons u2 t=>cases t with
   | cons u3 t=>cases t;exact ⟨_,_,_,rfl,u1,u2,u3⟩
section
variable {i j1 j2 j3:Nat} {x:Str} {tg ec c1 c2 c3 esl ev o:Expr} {b2 b3:List Stmt} {t1 t2 t3:Tv} {sl:Fv} {g:Ev} {p1 p2 p3 p4 p5 p6 p7 p8 p9:Pos}
end
end
end L3
namespace L3
open PySem PySem.Spec PyProof.Rows L2
def Iv (xs:Array Keyed) (i:Nat):Int:=match xs[i]? with
 | some p=>numOf p.2
 | none=>0
theorem zCJ {xs ys:Array Keyed} {i j:Nat} (h:xs[i]?=ys[j]?):Iv xs i=Iv ys j:=by unfold Iv;rw [h]
theorem zIv {xs:Array Keyed} {a d:Nat} (ha:a < xs.size) (hd:d<=a) (k:Nat):Iv (bubble xs a d) k=if k=a - d then Iv xs a else if a - d < k/\k<=a then Iv xs (k - 1) else Iv xs k:=by
 have e:=getElem?_bubble ha d hd k
 by_cases c1:k=a - d
 ·rw [if_pos c1] at e ⊢;exact zCJ e
 ·rw [if_neg c1] at e ⊢
  by_cases c2:a - d < k/\k<=a
  ·rw [if_pos c2] at e ⊢;exact zCJ e
  ·rw [if_neg c2] at e ⊢;exact zCJ e
theorem oO {xs:Array Keyed} {a b:Nat} (hb:b<=xs.size) (k:Nat):Iv (mirror xs a b ((b - a) / 2)) k=if a<=k/\k < b then Iv xs (a+b - 1 - k) else Iv xs k:=by
 have e:=getElem?_mirror_all (i:=a) hb k
 by_cases c:a<=k/\k < b
 ·rw [if_pos c] at e ⊢;exact zCJ e
 ·rw [if_neg c] at e ⊢;exact zCJ e
structure Up (N:Nat) (xs:Array Keyed) (m:Nat):Prop where
 so:∀ i j,i < j->j < m->K xs i < K xs j∨K xs i=K xs j/\Iv xs i < Iv xs j
 lo:∀ i,i < m->Iv xs i < m
 hi:∀ i,m<=i->i < N->Iv xs i=i
theorem Up.le {N m:Nat} {xs:Array Keyed} (u:Up N xs m) {i j:Nat} (h:i<=j) (hj:j < m):K xs i<=K xs j:=by
 by_cases c:i=j
 ·subst c;exact Int.le_refl _
 ·rcases u.so i j (by omega) hj with z | z
  ·exact Int.le_of_lt z
  ·exact Int.le_of_eq z.1
theorem Up.on {N m n:Nat} {xs:Array Keyed} (u:Up N xs m) (hn:n<=N) (hm:m<=n) (s:SortedTo xs n):Up N xs n where
 so i j l hj:=by
  by_cases c:j < m
  ·exact u.so i j l c
  ·have e:=u.hi j (by omega) (by omega)
   have z:=s i j (by omega) hj
   have t:Iv xs i < Iv xs j:=by
    by_cases c2:i < m
    ·have:=u.lo i c2;omega
    ·have:=u.hi i (by omega) (by omega);omega
   rcases Int.lt_or_eq_of_le z with z | z
   ·exact .inl z
   ·exact .inr ⟨z,t⟩
 lo i hi:=by
  by_cases c:i < m
  ·have:=u.lo i c;omega
  ·have:=u.hi i (by omega) (by omega);omega
 hi i h1 h2:=u.hi i (by omega) h2
structure Dw (N:Nat) (xs:Array Keyed) (b:Nat):Prop where
 so:∀ i j,i < j->j < b->K xs j < K xs i∨K xs j=K xs i/\Iv xs j < Iv xs i
 lo:∀ i,i < b->Iv xs i < b
 hi:∀ i,b<=i->i < N->Iv xs i=i
structure Dq (N:Nat) (xs:Array Keyed) (b x:Nat):Prop extends Dw N xs b where
 bx:b < x
 eq:∀ i,b<=i->i < x->K xs i=K xs (x - 1)
 gt:∀ i,i < b->K xs (x - 1) < K xs i
theorem Dq.turn {N:Nat} {xs ys:Array Keyed} {b x:Nat} (d:Dq N xs b x) (hx:x<=N) (hk:∀ i,K ys i=K xs i) (hv:∀ i,Iv ys i=if b<=i/\i < x then Iv xs (b+x - 1 - i) else Iv xs i):Dw N ys x where
 so i j l hj:=by
  rw [hk,hk,hv,hv]
  by_cases c:j < b
  ·rw [if_neg (by omega),if_neg (by omega)];exact d.so i j l c
  ·rw [d.eq j (by omega) hj,if_pos (by omega),d.hi _ (by omega) (by omega)]
   by_cases c2:i < b
   ·exact .inl (d.gt i c2)
   ·rw [d.eq i (by omega) (by omega),if_pos (by omega),d.hi _ (by omega) (by omega)]
    exact .inr ⟨rfl,by omega⟩
 lo i hi:=by
  rw [hv]
  split
  ·rw [d.hi _ (by omega) (by omega)];omega
  ·have:=d.lo i (by omega);have:=d.bx;omega
 hi i h1 h2:=by rw [hv,if_neg (by omega)];exact d.hi i (by have:=d.bx;omega) h2
theorem Dw.next {N:Nat} {xs:Array Keyed} {x:Nat} (d:Dw N xs x) (hx:x < N) (h1:0 < x) (h:∀ i,i < x->K xs x < K xs i):Dq N xs x (x+1) where
 toDw:=d
 bx:=by omega
 eq i a b:=by rw [show i=x+1 - 1 by omega]
 gt i hi:=by rw [show x+1 - 1=x by omega];exact h i hi
section
variable {prog:Program} {w:World} {A:Around} {E:Value->Shared->Prop} {s:Shared} {a₀:Array Keyed}
theorem zDd {st:SortSt} {n r:Nat} {Q:Option Nat->SortSt->Prop} (ik:IntKeys a₀) (hr:r<=a₀.size) (h1:1<=n) (hn:n<=r) (sb:SBase a₀ st) (d:Dw a₀.size (arrOf st) n)
  (h:∀ m st',SBase a₀ st'->1<=m->m<=r->Up a₀.size (arrOf st') m->Q (some m) st'):wpS (model prog w) A E s (tail3 n r) Q st:=by
 unfold tail3
 have sz:n<=(arrOf st).size:=by rw [sb.size];omega
 refine wpS_bind (wpS_reverse ?_)
 have sb2:SBase a₀ (setArr st (mirror (arrOf st) 0 n ((n - 0) / 2))):=sb.setArr (mirror_perm ..)
 have up:Up a₀.size (mirror (arrOf st) 0 n ((n - 0) / 2)) n:=by
  refine ⟨fun i j l hj=>?_,fun i hi=>?_,fun i p q=>?_⟩
  ·rw [K_mirror sz,K_mirror sz,oO sz,oO sz,if_pos (by omega),if_pos (by omega),if_pos (by omega),if_pos (by omega)]
   exact d.so _ _ (by omega) (by omega)
  ·rw [oO sz,if_pos (by omega)];exact d.lo _ (by omega)
  ·rw [oO sz,if_neg (by omega)];exact d.hi i p q
 exact wpS_bind (wpS_ascLoop ik hr h1 hn sb2 (fun i j l hj=>up.le l hj) fun m m1 m2 sm _=>wpS_pure (h m _ sb2 (by omega) m2 (up.on (by omega) m1 sm)))
theorem zHt {st:SortSt} {b n r:Nat} {Q:DescSt->SortSt->Prop} (ik:IntKeys a₀) (hr:r<=a₀.size) (hn:n<=r) (hb:b+1=n) (sb:SBase a₀ st) (d:Dq a₀.size (arrOf st) b n)
  (h:∀ m q st',SBase a₀ st'->m<=r->q < m->Dq a₀.size (arrOf st') (m - (q+1)) m->Q (none,m,q) st'):wpS (model prog w) A E s (descLoop n r) Q st:=by
 unfold descLoop
 refine wpS_forRange (I:=fun x c st'=>∃ q,c=(none,x,q)/\SBase a₀ st'/\q < x/\Dq a₀.size (arrOf st') (x - (q+1)) x) ?step ?fin ⟨0,rfl,sb,by omega,by rw [show n - (0+1)=b by omega];exact d⟩
 case fin=>
  rintro c st' ⟨q,rfl,sb',hq,d'⟩
  rw [show max n r=r by omega] at hq d' ⊢
  exact h r q st' sb' (Nat.le_refl _) hq d'
 case step=>
  rintro x c st' nx xr ⟨q,rfl,sb',hq,d'⟩
  dsimp only
  have sz:x<=(arrOf st').size:=by rw [sb'.size];omega
  refine wpS_bind (wpS_ltK sb' ik (show x < _ by omega) (show x - 1 < _ by omega) ?_)
  by_cases c1:K (arrOf st') x < K (arrOf st') (x - 1)
  ·have all:∀ i,i < x->K (arrOf st') x < K (arrOf st') i:=fun i hi=>by
    by_cases c2:i < x - (q+1)
    ·exact Int.lt_trans c1 (d'.gt i c2)
    ·rw [d'.eq i (by omega) hi];exact c1
   rw [decide_eq_true c1]
   dsimp only
   rw [if_pos rfl]
   by_cases c3:q > 0
   ·rw [if_pos c3]
    have kk:=K_mirror_equal (i:=x - (q+1)) sz (fun k p1 p2=>d'.eq k p1 p2)
    refine wpS_bind (wpS_reverse (wpS_pure ⟨0,rfl,sb'.setArr (mirror_perm ..),by omega,?_⟩))
    have dw:Dw a₀.size (mirror (arrOf st') (x - (q+1)) x ((x - (x - (q+1))) / 2)) x:=d'.turn (by omega) kk (oO sz)
    exact dw.next (by omega) (by omega) fun i hi=>by rw [kk,kk];exact all i hi
   ·rw [if_neg c3]
    have q0:q=0:=by omega
    subst q0
    have dw:Dw a₀.size (arrOf st') x:=d'.turn (by omega) (fun _=>rfl) fun i=>by
     split
     ·rw [show x - (0+1)+x - 1 - i=i by omega]
     ·rfl
    exact wpS_pure ⟨0,rfl,sb',by omega,dw.next (by omega) (by omega) all⟩
  ·rw [decide_eq_false c1]
   dsimp only
   rw [if_neg (by decide)]
   refine wpS_bind (wpS_ltK sb' ik (show x - 1 < _ by omega) (show x < _ by omega) ?_)
   by_cases c4:K (arrOf st') (x - 1) < K (arrOf st') x
   ·rw [decide_eq_true c4]
    dsimp only
    rw [if_pos rfl]
    exact wpS_pure (h x q st' sb' (by omega) hq d')
   ·rw [decide_eq_false c4]
    dsimp only
    rw [if_neg (by decide)]
    have ee:K (arrOf st') x=K (arrOf st') (x - 1):=by omega
    refine wpS_pure ⟨q+1,rfl,sb',by omega,?_⟩
    rw [show x+1 - (q+1+1)=x - (q+1) by omega]
    refine ⟨d'.toDw,by omega,fun i p1 p2=>?_,fun i p1=>?_⟩
    ·rw [show x+1 - 1=x by omega]
     by_cases c5:i=x
     ·rw [c5]
     ·rw [ee];exact d'.eq i p1 (by omega)
    ·rw [show x+1 - 1=x by omega,ee];exact d'.gt i p1
theorem zDE {st:SortSt} {n r:Nat} {Q:Option Nat->SortSt->Prop} (ik:IntKeys a₀) (hr:r<=a₀.size) (hn:n+1<=r) (sb:SBase a₀ st) (d:Dq a₀.size (arrOf st) n (n+1))
  (h:∀ m st',SBase a₀ st'->1<=m->m<=r->Up a₀.size (arrOf st') m->Q (some m) st'):wpS (model prog w) A E s (descPart n r) Q st:=by
 unfold descPart
 refine wpS_bind (wpS_lift (wpAny_rule ⟨rfl,?_⟩))
 refine wpS_bind (zHt ik hr hn rfl sb d fun m q st' sb' mr hq d'=>?_)
 dsimp only
 have sz:m<=(arrOf st').size:=by rw [sb'.size];omega
 by_cases c:q > 0
 ·rw [if_pos c]
  exact wpS_bind (wpS_reverse (zDd ik hr (by omega) mr (sb'.setArr (mirror_perm ..)) (d'.turn (by omega) (K_mirror_equal sz fun k p1 p2=>d'.eq k p1 p2) (oO sz)) h))
 ·rw [if_neg c]
  have q0:q=0:=by omega
  subst q0
  refine zDd ik hr (by omega) mr sb' (d'.turn (by omega) (fun _=>rfl) fun i=>?_) h
  split
  ·rw [show m - (0+1)+m - 1 - i=i by omega]
  ·rfl
theorem zIw {st:SortSt} {r:Nat} {Q:Option Nat->SortSt->Prop} (ik:IntKeys a₀) (hr:r<=a₀.size) (h1:1<=r) (sb:SBase a₀ st) (h0:∀ i,i < a₀.size->Iv (arrOf st) i=i)
  (h:∀ m st',SBase a₀ st'->1<=m->m<=r->Up a₀.size (arrOf st') m->Q (some m) st'):wpS (model prog w) A E s (countRun' 0 r) Q st:=by
 have u1:Up a₀.size (arrOf st) 1:=⟨fun i j l hj=>by omega,fun i hi=>by have:=h0 i (by omega);omega,fun i _ z=>h0 i z⟩
 rw [countRun0_eq]
 refine wpS_bind (wpS_ascLoop ik hr (Nat.le_refl 1) h1 sb (fun i j l hj=>u1.le l hj) fun n n1 n2 sn no=>?_)
 have un:=u1.on (show n<=_ by omega) n1 sn
 dsimp only
 by_cases c:n=r
 ·rw [if_pos (by simpa using c)]
  exact wpS_pure (h n st sb n1 n2 un)
 ·rw [if_neg (by simpa using c)]
  have fl:K (arrOf st) n < K (arrOf st) (n - 1):=no.resolve_left c
  by_cases c2:n > 1
  ·rw [if_pos c2]
   refine wpS_bind (wpS_ltK sb ik (show 0 < _ by omega) (show n - 1 < _ by omega) ?_)
   by_cases c3:K (arrOf st) 0 < K (arrOf st) (n - 1)
   ·rw [decide_eq_true c3]
    dsimp only
    rw [if_pos rfl]
    exact wpS_pure (h n st sb n1 n2 un)
   ·rw [decide_eq_false c3]
    dsimp only
    rw [if_neg (by decide)]
    have sz:n<=(arrOf st).size:=by rw [sb.size];omega
    have al:∀ k,0<=k->k < n->K (arrOf st) k=K (arrOf st) (n - 1):=fun k _ hk=>by
     have p1:=sn 0 k (by omega) hk
     have p2:=sn k (n - 1) (by omega) (by omega)
     omega
    have kk:=K_mirror_equal (i:=0) sz al
    have dq:Dq a₀.size (arrOf st) 0 n:=⟨⟨fun i j l hj=>by omega,fun i hi=>by omega,fun i _ z=>h0 i z⟩,by omega,fun i p1 p2=>al i p1 p2,fun i hi=>by omega⟩
    have dw:Dw a₀.size (mirror (arrOf st) 0 n ((n - 0) / 2)) n:=dq.turn (by omega) kk (oO sz)
    refine wpS_bind (wpS_reverse (zDE ik hr (by omega) (sb.setArr (mirror_perm ..)) (dw.next (by omega) (by omega) fun i hi=>?_) h))
    rw [kk,kk,al i (by omega) hi];exact fl
  ·rw [if_neg c2]
   have n0:n=1:=by omega
   subst n0
   have dw:Dw a₀.size (arrOf st) 1:=⟨fun i j l hj=>by omega,fun i hi=>by have:=h0 i (by omega);omega,fun i _ z=>h0 i z⟩
   refine zDE ik hr (by omega) sb (dw.next (by omega) (by omega) fun i hi=>?_) h
   rw [show i=1 - 1 by omega];exact fl
theorem zJR {st:SortSt} {n m:Nat} {Q:Bool->SortSt->Prop} (ik:IntKeys a₀) (hn:n<=a₀.size) (h1:1<=m) (hm:m<=n) (sb:SBase a₀ st) (u:Up a₀.size (arrOf st) m)
  (h:∀ st',SBase a₀ st'->Up a₀.size (arrOf st') n->Q true st'):wpS (model prog w) A E s (binarySort' 0 n m) Q st:=by
 rw [binarySort'_eq]
 simp only [Nat.zero_add]
 refine wpS_bind (wpS_mono (wpS_forRange (I:=fun k c st'=>c=(none,())/\SBase a₀ st'/\Up a₀.size (arrOf st') (min k n)) (Q:=fun c st'=>c=(none,())/\SBase a₀ st'/\Up a₀.size (arrOf st') n) ?step ?fin ⟨rfl,sb,by rw [show min (max m 1) n=m by omega];exact u⟩) ?post)
 case post=>
  rintro c st' ⟨rfl,sb',u'⟩
  exact wpS_pure (h st' sb' u')
 case fin=>
  rintro c st' ⟨hc,sb',u'⟩
  rw [show min (max (max m 1) n) n=n by omega] at u'
  exact ⟨hc,sb',u'⟩
 case step=>
  rintro k c st' mk kn ⟨rfl,sb',u'⟩
  rw [show min k n=k by omega] at u'
  have ka:k < a₀.size:=by omega
  refine wpS_bind (wpS_mono (wpS_forRange
   (I:=fun x c st2=>st2=st'/\∃ l r,c=(none,l,r)/\l<=r/\r<=k/\r - l<=k - x/\(∀ i,i < l->K (arrOf st') i<=K (arrOf st') k)/\∀ i,r<=i->i < k->K (arrOf st') k < K (arrOf st') i)
   (Q:=fun c st2=>st2=st'/\∃ l r,c=(none,l,r)/\l<=k/\(∀ i,i < l->K (arrOf st') i<=K (arrOf st') k)/\∀ i,l<=i->i < k->K (arrOf st') k < K (arrOf st') i) ?js ?jf ?ji) ?jp)
  case ji=>exact ⟨rfl,0,k,rfl,by omega,by omega,by omega,fun i z=>by omega,fun i y z=>by omega⟩
  case jf=>
   rintro c st2 ⟨rfl,l,r,rfl,lr,rk,lx,f1,f2⟩
   have:l=r:=by omega
   subst this
   exact ⟨rfl,l,l,rfl,rk,f1,f2⟩
  case js=>
   rintro x c st2 _ xk ⟨rfl,l,r,rfl,lr,rk,lx,f1,f2⟩
   dsimp only
   by_cases c1:l ≥ r
   ·rw [if_pos c1]
    have:l=r:=by omega
    subst this
    exact wpS_pure ⟨rfl,l,l,rfl,rk,f1,f2⟩
   ·rw [if_neg c1]
    refine wpS_bind (wpS_ltK sb' ik ka (show (l+r) / 2 < _ by omega) ?_)
    by_cases c2:K (arrOf st2) k < K (arrOf st2) ((l+r) / 2)
    ·rw [decide_eq_true c2]
     dsimp only
     rw [if_pos rfl]
     exact wpS_pure ⟨rfl,l,(l+r) / 2,rfl,by omega,by omega,by omega,f1,fun i y z=>Int.lt_of_lt_of_le c2 (u'.le y z)⟩
    ·rw [decide_eq_false c2]
     dsimp only
     rw [if_neg (by decide)]
     exact wpS_pure ⟨rfl,(l+r) / 2+1,r,rfl,by omega,by omega,by omega,fun i y=>Int.le_trans (u'.le (show i<=(l+r) / 2 by omega) (by omega)) (Int.not_lt.mp c2),f2⟩
  case jp=>
   rintro c st2 ⟨rfl,l,r,rfl,lk,f1,f2⟩
   show wpS _ _ _ _ (do moveDown' k l;pure (ForInStep.yield (none,()))) _ _
   rw [moveDown'_eq]
   refine wpS_bind (wpS_modify (wpS_pure ⟨rfl,sb'.setArr (bubble_perm ..),?_⟩))
   rw [show min (k+1) n=k+1 by omega]
   have sz:k < (arrOf st2).size:=by rw [sb'.size];exact ka
   have ik2:=u'.hi k (Nat.le_refl _) ka
   show Up a₀.size (bubble (arrOf st2) k (k - l)) (k+1)
   have kb:=fun i=>K_bubble sz (show k - l<=k by omega) i
   have vb:=fun i=>zIv sz (show k - l<=k by omega) i
   rw [show k - (k - l)=l by omega] at kb vb
   refine ⟨fun i j ij jk=>?_,fun i z=>?_,fun i y z=>?_⟩
   ·rw [kb,kb,vb,vb]
    by_cases e1:i=l
    ·rw [if_pos e1,if_neg (show j≠l by omega),if_pos (show l < j/\j<=k by omega),if_pos e1]
     exact .inl (f2 _ (by omega) (by omega))
    ·by_cases e2:j=l
     ·rw [if_neg e1,if_neg (show ¬ (l < i/\i<=k) by omega),if_pos e2,if_neg e1,if_neg (show ¬ (l < i/\i<=k) by omega),if_pos e2]
      have t:=u'.lo i (by omega)
      rcases Int.lt_or_eq_of_le (f1 i (by omega)) with z | z
      ·exact .inl z
      ·exact .inr ⟨z,by omega⟩
     ·rw [if_neg e1,if_neg e2,if_neg e1,if_neg e2]
      by_cases g1:l < i/\i<=k
      ·rw [if_pos g1,if_pos g1,if_pos (show l < j/\j<=k by omega),if_pos (show l < j/\j<=k by omega)]
       exact u'.so _ _ (by omega) (by omega)
      ·rw [if_neg g1,if_neg g1]
       by_cases g2:l < j/\j<=k
       ·rw [if_pos g2,if_pos g2];exact u'.so _ _ (by omega) (by omega)
       ·rw [if_neg g2,if_neg g2];exact u'.so _ _ ij (by omega)
   ·rw [vb]
    split
    ·omega
    ·split
     ·have:=u'.lo (i - 1) (by omega);omega
     ·have:=u'.lo i (by omega);omega
   ·rw [vb,if_neg (by omega),if_neg (by omega)];exact u'.hi i (by omega) z
theorem zGO {st:SortSt} {Q:Unit->SortSt->Prop} (ik:IntKeys a₀) (sb:SBase a₀ st) (h2:2<=a₀.size) (h64:a₀.size < 64) (h0:∀ i,i < a₀.size->Iv (arrOf st) i=i)
  (h:∀ st',(arrOf st').Perm a₀->failedOf st'=none->Up a₀.size (arrOf st') a₀.size->Q () st'):wpS (model prog w) A E s sortRuns' Q st:=by
 rw [sortRuns'_eq]
 refine wpS_bind (wpS_get ?_)
 dsimp only
 have mr:minRun' a₀.size a₀.size 0=a₀.size:=by
  obtain ⟨f,hf⟩:∃ f,a₀.size=f+1:=⟨a₀.size - 1,by omega⟩
  have z:minRun' (f+1) a₀.size 0=a₀.size:=by rw [minRun'_succ,if_pos h64,Nat.add_zero]
  rw [<-hf] at z;exact z
 have fin:∀ st':SortSt,SBase a₀ st'->Up a₀.size (arrOf st') a₀.size->(fun st=>(arrOf st).Perm a₀/\failedOf st=none/\pendingOf st=#[(0,a₀.size,0)]/\Up a₀.size (arrOf st) a₀.size) (setPending st' ((pendingOf st').push (0,a₀.size,0))):=fun st' b u=>
  ⟨b.perm,b.failed,by show (pendingOf st').push _=_;rw [b.pend];rfl,u⟩
 simp only [sb.size,mr]
 refine wpS_bind (wpS_mono (wpS_forRange
  (I:=fun x c st'=>(x=0/\c=(none,0)/\st'=st)∨(1<=x/\c=(none,a₀.size)/\(arrOf st').Perm a₀/\failedOf st'=none/\pendingOf st'=#[(0,a₀.size,0)]/\Up a₀.size (arrOf st') a₀.size))
  (Q:=fun c st'=>c=(none,a₀.size)/\(arrOf st').Perm a₀/\failedOf st'=none/\pendingOf st'=#[(0,a₀.size,0)]/\Up a₀.size (arrOf st') a₀.size) ?step ?fin (.inl ⟨rfl,rfl,rfl⟩)) ?post)
 case fin=>
  rintro c st' (⟨z,_,_⟩ | ⟨_,r⟩)
  ·omega
  ·exact r
 case step=>
  rintro x c st' _ hx (⟨rfl,rfl,rfl⟩ | ⟨_,rfl,r⟩)
  ·dsimp only
   rw [if_neg (by omega)]
   simp only [Nat.sub_zero,Nat.min_self,Nat.zero_add]
   refine wpS_bind (zIw ik (Nat.le_refl _) (by omega) sb h0 fun m st2 sb2 m1 m2 u2=>?_)
   dsimp only
   by_cases c:m < a₀.size
   ·rw [if_pos c]
    refine wpS_bind (wpS_lift (wpAny_rule ⟨rfl,?_⟩))
    refine wpS_bind (zJR ik (Nat.le_refl _) m1 m2 sb2 u2 fun st3 sb3 u3=>?_)
    rw [Bool.not_true,if_neg Bool.false_ne_true]
    refine wpS_bind (wpS_get ?_)
    rw [show (pendingOf st3).back?=none by rw [sb3.pend];rfl]
    dsimp only
    exact wpS_bind (wpS_modify (wpS_pure (.inr ⟨by omega,rfl,fin st3 sb3 u3⟩)))
   ·rw [if_neg c]
    have mm:m=a₀.size:=by omega
    subst mm
    refine wpS_bind (wpS_get ?_)
    rw [show (pendingOf st2).back?=none by rw [sb2.pend];rfl]
    dsimp only
    exact wpS_bind (wpS_modify (wpS_pure (.inr ⟨by omega,rfl,fin st2 sb2 u2⟩)))
  ·dsimp only
   rw [if_pos (Nat.le_refl _)]
   exact wpS_pure ⟨rfl,r⟩
 case post=>
  rintro c st' ⟨rfl,p1,p2,p3,p4⟩
  dsimp only
  refine wpS_bind (wpS_mono (wpS_forRange (I:=fun _ c st2=>st2=st'/\c=(none,())) (Q:=fun c st2=>st2=st'/\c=(none,())) ?_ (fun _ _ z=>z) ⟨rfl,rfl⟩) ?_)
  ·rintro x c st2 _ _ ⟨rfl,rfl⟩
   refine wpS_bind (wpS_get ?_)
   rw [if_pos (by rw [p3];exact Nat.le_refl 1)]
   exact wpS_pure ⟨rfl,rfl⟩
  ·rintro c st2 ⟨rfl,rfl⟩
   exact wpS_pure (h _ p1 p2 p4)
end
end L3
namespace L3
open PySem PySem.Spec PyProof.Rows L2
unseal PEd PEf PTd PWd PAd PSd cN POd PGd eK PId PSx iE PTs PCd PCf
section
variable {prog:Program} {w:World} {A:Around} {E:Value->Shared->Prop} {s:Shared}
theorem sZ {r:Addr} {a b c:Int} {t u v:Tok} {n:Nat} {R:List Value->Shared->Prop} (hh:A.handled=none) (hr:IsRange s.heap r a b c t u v) (hsmall:Builtin.Range.small a b c=true) (hn:Builtin.Range.rangeSize a b c=n) (hlen:n<=2^24)
  (h:∀ h' tk acc,(∀ b o,s.heap.get? b=some o->h'.get? b=some o)->s.heap.objs.size<=h'.objs.size->ItemsOf (fun i v=>∃ t,v=.int (a+i * c) t) acc n->R acc.toList { s with heap:=h',toks:=tk }):
  wpAny (model prog w) A (collect (.ref r)) R E s:=by
 unfold collect
 refine wpAny_bind (wpAny_runValue (codeAny_builtin entry_proto_collect' ?_))
 rw [Around.under_plainId PySem.F.plain_proto_collect _]
 show wpAny _ A.in1 (newList [] >>= fun l=>again (.builtin "list.__iadd__" ⟨[l,.ref r],[]⟩)) _ _ s
 refine wpAny_bind (wpAny_newObj_type ?_)
 refine wpAny_pure ⟨plainId_quiet PySem.F.plain_list_iadd _,codeAny_builtin entry_list_iadd' ?_⟩
 rw [Around.under_plainId PySem.F.plain_list_iadd _]
 have hS₁:(s.heap.push { cls:=.type "list", data:=.seq ([]:List Value).toArray }).get? s.heap.objs.size=some { cls:=.type "list", data:=.seq #[] }:=Heap.get?_push_size _ rfl
 show wpAny _ A.in1 (Builtin.List.listExtendWith (.ref s.heap.objs.size) (.ref r) (.ref s.heap.objs.size)) _ _ _
 have key:=wpAny_extend_range (prog:=prog) (w:=w) (A:=A) (s:={ s with heap:=s.heap.push { cls:=.type "list", data:=.seq ([]:List Value).toArray } })
  (R:=fun (q:Result) (s':Shared)=>∃ (h':Heap) (tk:Nat) (acc':Array Value) (c':Nat),q=.ok (.ret (.ref s.heap.objs.size))/\s'={ s with heap:=h',toks:=tk }/\
   (∀ b o,s.heap.get? b=some o->h'.get? b=some o)/\h'.get? s.heap.objs.size=some { cls:=.type "list", dict:=none,data:=.seq acc' c',slots:=#[] }/\ItemsOf (fun i v=>∃ t,v=.int (a+i * c) t) acc' n)
  hh (Heap.get?_push_of_some _ hr) hsmall hn hlen s.heap.objs.size (.ref s.heap.objs.size) 0 hS₁
  (fun h' tk acc' c' hk hS' hacc=>⟨h',tk,acc',c',rfl,rfl,fun b o e=>hk b o (Nat.ne_of_lt (Heap.lt_size e)) (Heap.get?_push_of_some _ e),hS',hacc⟩)
 refine wpAny_mono key (fun fin s' x=>?_) fun e s' x=>?_
 ·cases fin with
  | done f=>
   obtain ⟨h',tk,acc',c',e,rfl,hk,hS',hacc⟩:=x
   cases e
   show wpAny _ A (load s.heap.objs.size >>= _) _ _ _
   refine wpAny_bind (wpAny_load hS' ?_)
   exact wpAny_pure (h h' tk acc' hk (Nat.le_of_lt (Heap.lt_size hS')) hacc)
  | again c₁=>
   refine ⟨x.1,codeAny_mono x.2 fun q s₂ y=>?_⟩
   obtain ⟨h',tk,acc',c',rfl,rfl,hk,hS',hacc⟩:=y
   show wpAny _ A (load s.heap.objs.size >>= _) _ _ _
   refine wpAny_bind (wpAny_load hS' ?_)
   exact wpAny_pure (h h' tk acc' hk (Nat.le_of_lt (Heap.lt_size hS')) hacc)
 ·obtain ⟨_,_,_,_,e',_⟩:=x
  cases e'
end
section
variable {X:Cx} {pins:List (Addr×Obj)} {σ:St} {H:Hp} {s:Shared} {A:Around} {E:Value->Shared->Prop} {a kS:Addr} {vs:List Value} {kz:List Int} {keys:Array Value} {e e1:Nat} {P:PySem.Fin->Shared->Prop}
theorem kX {h':Heap} {tk:Nat} (f:nM X pins H a) (I:Inv X pins σ H s) (sb:Heap.SameBut a s.heap h'):Inv X pins σ H { s with heap:=h',toks:=tk }:=by
 obtain ⟨f0,f1,f2,f3,f4,f5⟩:=f
 exact I.turned (fun b o hb e=>(sb.2 b hb).trans e) f0 f1 f3 f4 f5
def KsS (kz:List Int) (vs out:List Value):Prop:=∃ ps:List (Int×Value),ps.Perm (kz.zip vs)/\out=ps.map Prod.snd/\ps.Pairwise fun p q=>p.1 < q.1∨p.1=q.1/\numOf p.2 < numOf q.2
theorem zGT {xs:Array Keyed} {n:Nat} (hk:IntsAre keys.toList kz) (hp:xs.Perm (keys.zip vs.toArray)) (up:Up n xs xs.size):KsS kz vs (xs.map (·.2)).toList:=by
 have hl:xs.toList.Perm (keys.toList.zip vs):=by
  have z:=Array.perm_iff_toList_perm.mp hp
  rwa [Array.toList_zip,List.toList_toArray] at z
 refine ⟨xs.toList.map fun p=>(numOf p.1,p.2),?_,?_,?_⟩
 ·have z:=hl.map (fun p=>(numOf p.1,p.2))
  rw [<-hk.nums,List.zip_map_left]
  exact z
 ·rw [Array.toList_map,List.map_map];rfl
 ·rw [List.pairwise_map,List.pairwise_iff_getElem]
  intro i j hi hj hij
  rw [Array.length_toList] at hi hj
  have z:=up.so i j hij hj
  rw [K_eq hi,K_eq hj] at z
  have iv:∀ k (h:k < xs.size),Iv xs k=numOf xs[k].2:=fun k h=>by unfold Iv;rw [getElem?_pos xs k h]
  rw [iv i hi,iv j hj] at z
  exact z
theorem zFI (hsz:keys.size=vs.length) (hv:∀ (j:Nat) (v:Value),vs[j]?=some v->∃ t,v=.int j t) (i:Nat) (hi:i < (keys.zip vs.toArray).size):Iv (keys.zip vs.toArray) i=i:=by
 have h2:i < vs.length:=by rw [Array.size_zip,hsz,List.size_toArray,Nat.min_self] at hi;exact hi
 obtain ⟨t,ht⟩:=hv i _ (List.getElem?_eq_getElem h2)
 unfold Iv
 rw [getElem?_pos _ i hi]
 show numOf ((keys.zip vs.toArray)[i]).2=_
 rw [Array.getElem_zip]
 show numOf (vs.toArray[i])=_
 rw [List.getElem_toArray,ht]
 rfl
theorem zCY {st:SortSt} (I:Inv X pins σ H s) (fa:nM X pins H a) (fk:nM X pins H kS) (hka:kS≠a) (nk:s.heap.get? kS=some (seqObj "list" keys e)) (na:s.heap.get? a=some (seqObj "list" #[] e1))
  (hk:IntsAre keys.toList kz) (hlen:kz.length=vs.length) (h64:vs.length < 64) (hp:(arrOf st).Perm (keys.zip vs.toArray)) {n:Nat} (hs:Up n (arrOf st) (arrOf st).size) (hfl:failedOf st=none)
  (h:∀ s' out c,Inv X pins σ H s'->s'.heap.get? a=some (seqObj "list" out c)->KsS kz vs out.toList->P (.done (.ret .none)) s'):
  wpAny (model X.prog X.w) A (ksk_tail a false e1 (.ref kS) st) P E s:=by
 have hsz:keys.size=vs.length:=by
  have h1:=hk.length
  rw [Array.length_toList] at h1
  omega
 have hsz2:(arrOf st).size=vs.length:=by rw [hp.size_eq,Array.size_zip,hsz,List.size_toArray,Nat.min_self]
 have hout:((arrOf st).map (·.2)).size=vs.length:=by rw [Array.size_map];exact hsz2
 have s1:=Heap.SameBut.update s.heap kS (Obj.mapSeq fun _=>(#[]:Array Value))
 have na1:(s.heap.update kS (Obj.mapSeq fun _=>(#[]:Array Value))).get? a=some (seqObj "list" #[] e1):=(s1.2 a hka.symm).trans na
 have s2:=Heap.SameBut.update (s.heap.update kS (Obj.mapSeq fun _=>(#[]:Array Value))) a (Obj.mapSeq fun _=>(arrOf st).map (·.2))
 obtain ⟨c2,hc2⟩:∃ c2,((s.heap.update kS (Obj.mapSeq fun _=>(#[]:Array Value))).update a (Obj.mapSeq fun _=>(arrOf st).map (·.2))).get? a=some (seqObj "list" ((arrOf st).map (·.2)) c2):=
  ⟨_,get?_update_seq na1 fun _=>(arrOf st).map (·.2)⟩
 unfold ksk_tail
 try dsimp only
 refine wpAny_bind (listUpdate_at nk rfl ?_ (by rw [hsz,sizeLine_eq];omega) (Nat.zero_le _))
 refine wpAny_bind (wpAny_letGo ?_)
 refine wpAny_bind (seqEpoch_at na1 rfl ?_)
 refine wpAny_bind (listUpdate_at na1 rfl ?_ (Nat.zero_le _) (by simp only [Bool.false_eq_true,if_false];exact Nat.le_trans (Nat.le_of_eq hout) (by rw [sizeLine_eq];omega)))
 rw [hfl]
 simp only [bne_self_eq_false,Bool.false_eq_true,if_false]
 have I1:Inv X pins σ H { s with heap:=s.heap.update kS (Obj.mapSeq fun _=>(#[]:Array Value)) }:=kX fk (tk:=s.toks) I s1
 have I2:Inv X pins σ H { s with heap:=(s.heap.update kS (Obj.mapSeq fun _=>(#[]:Array Value))).update a (Obj.mapSeq fun _=>(arrOf st).map (·.2)) }:=(by have z:=kX (tk:=s.toks) fa I1 s2;exact z)
 exact wpAny_pure (h _ _ c2 I2 hc2 (zGT hk hp hs))
theorem zJh (I:Inv X pins σ H s) (fa:nM X pins H a) (fk:nM X pins H kS) (hka:kS≠a) (nk:s.heap.get? kS=some (seqObj "list" keys e)) (na:s.heap.get? a=some (seqObj "list" #[] e1))
  (hk:IntsAre keys.toList kz) (hlen:kz.length=vs.length) (h64:vs.length < 64)
  (hv:∀ (j:Nat) (v:Value),vs[j]?=some v->∃ t,v=.int j t)
  (h:∀ s' out c,Inv X pins σ H s'->s'.heap.get? a=some (seqObj "list" out c)->KsS kz vs out.toList->P (.done (.ret .none)) s'):
  wpAny (model X.prog X.w) A (ksk_end a false vs.toArray e1 (.ref kS) keys) P E s:=by
 have hsz:keys.size=vs.length:=by
  have h1:=hk.length
  rw [Array.length_toList] at h1
  omega
 have hzs:(keys.zip vs.toArray).size=vs.length:=by rw [Array.size_zip,hsz,List.size_toArray,Nat.min_self]
 unfold ksk_end
 try dsimp only
 simp only [Bool.false_eq_true,if_false]
 by_cases h2:vs.toArray.size < 2
 ·rw [if_pos h2,if_pos h2]
  refine wpAny_bind (wpAny_pure ?_)
  rw [StateT.run_pure]
  refine wpAny_bind (wpAny_pure ?_)
  try dsimp only
  rw [List.size_toArray] at h2
  refine zCY (st:=SortSt.mk' general' (keys.zip vs.toArray) #[] 7 none) (n:=0) I fa fk hka nk na hk hlen h64 (Array.Perm.refl _) ⟨fun i j l hj=>?_,fun i hi=>?_,fun i _ z=>by omega⟩ rfl h
  ·have hj2:j < (keys.zip vs.toArray).size:=hj
   rw [hzs] at hj2
   omega
  ·have z:=zFI hsz hv i hi
   show Iv (keys.zip vs.toArray) i < _
   rw [z]
   exact_mod_cast hi
 ·rw [if_neg h2,if_neg h2]
  rw [List.size_toArray] at h2
  rw [ksk_kind hk (by rw [hsz];omega)]
  refine wpAny_bind (wpAny_pure ?_)
  refine wpAny_bind (wpAny_mono (zGO (a₀:=keys.zip vs.toArray) (st:=SortSt.mk' oneType' (keys.zip vs.toArray) #[] 7 none)
   (Q:=fun _ st'=>(arrOf st').Perm (keys.zip vs.toArray)/\failedOf st'=none/\Up (keys.zip vs.toArray).size (arrOf st') (keys.zip vs.toArray).size)
   (ksk_intKeys hk) ⟨Array.Perm.refl _,rfl,rfl,rfl⟩ (by rw [hzs];omega) (by rw [hzs];exact h64) (zFI hsz hv) fun st' a1 a2 a3=>⟨a1,a2,a3⟩) ?_ fun _ _ e=>e)
  rintro ⟨⟨⟩,st'⟩ s' ⟨rfl,hp,hf,hs⟩
  try dsimp only
  exact zCY (n:=(keys.zip vs.toArray).size) I fa fk hka nk na hk hlen h64 hp (by rw [hp.size_eq];exact hs) hf h
theorem zIa {f:Value} {e0:Nat} (I:Inv X pins σ H s) (fa:nM X pins H a) (fk:nM X pins H kS) (hka:kS≠a) (nk:s.heap.get? kS=some (seqObj "list" #[] e0)) (na:s.heap.get? a=some (seqObj "list" #[] e1))
  (hlen:kz.length=vs.length) (h64:vs.length < 64)
  (hv:∀ (j:Nat) (v:Value),vs[j]?=some v->∃ t,v=.int j t)
  (turn:∀ (i:Nat) (v:Value) (k:Int),vs[i]?=some v->kz[i]?=some k->∀ (s':Shared) (pl:List (Addr×Obj)),Inv X (pins++pl) σ H s'->
   wpAny (model X.prog X.w) A (call f [v]) (fun u s''=>(∃ t,u=.int k t)/\Inv X (pins++pl) σ H s'') (fun _ _=>False) s')
  (h:∀ s' out c,Inv X pins σ H s'->s'.heap.get? a=some (seqObj "list" out c)->KsS kz vs out.toList->P (.done (.ret .none)) s'):
  wpAny (model X.prog X.w) A (ksk_rest a f false vs.toArray e1 (.ref kS)) P E s:=by
 unfold ksk_rest
 refine wpAny_bind (wpAny_rule ?_)
 first
  | rw [List.forIn_toArray]
  | (rw [<-Array.forIn_toList];simp only [List.toList_toArray])
  | rw [<-Array.forIn_toList]
 refine wpAny_bind (ksk_fold (fun i s'=>∃ kA e,Inv X pins σ H s'/\s'.heap.get? kS=some (seqObj "list" kA e)/\s'.heap.get? a=some (seqObj "list" #[] e1)/\IntsAre kA.toList (kz.take i)) vs 0 s
  ⟨#[],e0,I,nk,na,by simpa using IntsAre.nil⟩ ?step ?done)
 case step=>
  rintro j x s' hx ⟨kA,e,I',nk',na',hk⟩
  simp only [Nat.zero_add] at hk ⊢
  have hj:j < vs.length:=(List.getElem?_eq_some_iff.mp hx).1
  obtain ⟨k,hkj⟩:∃ k,kz[j]?=some k:=⟨_,List.getElem?_eq_getElem (by omega)⟩
  have hz:kA.size<=vs.length:=by
   have h1:=hk.length
   rw [Array.length_toList,List.length_take] at h1
   omega
  have pin:∀ b∈[kS,a],∃ o,s'.heap.get? b=some o/\∀ v,o.data≠.cell v:=fun b hb=>by
   rcases List.mem_cons.mp hb with rfl | hb
   ·exact ⟨_,nk',fun v z=>by have z':Data.seq _ _=Data.cell v:=z;cases z'⟩
   ·rw [List.mem_singleton.mp hb];exact ⟨_,na',fun v z=>by have z':Data.seq _ _=Data.cell v:=z;cases z'⟩
  have Ip:Inv X (pins++pI [kS,a] s'.heap) σ H s':=I'.pinned (fun b hb=>by
   rcases List.mem_cons.mp hb with rfl | hb
   ·exact fk
   ·rw [List.mem_singleton.mp hb];exact fa) pin
  refine wpAny_bind (wpAny_attempt (wpAny_mono (turn j x k hx hkj s' _ Ip) (fun v s'' he=>?_) fun _ _ hF=>hF.elim))
  obtain ⟨⟨t2,rfl⟩,I2p⟩:=he
  try dsimp only
  have nk2:s''.heap.get? kS=some (seqObj "list" kA e):=(I2p.pin _ (List.mem_append_right _ (List.mem_append_right _ (cW (b:=kS) (by simp) nk')))).1
  have na2:s''.heap.get? a=some (seqObj "list" #[] e1):=(I2p.pin _ (List.mem_append_right _ (List.mem_append_right _ (cW (b:=a) (by simp) na')))).1
  have I2:Inv X pins σ H s'':=I2p.unpinned
  have s1:=Heap.SameBut.update s''.heap kS (Obj.mapSeq (·.push (.int k t2)))
  obtain ⟨c2,hc2⟩:∃ c2,(s''.heap.update kS (Obj.mapSeq (·.push (.int k t2)))).get? kS=some (seqObj "list" (kA.push (.int k t2)) c2):=⟨_,get?_update_seq nk2 (·.push (.int k t2))⟩
  have ek:kz.take (j+1)=kz.take j++[k]:=by rw [List.take_add_one,hkj];simp
  have ea:(kA.push (Value.int k t2)).toList=kA.toList++[Value.int k t2]:=by simp
  refine wpAny_bind (listUpdate_at nk2 rfl ?_ (by rw [sizeLine_eq];omega) (Nat.le_trans (Nat.le_of_eq (Array.size_push ..)) (by rw [sizeLine_eq];omega)))
  exact wpAny_pure ⟨rfl,kA.push (.int k t2),c2,kX fk (tk:=s''.toks) I2 s1,hc2,(s1.2 a hka.symm).trans na2,by rw [ea,ek];exact ksk_snoc hk⟩
 case done=>
  rintro s' ⟨kA,e,I',nk',na',hk⟩
  have hk':IntsAre kA.toList kz:=by
   have e3:kz.take (0+vs.length)=kz:=List.take_of_length_le (by omega)
   rw [e3] at hk
   exact hk
  try dsimp only
  refine wpAny_bind (listItems_at nk' rfl ?_)
  exact zJh I' fa fk hka nk' na' hk' hlen h64 hv h
def kK (v:Value):Nat:=(numOf v).toNat
theorem zHI {out:List Value} (hlen:kz.length=vs.length) (hv:∀ (j:Nat) (v:Value),vs[j]?=some v->∃ t,v=.int j t) (h:KsS kz vs out):dX kz (out.map kK)/\cM ((out.map kK).map fun i:Nat=>V.int (i:Int)) out:=by
 obtain ⟨ps,hp,ho,hs⟩:=h
 have at':∀ p,p∈kz.zip vs->∃ (j:Nat) (t:Tok),p.2=.int j t/\kz[j]?=some p.1:=fun p hm=>by
  obtain ⟨j,hj,e⟩:=List.mem_iff_getElem.mp hm
  rw [List.length_zip] at hj
  rw [List.getElem_zip] at e
  obtain ⟨t,ht⟩:=hv j (vs[j]'(by omega)) (List.getElem?_eq_getElem _)
  refine ⟨j,t,by rw [<-e];exact ht,by rw [<-e];exact List.getElem?_eq_getElem _⟩
 have n1:∀ (j:Nat) (t:Tok),kK (.int j t)=j:=fun j t=>by unfold kK;show (Int.toNat (j:Int))=j;rfl
 have hvs:vs.map kK=List.range kz.length:=by
  refine List.ext_getElem? fun j=>?_
  rw [List.getElem?_map]
  by_cases hj:j < vs.length
  ·obtain ⟨t,ht⟩:=hv j _ (List.getElem?_eq_getElem hj)
   rw [List.getElem?_eq_getElem hj,ht,List.getElem?_range (by omega)]
   show some (kK _)=_
   rw [n1]
  ·rw [List.getElem?_eq_none (by omega),List.getElem?_eq_none (by rw [List.length_range];omega)];rfl
 subst ho
 refine ⟨⟨?_,?_,?_⟩,?_⟩
 ·have h1:((ps.map Prod.snd).map kK).Perm (((kz.zip vs).map Prod.snd).map kK):=(hp.map _).map _
  rw [List.map_snd_zip (by omega),hvs] at h1
  exact h1
 ·rw [List.map_map,List.pairwise_map]
  refine List.Pairwise.imp_of_mem (fun {p q} hm hq hr=>?_) hs
  have hr':p.1<=q.1:=by rcases hr with z | z<;>omega
  obtain ⟨i,t,e1,e2⟩:=at' p (hp.mem_iff.mp hm)
  obtain ⟨j,u,e3,e4⟩:=at' q (hp.mem_iff.mp hq)
  show kz.getD (kK p.2) 0<=kz.getD (kK q.2) 0
  rw [e1,e3,n1,n1,List.getD_eq_getElem?_getD,List.getD_eq_getElem?_getD,e2,e4]
  exact hr'
 ·rw [List.map_map,List.pairwise_map]
  refine List.Pairwise.imp_of_mem (fun {p q} hm hq hr=>?_) hs
  obtain ⟨i,t,e1,e2⟩:=at' p (hp.mem_iff.mp hm)
  obtain ⟨j,u,e3,e4⟩:=at' q (hp.mem_iff.mp hq)
  show kz.getD (kK p.2) 0=kz.getD (kK q.2) 0->kK p.2 < kK q.2
  rw [e1,e3] at hr ⊢
  rw [n1,n1,List.getD_eq_getElem?_getD,List.getD_eq_getElem?_getD,e2,e4]
  intro z
  have z':p.1=q.1:=z
  rcases hr with y | y
  ·omega
  ·have:((i:Nat):Int) < (j:Nat):=y.2
   omega
 ·have go:∀ l:List Value,(∀ v∈l,∃ (j:Nat) (t:Tok),v=.int j t)->cM ((l.map kK).map fun i:Nat=>V.int (i:Int)) l:=by
   intro l
   induction l with
   | nil=>intro _;exact .nil
   | cons v r ih=>
    intro hl
    obtain ⟨j,t,rfl⟩:=hl v (.head _)
    exact .cons ⟨t,by rw [n1]⟩ (ih fun u hu=>hl u (.tail _ hu))
  refine go _ fun v hv'=>?_
  obtain ⟨p,hm,rfl⟩:=List.mem_map.mp hv'
  obtain ⟨j,t,e1,_⟩:=at' p (hp.mem_iff.mp hm)
  exact ⟨j,t,e1⟩
theorem zBN {r q:Addr} {n:Nat} {t u v:Tok} {Q:Value->Shared->Prop} (hc:X.calm=true) (I:Inv X pins σ H s) (hr:IsRange s.heap r 0 n 1 t u v) (h64:n < 64) (hkz:kz.length=n)
  (turn:∀ (j:Nat) (tk:Tok) (k:Int),kz[j]?=some k->∀ (s':Shared) (pl:List (Addr×Obj)),Inv X (pins++pl) σ H s'->
   wpAny (model X.prog X.w) X.A.in1.in1 (call (.ref q) [.int j tk]) (fun u s''=>(∃ t,u=.int k t)/\Inv X (pins++pl) σ H s'') (fun _ _=>False) s')
  (h:∀ D s' out c π,Inv X pins σ H s'->nM X pins H D->s.heap.objs.size<=D->s'.heap.get? D=some (seqObj "list" out c)->dX kz π->cM (π.map fun i:Nat=>V.int (i:Int)) out.toList->Q (.ref D) s'):
  wpAny (model X.prog X.w) X.A (call (.builtin "sorted") [.ref r] [(Str.ofString "key", .ref q)]) Q E s:=by
 refine call_function_entry_kw kind_sorted plain_sorted entry_sorted (ksk_s1 _ _) ?_
 unfold Builtin.«sorted»
 refine wpAny_bind (m:=checkCount "sorted" 1 1 _) (wpAny_pure ?_)
 refine wpAny_bind (sZ (n:=n) (A:=X.A.in1) (I.ok.hd hc) hr (small_one (by omega) (by omega) (by omega) (by omega)) (by rw [rangeSize_one];split<;>omega) (by omega) fun h1 tk acc hk hsz hacc=>?_)
 have hl:acc.toList.length=n:=by rw [Array.length_toList];exact hacc.1
 refine wpAny_bind (wpAny_newList ?_ (by rw [hl,sizeLine_eq];omega))
 have I1:Inv X pins σ H { s with heap:=h1,toks:=tk }:=I.kept hk
 have fa:nM X pins H h1.objs.size:=I1.fpOk (Nat.le_refl _) (I1.hok.fresh (Nat.le_refl _))
 have I2:Inv X pins σ H { s with heap:=h1.push (seqObj "list" acc.toList.toArray 0),toks:=tk }:=I1.kept (t':=tk) fun b o e=>Heap.get?_push_of_some _ e
 have hoL:(h1.push (seqObj "list" acc.toList.toArray 0)).get? h1.objs.size=some (seqObj "list" acc.toList.toArray 0):=Heap.get?_push_size _ rfl
 show wpAny _ _ _ _ _ { s with heap:=h1.push (seqObj "list" acc.toList.toArray 0),toks:=tk }
 refine wpAny_bind (wpAny_holding (wpAny_call_entry_kw slot_list_sort ⟨_,hoL,rfl⟩ entry_list_sort ?body (ksk_l1 _ _)))
 case body=>
  show wpAny (model X.prog X.w) X.A.in1.in1 (Builtin.«list.sort» ⟨[.ref h1.objs.size],[(Str.ofString "key", .ref q)]⟩) _ _ _
  rw [ksk_t1]
  have s3:=Heap.SameBut.update (h1.push (seqObj "list" acc.toList.toArray 0)) h1.objs.size (Obj.mapSeq fun _=>(#[]:Array Value))
  obtain ⟨e1,ho1⟩:∃ e1,((h1.push (seqObj "list" acc.toList.toArray 0)).update h1.objs.size (Obj.mapSeq fun _=>(#[]:Array Value))).get? h1.objs.size=some (seqObj "list" #[] e1):=⟨_,get?_update_seq hoL fun _=>#[]⟩
  have I3:Inv X pins σ H { s with heap:=(h1.push (seqObj "list" acc.toList.toArray 0)).update h1.objs.size (Obj.mapSeq fun _=>(#[]:Array Value)),toks:=tk }:=(by have z:=kX (tk:=tk) fa I2 s3;exact z)
  generalize hg3:(h1.push (seqObj "list" acc.toList.toArray 0)).update h1.objs.size (Obj.mapSeq fun _=>(#[]:Array Value))=h3 at s3 ho1 I3
  unfold ksk_tree
  refine wpAny_bind (listItems_at hoL rfl ?_)
  refine wpAny_bind (listUpdate_at hoL rfl ?_ (by rw [List.size_toArray,sizeLine_eq];omega) (Nat.zero_le _))
  show wpAny _ _ _ _ _ { s with heap:=(h1.push (seqObj "list" acc.toList.toArray 0)).update h1.objs.size (Obj.mapSeq fun _=>(#[]:Array Value)),toks:=tk }
  rw [hg3]
  refine wpAny_bind (seqEpoch_at ho1 rfl ?_)
  refine wpAny_bind (wpAny_newTuple ?_ (by show acc.toList.toArray.toList.length<=_;rw [sizeLine_eq,List.toList_toArray];omega))
  refine wpAny_bind (wpAny_newList ?_ (Nat.zero_le _))
  refine wpAny_holding ?_
  have I4:Inv X pins σ H { s with heap:=h3.push (seqObj "tuple" acc.toList.toArray 0),toks:=tk }:=I3.kept (t':=tk) fun b o e=>Heap.get?_push_of_some _ e
  have fk:nM X pins H (h3.push (seqObj "tuple" acc.toList.toArray 0)).objs.size:=I4.fpOk (Nat.le_refl _) (I4.hok.fresh (Nat.le_refl _))
  have I5:Inv X pins σ H { s with heap:=(h3.push (seqObj "tuple" acc.toList.toArray 0)).push (seqObj "list" #[] 0),toks:=tk }:=I4.kept (t':=tk) fun b o e=>Heap.get?_push_of_some _ e
  have ho4:(h3.push (seqObj "tuple" acc.toList.toArray 0)).get? h1.objs.size=some (seqObj "list" #[] e1):=Heap.get?_push_of_some _ ho1
  have hvv:∀ (j:Nat) (v:Value),acc.toList[j]?=some v->∃ t,v=.int j t:=fun j v' hj=>by
   obtain ⟨tk',rfl⟩:=hacc.2 j v' (by rw [<-Array.getElem?_toList];exact hj)
   exact ⟨tk',by congr 1;omega⟩
  refine zIa (vs:=acc.toList) (kz:=kz) (e0:=0) I5 fa fk (Nat.ne_of_gt (Heap.lt_size ho4)) (Heap.get?_push_size _ rfl) (Heap.get?_push_of_some _ ho4) (by rw [hkz,hl]) (by rw [hl];exact h64) hvv (fun i v' k hi hk' s' pl Ip=>?_) fun s' out c I' ho' ko=>?_
  ·obtain ⟨tk',rfl⟩:=hacc.2 i v' (by rw [<-Array.getElem?_toList];exact hi)
   have e3:(0:Int)+(i:Int) * 1=(i:Int):=by omega
   rw [e3]
   exact turn i tk' k hk' s' pl Ip
  ·obtain ⟨hπ,hV⟩:=zHI (by rw [hkz,hl]) hvv ko
   exact ⟨_,rfl,wpAny_pure ⟨_,rfl,h _ s' out c _ I' fa hsz ho' hπ hV⟩⟩
end
end L3
namespace L3
open PySem PySem.Spec PyProof.Rows L2 PySem.W
unseal PEd PEf PTd PWd PAd PSd cN POd PGd eK PId PSx iE PTs PCd PCf
def zMH:CXT:=fun _ _ _ _ _ _=>False
def cxL (P:Program) (w:World) (K:PySem.W.Frag) (mg:Str->Option Value) (base:Heap) (N:List Str) (qual:Str) (scope:Scope) (f:Addr) (cd:Value) (cl:List (Str×Addr)) (A:Around) (outer:List Env) (s:Shared) (H:Hp):Cx where
 prog:=P
 w:=w
 K:=K
 mg:=mg
 base:=base
 A:=A.deeper (envX qual scope s.heap.objs.size f cd cl)
 N:=N
 s₀:=s
 H₀:=H
 env:=envX qual scope s.heap.objs.size f cd cl
 outer:=outer
 stack:=envX qual scope s.heap.objs.size f cd cl::outer
 ex:=[]
 fn:=fun _=>false
 calm:=true
 pn:=[]
 xe:=fun _ _=>False
theorem zGm {P:Program} {w:World} {K:PySem.W.Frag} {mg:Str->Option Value} {base:Heap} {N:List Str} {qual name:Str} {scope:Scope} {f c':Addr} {cl:List (Str×Addr)} {A:Around} {outer:List Env} {s:Shared} {H:Hp} {params:Arguments} {body:Expr} {pm ctv u:Value} {p:Str} {σ:St} {Q:VK} {E:XK} {t:TE}
  (hd:A.handled=none) (hdp:A.depth < recursionLimit) (e0:Env0 P w K mg base A outer s H) (ho:s.heap.get? f=some (kla_obj name qual params body scope cl pm c' ctv)) (hcd:s.heap.CodeRec (.ref c') qual)
  (hbind:bindArgs (kla_fn name qual params body scope cl pm (.ref c') ctv) ⟨[u],[]⟩=pure [(p,u)]) (hloc:scope.names.lookup p=some .local)
  (hco:scope.isCoroutine=false) (hgen:scope.isGenerator=false) (hk:scope.kind=.function) (hcell:∀ x∈scope.names,x.2≠.cell)
  (hfree:∀ x,scope.names.lookup x=some .free->∃ c,cl.lookup x=some c) (hinj:∀ x y c,cl.lookup x=some c->cl.lookup y=some c->x=y)
  (hcl:∀ x c,cl.lookup x=some c->(∃ v,s.heap.IsCell c v)/\H c=none) (hlen:σ.length=N.length)
  (hσ:∀ (i:Nat) (x:Str) (v:V),N[i]?=some x->σ[i]?=some (some v)->(x=p/\bW v u)∨(scope.names.lookup x=some .free/\∃ c u',cl.lookup x=some c/\s.heap.IsCell c (some u')/\bW v u'))
  (hb:PE (cxL P w K mg base N qual scope f (.ref c') cl A outer s H) body t) (hq:t σ H Q):
  codeAny (model P w) A (.call (.ref f) ⟨[u],[]⟩) (CR zMH outer P w H s Q E) s:=by
 have lim:s.heap.NoLimit:=e0.mod.nolimit.keeps fun b o e=>(e0.bs b o e).1
 refine kla_callFunE hdp ho rfl hco hgen rfl hcd ?_
 rw [hbind]
 refine wpAny_pure (wpAny_newFunctionEnv hcell (fun y hy=>by rw [List.mem_singleton.mp hy];exact hloc) (fun h₁ hns hsb=>⟨lim.fresh _ hsb,?_⟩) hk)
 have hk₁:∀ b o,s.heap.get? b=some o->h₁.get? b=some o:=fun b o e=>hsb.extBut b o (Nat.ne_of_lt (Heap.lt_size e)) (Heap.get?_push_of_some _ e)
 have noA:∀ b:Addr,b∉(cxL P w K mg base N qual scope f (.ref c') cl A outer s H).ex:=fun b z=>absurd (show b∈([]:List Addr) from z) (by simp)
 have I:Inv (cxL P w K mg base N qual scope f (.ref c') cl A outer s H) [] σ H { s with heap:=h₁,toks:=s.toks+1 }:=by
  refine ⟨⟨e0.mod,hk,rfl,rfl,Nat.le_refl _,hinj,fun y hy=>?_,fun y c z _=>?_,fun _=>hd,Around.frames_deeper e0.frames,.inr ⟨rfl,rfl⟩,fun b z=>absurd z (noA b),e0.bs,e0.bsz,fun b _ _=>noA b,fun b z=>absurd z (noA b),e0.funs,e0.frf⟩,
   rfl,e0.bare,Un.kept hk₁,⟨_,hns,fun i y v h1 h2 h3=>?_⟩,fun y c h=>?_,e0.hok.fresh (Nat.le_refl _),fun y c h=>(hcl y c h).2,fun p hp=>absurd (show p∈([]:List (Addr×Obj)) from hp) (by simp),e0.hok.kept hk₁,hlen⟩
  ·have hy:scope.names.lookup y=some .cell∨scope.names.lookup y=some .free:=hy
   rcases hy with hy | hy
   ·exact absurd rfl (hcell _ (PySem.mem_of_lookup hy))
   ·exact hfree y hy
  ·cases z
  ·rcases hσ i y v h1 h2 with ⟨rfl,r⟩ | ⟨hf,c,u',h4,⟨o,h5,h6⟩,r⟩
   ·exact ⟨u,r,.inl ⟨hloc,by simp [List.lookup]⟩⟩
   ·exact ⟨u',r,.inr ⟨.inr hf,c,h4,o,hk₁ _ _ h5,h6⟩⟩
  ·obtain ⟨⟨v,o,h5,h6⟩,_⟩:=hcl y c h
   exact ⟨v,o,hk₁ _ _ h5,h6⟩
 refine kla_codeExpr (wpAny_mono (hb [] _ σ H Q I hq) (fun v s' z=>?_) fun e s' z=>False.elim z)
 obtain ⟨x,H',J,r,q⟩:=z
 exact ⟨x,H',J.os,J.bare,J.base,J.hok,r,q⟩
theorem zDY {l:List Value} {a b:Int} {c:Value} (h:TriplesOk l):TriplesOk (l++[rawInt a,rawInt b,c]):=TriplesOk_snoc a b c l h
theorem zAN {pos q:Pos} {c x:Value} (l:List Value) (h:TriplesOk l) (e:codeAmong q (l++[rawInt pos.line,rawInt pos.col,c])=some x):codeAmong q l=some x∨x=c:=by
 fun_induction TriplesOk l with
 | case1=>
  simp only [List.nil_append,codeAmong,rawInt] at e
  split at e
  ·exact .inr (Option.some.inj e).symm
  ·cases e
 | case2 a t b u y rest ih=>
  simp only [List.cons_append,codeAmong] at e ⊢
  split at e
  ·rename_i hc;rw [if_pos hc];exact .inl e
  ·rename_i hc;rw [if_neg hc];exact ih h e
 | case3 l h1 h2=>exact h.elim
def BMn (base:Heap) (mg:Str->Option Value):Prop:=∃ bm ob,mg "__builtins__" = some (.ref bm)/\bm≠builtinsNs/\base.get? bm=some ob/\ob.cls=.type "module" /\ ob.dict=some builtinsNs/\ob.data=.plain
section
variable {X:Cx} {pins:List (Addr×Obj)} {σ:St} {H:Hp} {s:Shared} {P c c':Addr}
theorem zFr {ps more:Array Value} {h':Heap} {tk:Nat} {oc:Obj} (I:Inv X pins σ H s) (hP:H P=some (.tbl ps)) (hx:Heap.ExtBut P s.heap h') (hge:s.heap.objs.size<=c') (hc:h'.get? c'=some oc) (hP':h'.get? P=some { cls:=.none,data:=.fields (ps++more) }):
  Inv X pins σ (upd (upd H P (.tbl (ps++more))) c' (.frz oc (.own 0))) { s with heap:=h',toks:=tk }:=by
 have nP:∀ {b:Addr},H b=none->b≠P:=fun e z=>by rw [z,hP] at e;cases e
 have cF:H c'=none:=I.hok.fresh hge
 have nc:∀ {b:Addr} {o:Obj},s.heap.get? b=some o->b≠c':=fun e=>Nat.ne_of_lt (Nat.lt_of_lt_of_le (Heap.lt_size e) hge)
 have hPc:P≠c':=aS hP cF
 have up:∀ {b:Addr},b≠P->b≠c'->upd (upd H P (.tbl (ps++more))) c' (.frz oc (.own 0)) b=H b:=fun h1 h2=>by rw [aO h2,aO h1]
 have upP:upd (upd H P (.tbl (ps++more))) c' (.frz oc (.own 0)) P=some (.tbl (ps++more)):=by rw [aO hPc,aP]
 have kd:∀ {b:Addr} {o:HO},H b=some o->(∀ qs,o≠.tbl qs)->upd (upd H P (.tbl (ps++more))) c' (.frz oc (.own 0)) b=some o:=fun {b o} e hn=>by
  rw [up (fun z=>by rw [z,hP] at e;exact hn ps (Option.some.inj e).symm) (aS e cF)];exact e
 refine I.un ⟨fun b o e n _ _=>hx b o (nP n) e,fun b o e n _ _=>⟨o.slots,hx b o (nP n) e⟩,fun b o e n _=>by rw [up (nP n) (nc e)];exact n,fun b o e _=>?_,fun b xs e=>kd e fun qs z=>(by cases z),fun b o u e=>kd e fun qs z=>(by cases z),fun b qs e=>?_⟩ fun b u e=>?_
 ·by_cases hb:b=P
  ·subst hb;exact ⟨_,hP'⟩
  ·exact ⟨o,hx b o hb e⟩
 ·by_cases hb:b=P
  ·subst hb
   rw [hP] at e;cases e
   exact ⟨more,upP⟩
  ·exact ⟨#[],by rw [up hb (aS e cF),e];simp⟩
 ·by_cases h2:b=c'
  ·subst h2
   rw [aP] at e;cases e
   exact ⟨hc,oc,hc⟩
  ·by_cases h1:b=P
   ·subst h1
    rw [upP] at e;cases e
    exact hP'
   ·rw [up h1 h2] at e
    refine (I.hok b u e).stay (fun d v hd q=>hx d v (fun z=>?_) q) (fun d q=>kd q fun qs z=>(by cases z)) fun d xs q=>kd q fun qs z=>(by cases z)
    rcases hd with rfl | hd
    ·exact h1 z
    ·rw [z,hP] at hd;cases hd
theorem zCX {ps:Array Value} {oc:Obj} {pos:Pos} {vs:Array Value} {t:Tok} (hP:H P=some (.tbl ps)) (cF:H c'=none) (hd:oc.data=.fields vs) (hv:vs[1]?=some (.str nY t)):
  Keep H (upd (upd H P (.tbl (ps++#[rawInt pos.line,rawInt pos.col,.ref c']))) c' (.frz oc (.own 0))):=by
 have hPc:P≠c':=aS hP cF
 have upP:upd (upd H P (.tbl (ps++#[rawInt pos.line,rawInt pos.col,.ref c']))) c' (.frz oc (.own 0)) P=some (.tbl (ps++#[rawInt pos.line,rawInt pos.col,.ref c'])):=by rw [aO hPc,aP]
 have kd:∀ {b:Addr} {o:HO},H b=some o->b≠P->upd (upd H P (.tbl (ps++#[rawInt pos.line,rawInt pos.col,.ref c']))) c' (.frz oc (.own 0)) b=some o:=fun {b o} e hn=>by
  rw [aO (aS e cF),aO hn];exact e
 refine ⟨fun b o e=>?_,fun Q T=>?_⟩
 ·by_cases hb:b=P
  ·subst hb
   rw [hP] at e;cases e
   exact .inr ⟨_,_,rfl,upP⟩
  ·exact .inl (kd e hb)
 ·obtain ⟨qs,e,ht,k⟩:=T
  have old:∀ (q:Pos) (cv:Value),codeAmong q qs.toList=some cv->∃ c oc' vs t u,cv=.ref c/\upd (upd H P (.tbl (ps++#[rawInt pos.line,rawInt pos.col,.ref c']))) c' (.frz oc (.own 0)) c=some (.frz oc' u)/\oc'.data=.fields vs/\vs[1]?=some (.str nY t):=fun q cv z=>by
   obtain ⟨c,oc',vs',t',u,r1,r2,r3⟩:=k q cv z
   exact ⟨c,oc',vs',t',u,r1,kd r2 (fun w=>by rw [w,hP] at r2;cases r2),r3⟩
  by_cases hb:Q=P
  ·subst hb
   rw [hP] at e;cases e
   have el:(ps++#[rawInt pos.line,rawInt pos.col,.ref c']).toList=ps.toList++[rawInt pos.line,rawInt pos.col,.ref c']:=by simp
   refine ⟨_,upP,by rw [el];exact zDY ht,fun q cv z=>?_⟩
   rw [el] at z
   rcases zAN _ ht z with z | z
   ·exact old q cv z
   ·exact ⟨c',oc,vs,t,_,z,aP,hd,hv⟩
  ·exact ⟨qs,kd e hb,ht,old⟩
theorem zEk {params:Arguments} {body:Expr} {scope:Scope} {pos:Pos} {clos:List (Str×Addr)} {M:Model} {A:Around} {E:Value->Shared->Prop} {Q:Value->Shared->Prop} (I:Inv X pins σ H s) (tb:vT P H) (hC:∀ h,X.K.In h->CodeHd h c P) (hcode:X.env.code=.ref c) (hq:X.env.qual ++ "<lambda>" = nY) (hB:BMn X.base X.mg)
  (hcl:closureFor scope X.env=pure clos) (hdef:defaultsOf params X.env=([],[]))
  (h:∀ f c' ctv oc vs t u H' s',Inv X pins σ H' s'->Keep H H'->(∀ b o,H b=some o->b≠P->H' b=some o)->nM X pins H' f->s.heap.objs.size<=f->s'.heap.get? f=some (kla_obj "<lambda>" nY params body scope clos ((X.mg "__name__").getD .none) c' ctv)->
   H' c'=some (.frz oc u)->oc.data=.fields vs->vs[1]?=some (.str nY t)->Q (.ref f) s'):
  wpAny M A (eval (.Lambda params body scope pos) X.env) Q E s:=by
 obtain ⟨ps,hP,ht,hk⟩:=id tb
 have hPo:s.heap.get? P=some (tabObj ps):=I.hok P _ hP
 have hg:s.heap.Ns mainGlobals X.mg:=I.mod.glob.keeps I.bk
 have hgP:mainGlobals≠P:=fun z=>by
  obtain ⟨o,es,ep,e,_⟩:=I.mod.glob
  have:=(I.bs _ _ e).2
  rw [z,hP] at this;cases this
 have hb:s.heap.BuiltinsAt X.mg P:=by
  obtain ⟨bm,ob,b1,b2,b3,b4,b5,b6⟩:=hB
  refine ⟨bm,ob,b1,b2,fun z=>?_,fun z=>?_,(I.bs _ _ b3).1,b4,b5,b6⟩
  ·obtain ⟨o,es,ep,e,d,_⟩:=I.mod.glob
   rw [z,e] at b3;cases b3;rw [d] at b6;cases b6
  ·have:=(I.bs _ _ b3).2
   rw [z,hP] at this;cases this
 refine kla_eval hdef ?_
 rw [hq]
 cases hf:codeAmong pos ps.toList with
 | some cv=>
  obtain ⟨c',oc,vs,t,u,rfl,r1,r2,r3⟩:=hk pos cv hf
  refine kla_makeFunctionHit hcl I.ok.glob hg hcode (hC _ I.kIn) hPo ht hf hb fun ctv h' tk hkk hsz=>?_
  have I1:Inv X pins σ H { s with heap:=h',toks:=tk }:=I.kept hkk
  have I2:Inv X pins σ H { s with heap:=h'.push (kla_obj "<lambda>" nY params body scope clos ((X.mg "__name__").getD .none) c' ctv),toks:=tk }:=I1.kept (t':=tk) fun b o e=>Heap.get?_push_of_some _ e
  exact h _ c' ctv oc vs t u H _ I2 (Keep.refl _) (fun b o e _=>e) (I1.fpOk (Nat.le_refl _) (I1.hok.fresh (Nat.le_refl _))) hsz (Heap.get?_push_size _ rfl) r1 r2 r3
 | none=>
  refine kla_makeFunction hcl I.ok.glob hg hcode (hC _ I.kIn) hPo ht hf hgP hb fun c' ctv h' tk hx hge hlt hrec htb=>?_
  obtain ⟨c₂,oc,vs,t,e2,hoc,hd,hv⟩:=hrec
  cases e2
  have I1:=zFr (tk:=tk) I hP hx hge hoc htb
  have I2:=I1.kept (t':=tk) (h':=h'.push (kla_obj "<lambda>" nY params body scope clos ((X.mg "__name__").getD .none) c' ctv)) fun b o e=>Heap.get?_push_of_some _ e
  have cF:H c'=none:=I.hok.fresh hge
  exact h _ c' ctv oc vs t _ _ _ I2 (zCX hP cF hd hv) (fun b o e hb=>by rw [aO (aS e cF),aO hb];exact e) (I1.fpOk (Nat.le_refl _) (I1.hok.fresh (Nat.le_refl _))) (Nat.le_of_lt (Nat.lt_of_le_of_lt hge hlt)) (Heap.get?_push_size _ rfl) aP hd hv
end
end L3
namespace L3
open PySem PySem.Spec PyProof.Rows L2 PySem.W
unseal PEd PEf PTd PWd PAd PSd cN POd PGd eK PId PSx iE PTs PCd PCf
theorem uR {K:PySem.W.Frag} {H:Hp}:∀ π:List Nat,IsDs K H (π.map fun i:Nat=>V.int (i:Int)) (dZ π)
 | []=>.nil
 | n::ns=>.cons (.int n) (uR ns)
def yC (p:Pos):Arguments:={ posonlyargs:=[],args:=[{ arg := "spot", annotation:=none,pos:=p }],vararg:=none,kwonlyargs:=[],kw_defaults:=[],kwarg:=none,defaults:=[] }
def hG:Scope:={ kind:=.function,names:=[(PySem.Str.ofString "spot", .local),(PySem.Str.ofString "bottom", .free),(PySem.Str.ofString "some", .free)],isGenerator:=false,isCoroutine:=false,more:=[] }
section
variable {X:Cx} {p1 p2 p3 p4 p5 p6 p7 p8 p9 pa pb pc pd pe pf pg ph pi pj:Pos}
theorem zEo {b k:Int} {a:Addr} {xs:List V} {rows:List D} {d:D} {j:Nat} {Hi H:Hp} {Q:VK} {σ:St} (hN:X.N=(["spot", "some", "bottom"]:List Str)) (hsc:X.env.scope=hG) {pz:Pos}
  (hσ:σ=[some (.int j),some (.ref a),some (.int b)]) (hq:SqL X.K Hi a xs∨SqT X.K Hi a xs) (hs:IsDs X.K Hi xs rows) (sm:Same Hi H) (hd:rows[j]?=some d) (hk:zDk b d=.ok k) (q:Q (.int k) H):
  ∃ t,PE X (.BinOp (.Subscript (.Subscript (.Name "some" p1) (.Name "spot" p2) p3) (.Constant (.int 0) 0 p4) p5) .Mult
   (.BinOp (.Name "bottom" p6) .FloorDiv (.Subscript (.Subscript (.Name "some" p7) (.Name "spot" p8) p9) (.Constant (.int 1) 0 pa) pb) pc) pz) t/\t σ H Q:=by
 have v0:PE X (.Name "spot" p2) (zAb 0):=pJ (by rw [hN];rfl) (by rw [hsc];exact .inl (by decide +kernel))
 have v0':PE X (.Name "spot" p8) (zAb 0):=pJ (by rw [hN];rfl) (by rw [hsc];exact .inl (by decide +kernel))
 have v1:PE X (.Name "some" p1) (zAb 1):=pJ (by rw [hN];rfl) (by rw [hsc];exact .inr (.inr (by decide +kernel)))
 have v1':PE X (.Name "some" p7) (zAb 1):=pJ (by rw [hN];rfl) (by rw [hsc];exact .inr (.inr (by decide +kernel)))
 have v2:PE X (.Name "bottom" p6) (zAb 2):=pJ (by rw [hN];rfl) (by rw [hsc];exact .inr (.inr (by decide +kernel)))
 refine ⟨_,zBL cC (zAK iN (zAK iN v1 v0 (fun _ _=>rfl)) zDQ (fun _ _=>rfl)) (zBL fZ v2 (zAK iN (zAK iN v1' v0' (fun _ _=>rfl)) zDQ (fun _ _=>rfl))),?_⟩
 obtain ⟨t,c,rfl,h1,h2,rfl⟩:=zGi hk
 obtain ⟨v,hv,r⟩:=hs.at hd
 obtain ⟨ra,ys,rfl,h3,h4⟩:=r.tupI
 obtain ⟨u1,u2,rfl,r1,r2⟩:=h4.two
 have e1:=r1.intI
 have e2:=r2.intI
 subst e1 e2
 have S3:=bN sm h3
 subst hσ
 have row:∀ Q':VK,Q' (.ref ra) H->(zKN X.K (.ref a) (.int j) H Q'∨zKK X.K (.ref a) (.int j) H Q'):=fun Q' q'=>by
  rcases hq with hq | hq
  ·exact .inl ⟨a,xs,j,.ref ra,rfl,rfl,bS sm hq,xP hv,q'⟩
  ·exact .inr ⟨a,xs,j,.ref ra,rfl,rfl,bN sm hq,xP hv,q'⟩
 refine ⟨.ref a,rfl,.int j,rfl,row _ (.inr ⟨ra,_,0,.int t,rfl,rfl,S3,rfl,?_⟩)⟩
 refine ⟨.int b,rfl,.ref a,rfl,.int j,rfl,row _ (.inr ⟨ra,_,1,.int c,rfl,rfl,S3,rfl,?_⟩)⟩
 exact ⟨b,c,rfl,rfl,h1,t,b.fdiv c,rfl,rfl,h2,q⟩
theorem zJn {a:Expr} {ta:TA} {p pos:Pos} (hg:Gl X "range") (hm:X.mg "range" = none) (ha:PA X [a] ta) (hs:starEach [a] X.env=[(false,eval a X.env)]:=by rfl):
  PE X (.Call (.Name "range" p) [a] [] pos) (fun σ H Q=>ta σ H fun vs H1=>∃ n:Nat,vs=[.int n]/\∀ r,H1 r=none->Q (.ref r) (upd H1 r (.rng 0 n))):=by
 intro pins s σ H Q I h
 refine wpAny_Call_Name_kw (jT I hg hm boot_range (PyProof.Rows.callWith_type1 (thn (ha pos pins s σ H _ I h) fun us s1 ⟨vs,H1,I1,r1,q1⟩=>?_) hs rfl))
 obtain ⟨n,e,q⟩:=q1
 subst e
 obtain ⟨u,rfl,t,rfl⟩:=wY r1
 refine call_range_1 ⟨.ref s1.heap.objs.size,_,I1.laid (fun b o e=>Heap.get?_push_of_some _ e) (Nat.le_refl _) ?_,rfl,q _ I1.fresh⟩
 exact ⟨_,_,_,Heap.get?_push_size _ rfl⟩
structure RankCx (X:Cx) (P c:Addr):Prop where
 calm:X.calm=true
 dp:X.A.depth < recursionLimit
 n0:X.N[0]?=some ("some" : Str)
 n1:X.N[1]?=some ("bottom" : Str)
 k0:X.env.kindOf "some" = some .cell
 k1:X.env.kindOf "bottom" = some .cell
 code:X.env.code=.ref c
 hd:∀ h,X.K.In h->CodeHd h c P
 qual:X.env.qual ++ "<lambda>" = nY
 bm:BMn X.base X.mg
 clo:∃ cs cb,closureFor hG X.env=pure [(("some" : Str),cs),(("bottom" : Str),cb)]/\X.env.cells.lookup ("some" : Str)=some cs/\X.env.cells.lookup ("bottom" : Str)=some cb
 gS:Gl X "sorted"
 mS:X.mg "sorted" = none
 gR:Gl X "range"
 mR:X.mg "range" = none
 gL:Gl X "len"
 mL:X.mg "len" = none
def zJF (X:Cx) (P:Addr):TE:=fun σ H Q=>∃ Hi a xs rows b kz,σ[0]?=some (some (.ref a))/\σ[1]?=some (some (.int b))/\(SqL X.K Hi a xs∨SqT X.K Hi a xs)/\IsDs X.K Hi xs rows/\Same Hi H/\hZ b rows=.ok kz/\kz.length < 64/\vT P H/\Hi P=none/\
 ∀ π r Hi' H',dX kz π->Ext Hi H Hi' H'->zDT X.K H Hi' H' r (dZ π)->Q (.ref r) H'
theorem zAk {pins:List (Addr×Obj)} {σ:St} {H:Hp} {s:Shared} {i:Nat} {x:Str} {v:V} {c:Addr} (I:Inv X pins σ H s) (hi:X.N[i]?=some x) (hv:σ[i]?=some (some v)) (hk:X.env.kindOf x=some .cell) (hc:X.env.cells.lookup x=some c):∃ u,bW v u/\s.heap.IsCell c (some u):=by
 obtain ⟨m,hn,hl⟩:=I.loc
 obtain ⟨u,r,l⟩:=hl i x v hi hv (.inr (.inl hk))
 refine ⟨u,r,?_⟩
 rcases l with ⟨z,_⟩ | ⟨_,c',z,q⟩
 ·rw [hk] at z;cases z
 ·rw [hc] at z;cases z;exact q
theorem zGF {P c:Addr} (R:RankCx X P c) {pk pl pm pn:Pos} (hs1:starEach [.Name "some" p3] X.env=(false,eval (.Name "some" p3) X.env)::starEach [] X.env:=by rfl)
  (hs2:starEach [.Call (.Name "len" p2) [.Name "some" p3] [] p4] X.env=[(false,eval (.Call (.Name "len" p2) [.Name "some" p3] [] p4) X.env)]:=by rfl)
  (hs3:starEach [.Call (.Name "range" p1) [.Call (.Name "len" p2) [.Name "some" p3] [] p4] [] p5] X.env=(false,eval (.Call (.Name "range" p1) [.Call (.Name "len" p2) [.Name "some" p3] [] p4] [] p5) X.env)::starEach [] X.env:=by rfl):
  PE X (.Call (.Name "sorted" pk) [.Call (.Name "range" p1) [.Call (.Name "len" p2) [.Name "some" p3] [] p4] [] p5] [⟨some "key", .Lambda (yC p6) (.BinOp (.Subscript (.Subscript (.Name "some" p7) (.Name "spot" p8) p9) (.Constant (.int 0) 0 pa) pb) .Mult
   (.BinOp (.Name "bottom" pc) .FloorDiv (.Subscript (.Subscript (.Name "some" pd) (.Name "spot" pe) pf) (.Constant (.int 1) 0 pg) ph) pi) pj) hG pl,pm⟩] pn) (zJF X P):=by
 intro pins s σ H Q I h
 obtain ⟨Hi,a,xs,rows,b,kz,e0,e1,hq,hds,sm,hkz,h64,tb,hiP,q⟩:=h
 obtain ⟨hl1,hl2⟩:=sH hkz
 have hlen:xs.length=kz.length:=by rw [hds.length,hl1]
 refine wpAny_Call_Name_kw (jT I R.gS R.mS boot_sorted ?_ (by decide) (by decide))
 have vS:PE X (.Name "some" p3) (zAb 0):=pJ R.n0 (.inr (.inl R.k0))
 have pR:=zJn (p:=p1) (pos:=p5) R.gR R.mR (gB (sF (p:=p2) (pos:=p4) aQ R.gL R.mL boot_len (gB vS lP hs1) (by decide) (by decide) hs1) lP (by rw [hs2];rfl)) hs2
 refine callWith_kw (thn ((gB pR lP hs3) pn pins s σ H (fun vs H1=>∃ r,vs=[.ref r]/\H r=none/\H1=upd H r (.rng 0 kz.length)) I ?reads) fun us s1 ⟨vs,H1,I1,r1,q1⟩=>?_) (by rw [hs3];rfl) (by rw [hs3];rfl)
 case reads=>
  refine ⟨.ref a,e0,a,xs,rfl,hq.imp (bS sm) (bN sm),xs.length,rfl,fun r hr=>⟨r,rfl,hr,by rw [hlen]⟩⟩
 obtain ⟨r,rfl,hr,rfl⟩:=q1
 obtain ⟨u,rfl,ru⟩:=wY r1
 cases ru
 obtain ⟨cs,cb,hcl,hcs,hcb⟩:=R.clo
 have x1:Ext Hi H Hi (upd H r (.rng 0 kz.length)):=Ext.newF sm hr
 refine kws_cons (zEk I1 (x1.h.t P tb) R.hd R.code R.qual R.bm hcl rfl fun f c' ctv oc vs t u H3 s3 I3 hkeep hsame hf hfs hfo hc1 hc2 hc3=>kws_nil ?_)
 have x2:Ext Hi H Hi H3:=x1.trans ⟨Same.refl _,hkeep,fun b o e=>hsame b o (x1.s _ _ e) (fun z=>by rw [z,hiP] at e;cases e),fun b e z=>absurd e z⟩
 have hr3:H3 r=some (.rng 0 kz.length):=hkeep.at aP
 obtain ⟨t1,t2,t3,hrg⟩:=I3.hok r _ hr3
 have I3p:Inv X (pins++[(f,kla_obj "<lambda>" nY (yC p6) _ hG [("some", cs),("bottom", cb)] ((X.mg "__name__").getD .none) c' ctv)]) σ H3 s3:=I3.pins_of fun p hp=>by
  rcases List.mem_append.mp hp with hp | hp
  ·exact I3.pin p (List.mem_append_right _ hp)
  ·rw [List.mem_singleton.mp hp]
   exact ⟨hfo,hf.1,hf.2.1,hf.2.2.1,fun v z=>by have z':Data.func _=Data.cell v:=z;cases z'⟩
 refine zBN (kz:=kz) R.calm I3p hrg h64 rfl (fun j tk k hj s' pl Ip=>?_) fun D s' out c2 π I' fD hDs hD hπ hV=>?_
 ·obtain ⟨d,hd,hk⟩:=hl2 j k hj
  have hfo':=(Ip.pin _ (List.mem_append_right _ (List.mem_append_left _ (List.mem_append_right _ (List.mem_singleton.mpr rfl))))).1
  obtain ⟨u0,r0,ce0⟩:=zAk Ip R.n0 e0 R.k0 hcs
  obtain ⟨u1,r1,ce1⟩:=zAk Ip R.n1 e1 R.k1 hcb
  have look:∀ {x:Str} {c:Addr},List.lookup x [(("some" : Str),cs),(("bottom" : Str),cb)]=some c->(x = "some" /\ c=cs)∨(x = "bottom" /\ c=cb):=fun {x c} z=>by
   have z':=PySem.mem_of_lookup z
   rcases List.mem_cons.mp z' with z' | z'
   ·cases z';exact .inl ⟨rfl,rfl⟩
   ·cases List.mem_singleton.mp z';exact .inr ⟨rfl,rfl⟩
  have hne:cs≠cb:=fun z=>by
   have:=Ip.ok.inj _ _ _ hcs (z ▸ hcb)
   exact absurd this (by decide)
  have lam:∃ t,PE (cxL X.prog X.w X.K X.mg X.base ["spot", "some", "bottom"] nY hG f (.ref c') [("some", cs),("bottom", cb)] X.A.in1.in1 X.stack s' H3) _ t/\t [some (.int j),some (.ref a),some (.int b)] H3 (fun v H'=>v=.int k/\H'=H3):=
   zEo (p1:=p7) (p2:=p8) (p3:=p9) (p4:=pa) (p5:=pb) (p6:=pc) (p7:=pd) (p8:=pe) (p9:=pf) (pa:=pg) (pb:=ph) (pc:=pi) (pz:=pj) rfl rfl rfl hq hds x2.s hd hk ⟨rfl,rfl⟩
  obtain ⟨tt,hb,hqq⟩:=lam
  refine wpAny_call (codeAny_mono (zGm (E:=fun _ _ _=>False) (p := "spot") (Ip.ok.hd R.calm) R.dp Ip.env0.in1.in1 hfo' ⟨c',oc,vs,t,rfl,(Ip.hok c' _ hc1).1,hc2,hc3⟩ rfl (by decide +kernel) rfl rfl rfl (by decide +kernel) (fun x hx=>?_) (fun x y c z1 z2=>?_) (fun x c z=>?_) rfl (fun i x v z1 z2=>?_) hb hqq) fun res s'' hres=>?_)
  ·have hx':=PySem.mem_of_lookup hx
   rcases List.mem_cons.mp hx' with z | hx'
   ·cases z
   ·rcases List.mem_cons.mp hx' with z | hx'
    ·cases z;exact ⟨cb,rfl⟩
    ·cases List.mem_singleton.mp hx';exact ⟨cs,rfl⟩
  ·rcases look z1 with ⟨rfl,rfl⟩ | ⟨rfl,rfl⟩<;>rcases look z2 with ⟨rfl,w⟩ | ⟨rfl,w⟩
   ·rfl
   ·exact absurd w hne
   ·exact absurd w.symm hne
   ·rfl
  ·rcases look z with ⟨rfl,rfl⟩ | ⟨rfl,rfl⟩
   ·exact ⟨⟨_,ce0⟩,Ip.freeC _ _ hcs⟩
   ·exact ⟨⟨_,ce1⟩,Ip.freeC _ _ hcb⟩
  ·match i,z1,z2 with
   | 0,z1,z2=>cases z1;cases z2;exact .inl ⟨rfl,tk,rfl⟩
   | 1,z1,z2=>cases z1;cases z2;exact .inr ⟨by decide +kernel,cs,u0,rfl,ce0,r0⟩
   | 2,z1,z2=>cases z1;cases z2;exact .inr ⟨by decide +kernel,cb,u1,rfl,ce1,r1⟩
   | i+3,z1,z2=>simp at z2
  ·cases res with
   | error ev=>exact False.elim hres
   | ok fl=>
    cases fl with
    | ret u=>
     obtain ⟨v,H',J,rv,rfl,rfl⟩:=Ip.after hres
     obtain ⟨t',rfl⟩:=rv
     exact ⟨⟨t',rfl⟩,J⟩
    | next=>exact False.elim hres
    | brk=>exact False.elim hres
    | cont=>exact False.elim hres
 ·have I'':Inv X pins σ H3 s':=I'.unpinned
  obtain ⟨f0,f1,f2,f3,f4,f5⟩:=fD
  have h0:X.s₀.heap.get? D=none:=Heap.get?_none_of_le (Nat.le_trans I3.sz hDs)
  have hl:=hV.length
  have okL:iS X.prog X.w (upd H3 D (.lst (π.map fun i:Nat=>V.int (i:Int)))) s'.heap D (.lst (π.map fun i:Nat=>V.int (i:Int))):=by
   refine ⟨?_,out.toList,c2,hV,by rw [Array.toArray_toList];exact hD⟩
   rw [List.length_map,hπ.1.length_eq,List.length_range,sizeLine_eq];omega
  have I4:=I''.track f0 h0 f1 f4 (fun p hp=>f5 p (by
   rcases List.mem_append.mp hp with hp | hp
   ·exact List.mem_append_left _ hp
   ·exact List.mem_append_right _ (List.mem_append_left _ hp))) okL
  refine ⟨.ref D,_,I4,rfl,q π D Hi _ hπ (x2.trans (Ext.newF x2.s f0)) ⟨x2.h.none f0,x2.s.none f0,_,aP,uR π⟩⟩
end
end L3
namespace L3
open PySem PySem.Spec PyProof.Rows L2 PySem.W
unseal PEd PEf PTd PWd PAd PSd cN POd PGd eK PId PSx iE PTs PCd PCf
def spR (K:PySem.W.Frag) (mg:Str->Option Value) (kf:List D->Res (List Int)):Sp:=fun vs H Q _=>vs.length=1/\∃ Bi ds,TB K mg Bi H/\Same Bi H/\IsDs K Bi vs ds/\match kf ds with
 | .ok kz=>∀ π a Hi' H',dX kz π->Ext Bi H Hi' H'->zDT K H Hi' H' a (dZ π)->Q (.ref a) H'
 | _=>False
structure CanR (P:Program) (w:World) (K:PySem.W.Frag) (mg:Str->Option Value) (base:Heap) (k:Nat) (kf:List D->Res (List Int)):Prop where
 ex:∃ f fd,FnOk P w K mg base (CX1 P w) k f fd ["some"] (spR K mg kf)/\vH K fd ["some"] []/\PySem.W.keepIn K (.ref f)=true/\mg "ranked" = some (.ref f)
theorem CanR.mono {P:Program} {w:World} {K:PySem.W.Frag} {mg:Str->Option Value} {base:Heap} {j k:Nat} {kf:List D->Res (List Int)} (c:CanR P w K mg base j kf) (h:j<=k):CanR P w K mg base k kf:=by
 obtain ⟨f,fd,F,r⟩:=c.ex
 exact ⟨⟨f,fd,F.mono h,r⟩⟩
structure RankDef (st:Stmt):Prop where
 k0:(aD st).names.lookup ("some" : Str)=some .cell
 k1:(aD st).names.lookup ("bottom" : Str)=some .cell
 gS:(aD st).names.lookup ("sorted" : Str)=some .globalImplicit
 gR:(aD st).names.lookup ("range" : Str)=some .globalImplicit
 gL:(aD st).names.lookup ("len" : Str)=some .globalImplicit
 clo:∀ L f cdv,∃ cs cb,closureFor hG (envOfC "ranked" (aD st) L f cdv)=pure [(("some" : Str),cs),(("bottom" : Str),cb)]/\(envOfC "ranked" (aD st) L f cdv).cells.lookup ("some" : Str)=some cs/\(envOfC "ranked" (aD st) L f cdv).cells.lookup ("bottom" : Str)=some cb
section
variable {P:Program} {w:World} {K:PySem.W.Frag} {mg:Str->Option Value} {base:Heap} {st s1 s2:Stmt} {f:Addr} {fd:FuncData} {k:Nat} {sa sb:Sv} {p1 p2 p3 p4 p5 p6 p7 p8 p9 pa pb pc pd pe pf pg ph pi pj pk pl pm pn po:Pos}
theorem zHK {T:Addr} (F:Fn K mg "ranked" st ["some"] f fd) (S:FnScope ["some", "bottom", "each"] ["some"] (aD st)) (D:RankDef st) (hT:lL K mg T) (hB:BMn base mg) (mS:mg "sorted" = none) (mR:mg "range" = none) (mL:mg "len" = none)
  (hbody:cS st=[s1,s2,.Return (some (.Call (.Name "sorted" pk) [.Call (.Name "range" p1) [.Call (.Name "len" p2) [.Name "some" p3] [] p4] [] p5] [⟨some "key", .Lambda (yC p6) (.BinOp (.Subscript (.Subscript (.Name "some" p7) (.Name "spot" p8) p9) (.Constant (.int 0) 0 pa) pb) .Mult
   (.BinOp (.Name "bottom" pc) .FloorDiv (.Subscript (.Subscript (.Name "some" pd) (.Name "spot" pe) pf) (.Constant (.int 1) 0 pg) ph) pi) pj) hG pl,pm⟩] pn)) po])
  (h:∀ (cdv:Value) (A:Around) (outer:List Env) (s:Shared) (H:Hp) (E:XK) (G:Gx),Good (BX P w K mg base ["some", "bottom", "each"] "ranked" st f cdv A outer s H E) G k->zAQ (BX P w K mg base ["some", "bottom", "each"] "ranked" st f cdv A outer s H E) G->
   PSd (BX P w K mg base ["some", "bottom", "each"] "ranked" st f cdv A outer s H E) G s1 sa/\PSd (BX P w K mg base ["some", "bottom", "each"] "ranked" st f cdv A outer s H E) G s2 sb):
  CanR P w K mg base (k+1) (pS sa sb):=by
 refine ⟨f,fd,?_,F.bd,F.kp,F.mg⟩
 obtain ⟨f',oc',od',fd',osl',c,t1,t2,t3,t4⟩:=id hT
 have ef:f'=f:=by have:=t1.symm.trans F.mg;exact Value.ref.inj (Option.some.inj this)
 subst ef
 obtain ⟨oc,od,kV,doc,pm',an,cdv,ct,osl,rfl,lk,hcd⟩:=F.fn.ex
 have efd:cdv=.ref c:=by
  rw [lk] at t2
  cases t2
  exact t3
 subst efd
 refine zJp lk hcd S (fun vs H Q E h=>h.1) fun A outer s H vs Q E hr hsp=>?_
 obtain ⟨hl,Bi,ds,tb,sm,hd,hq⟩:=hsp
 have hg:=zDC (P:=P) (w:=w) (K:=K) (mg:=mg) (base:=base) (N:=["some", "bottom", "each"]) (outer:=outer) (H:=H) (Bi:=Bi) (E:=E) hr tb
 obtain ⟨h1,h2⟩:=h (.ref c) A outer s H E _ hg zI
 have RC:RankCx (BX P w K mg base ["some", "bottom", "each"] "ranked" st f' (.ref c) A outer s H E) T c:=
  ⟨rfl,hr.depth,rfl,rfl,D.k0,D.k1,rfl,t4,by show (("ranked" : Str) ++ ".<locals>.") ++ "<lambda>" = nY;decide +kernel,hB,D.clo _ _ _,D.gS,mS,D.gR,mR,D.gL,mL⟩
 have body:∀ G,PSs (BX P w K mg base ["some", "bottom", "each"] "ranked" st f' (.ref c) A outer s H E) [s1] (tS (BX P w K mg base ["some", "bottom", "each"] "ranked" st f' (.ref c) A outer s H E) G sa)->PS (BX P w K mg base ["some", "bottom", "each"] "ranked" st f' (.ref c) A outer s H E) s1 (tS (BX P w K mg base ["some", "bottom", "each"] "ranked" st f' (.ref c) A outer s H E) G sa)->PS (BX P w K mg base ["some", "bottom", "each"] "ranked" st f' (.ref c) A outer s H E) s2 (tS (BX P w K mg base ["some", "bottom", "each"] "ranked" st f' (.ref c) A outer s H E) G sb)->
   PSs (BX P w K mg base ["some", "bottom", "each"] "ranked" st f' (.ref c) A outer s H E) (cS st) (zLk (tS (BX P w K mg base ["some", "bottom", "each"] "ranked" st f' (.ref c) A outer s H E) G sa) (zLk (tS (BX P w K mg base ["some", "bottom", "each"] "ranked" st f' (.ref c) A outer s H E) G sb) (zLU (zJF (BX P w K mg base ["some", "bottom", "each"] "ranked" st f' (.ref c) A outer s H E) T)))):=fun G _ h1 h2=>by
  rw [hbody]
  exact oE h1 (oE h2 (xD (zAi (zGF RC))))
 refine ⟨_,body _ (xD h1) h1 h2,?_⟩
 cases ek:pS sa sb ds with
 | no=>rw [ek] at hq;exact hq.elim
 | err c=>rw [ek] at hq;exact hq.elim
 | ok kz=>
  rw [ek] at hq
  unfold pS at ek
  split at ek
  case isFalse=>cases ek
  split at ek
  case h_2=>cases ek
  rename_i ρ1 e1
  split at ek
  case h_2=>cases ek
  rename_i ρ2 e2
  refine ⟨L3.start 3 ds,Bi,uL (N:=["some", "bottom", "each"]) sm hd,?_⟩
  rw [e1]
  intro σ1 Hi1 H1 sm1 R1
  refine ⟨ρ1,Hi1,R1,?_⟩
  rw [e2]
  intro σ2 Hi2 H2 sm2 R2
  unfold uP at ek
  split at ek
  case h_2=>cases ek
  rename_i rows b z0 z1
  split at ek
  case isFalse=>cases ek
  rename_i h64
  obtain ⟨v,q0,r0⟩:=R2.slot 0 _ z0
  obtain ⟨v1,q1,r1⟩:=R2.slot 1 _ z1
  obtain ⟨a,xs,rfl,g1,g2⟩:=r0.lstI
  have r1':=r1.intI
  subst r1'
  obtain ⟨tb2,n2⟩:=hg.tb.ext R2.ext T hT
  exact ⟨Hi2,a,xs,rows,b,kz,q0,q1,.inl g1,g2,R2.s,ek,by rw [(sH ek).1];exact h64,tb2,n2,fun π r Hi' H' hπ x nl=>hq π r Hi' H' hπ (R2.ext.trans x) ⟨R2.ext.h.none nl.1,nl.2⟩⟩
end
section
variable {X:Cx} {G:Gx} {e:Expr} {es:List Expr} {pos p:Pos} {fs:Fv} {k:Nat} {kf:List D->Res (List Int)} {tg:Expr} {body rest:List Stmt} {g:Gv} {sa sb:Sv}
def tIr (X:Cx) (G:Gx) (fs:Fv) (kf:List D->Res (List Int)):TI:=fun σ H R=>∃ ρ Hi,iK X G Hi H σ ρ/\Out G Hi H ((fs ρ).bind kf) fun kz Hi' H'=>∀ π J,dX kz π->oG X.K Hi' J (dZ π)->R J H'
theorem zGq (W:Good X G k) (c:CanR X.prog X.w X.K X.mg X.base k kf) (hkf:∀ ds c,kf ds≠.err c) (hk1:∀ ds,kf ds≠.no->ds.length=1) (hg:Gl X "ranked") (ha:PAd X G [e] fs) (he:starEach [e] X.env=(false,eval e X.env)::starEach [] X.env:=by rfl):
  PI X tg (.Call (.Name "ranked" p) [e] [] pos) (tIr X G fs kf):=by
 obtain ⟨f,fd,F,b,kp,hm⟩:=c.ex
 refine PI.wk (zGB (sU F W.room hg hm kp b .nil W.pass ha (by decide) he rfl)) fun σ H R q=>?_
 obtain ⟨ρ,Hi,Rl,ou⟩:=q
 refine zDX Rl ou fun vs ds Hi1 H1 e1 R1 r1 o1=>?_
 rw [List.append_nil]
 have hno:kf ds≠.no:=fun z=>by rw [z] at o1;exact o1
 refine ⟨by rw [r1.length];exact hk1 ds hno,Hi1,ds,W.tb.ext R1.ext,R1.s,r1,?_⟩
 cases z:kf ds with
 | no=>exact absurd z hno
 | err c=>exact absurd z (hkf ds c)
 | ok kz=>
  rw [z] at o1
  intro π a Hi2 H2 hπ e2 n
  obtain ⟨n1,n2,xs,n3,n4⟩:=n
  have x3:=e2.hold n1 n3 n2
  refine ⟨a,rfl,⟨xs,SqL.of n3⟩,o1 _ _ x3 π _ hπ (vL (SqL.of aP) (n4.mono (bM n2 _)))⟩
theorem zHd (W:Good X G k) (c:CanR X.prog X.w X.K X.mg X.base k kf) (hkf:∀ ds c,kf ds≠.err c) (hk1:∀ ds,kf ds≠.no->ds.length=1) (hg:Gl X "ranked") (ha:PAd X G [e] fs) (hgt:PGd X G tg g) (hge:∀ d ρ c,g d ρ≠.err c) (hb:cN X G body sa) (hr:cN X G rest sb)
  (he:starEach [e] X.env=(false,eval e X.env)::starEach [] X.env:=by rfl) {pf:Pos} (hs:∀ x,foldedSetIterable (.Call (.Name "ranked" p) [e] [] pos) X.env x=pure x:=by intro _;rfl):
  cN X G (.For tg (.Call (.Name "ranked" p) [e] [] pos) body [] pf::rest) (zEM fs kf g sa sb):=by
 refine PSs.wk (oE (zFS W.own W.calm (zGq W c hkf hk1 hg ha he) hgt hb hs) hr) fun E σ H q=>?_
 obtain ⟨ρ,Hi,R,h⟩:=q
 refine ⟨ρ,Hi,R,gQ R h fun kz Hi1 H1 _ e1 h1 π J hπ gv=>?_⟩
 have hn:jV kz (fun π=>bP (fun ρ=>loop g sa (dZ π) ρ) sb ρ)≠.no:=fun z=>by rw [z] at h1;exact h1
 rw [<-zAU hn hπ] at h1
 exact zFJ hge (R.grow e1) (zJe (sa:=fun ρ=>loop g sa (dZ π) ρ) h1) gv
end
end L3
namespace L3
open PySem PySem.Spec PyProof.Rows L2 PySem.W
unseal PEd PEf PTd PWd PAd PSd cN POd PGd eK PId PSx iE PTs PCd PCf
def zJY (K:PySem.W.Frag) (mg:Str->Option Value):Sp:=fun vs H Q _=>∃ (a:Addr) (ns:List Int) (Bi:Hp),vs=[.ref a]/\TB K mg Bi H/\Same Bi H/\SqL K Bi a (ns.map V.int)/\ns.length<=63/\(∃ m,m<=1048576/\∀ n∈ns,n.natAbs < 2^m)/\∀ H',Q (.bl true) H'
theorem zHF {P:Program} {w:World} {K:PySem.W.Frag} {mg:Str->Option Value} {base:Heap} {k:Nat} {m:Mir} {f:Addr} {fd:FuncData} (F:FnOk P w K mg base (CX1 P w) k f fd ["script"] (spM K mg 1 m))
  (h:∀ ns:List Int,ns.length<=63->(∃ m,m<=1048576/\∀ n∈ns,n.natAbs < 2^m)->m [.lst (ns.map D.int)]=.ok (.v (.bl true))):FnOk P w K mg base (CX1 P w) k f fd ["script"] (zJY K mg):=by
 refine F.imp fun vs H Q E q=>?_
 obtain ⟨a,ns,Bi,rfl,tb,sm,hS,hl,hbg,q⟩:=q
 refine ⟨rfl,Bi,[.lst (ns.map D.int)],tb,sm,.cons (.lst hS (uF ns)) .nil,?_⟩
 rw [h ns hl hbg]
 intro v Hi' H' e r
 rw [r.blI]
 exact q H'
theorem zGZ {P:Program} {w:World} {K:PySem.W.Frag} {mg:Str->Option Value} {base:Heap} {k:Nat} {m:Mir} {f:Addr} {fd:FuncData} (F:FnOk P w K mg base (CX1 P w) k f fd ["script"] (spM K mg 1 m))
  (h:∀ ns:List Int,ns.length<=63->m [.lst (ns.map D.int)]=.ok (.v (.bl true))):FnOk P w K mg base (CX1 P w) k f fd ["script"] (zJY K mg):=zHF F fun ns hl _=>h ns hl
theorem zEe {K:PySem.W.Frag} {mg:Str->Option Value} {h:Heap} {T T':Addr} (X:K.In h) (a:lL K mg T) (b:lL K mg T'):T'=T:=by
 obtain ⟨f,oc,od,fd,osl,c,a1,a2,a3,a4⟩:=a
 obtain ⟨f',oc',od',fd',osl',c',b1,b2,b3,b4⟩:=b
 rw [a1] at b1;cases b1
 rw [a2] at b2;cases b2
 rw [a3] at b3;cases b3
 obtain ⟨o,vs,_,_,_,_,_,_,_,e1,_,e3,e4,_⟩:=a4 h X
 obtain ⟨o',vs',_,_,_,_,_,_,_,f1,_,f3,f4,_⟩:=b4 h X
 rw [e1] at f1;cases f1
 rw [e3] at f3;cases f3
 rw [e4] at f4;cases f4
 rfl
theorem zDv {P:Program} {w:World} {K:PySem.W.Frag} {mg mb:Str->Option Value} {CX:CXT} {k:Nat} {fa a T:Addr} {fd:FuncData} {x:Str} {s₁:Shared} {vs:List Value} {ns:List Int}
  (KX:K.In s₁.heap) (hns:s₁.heap.Ns mainGlobals mg) (hb:s₁.heap.Ns builtinsNs mb) (hbb:∀ x:Str,x ≠ "__name__" -> mb x=bootBuiltins x) (hlim:s₁.heap.NoLimit) (hg:s₁.gens=#[]) (hbm:BMn s₁.heap mg) (hT:s₁.heap.get? T=some (tabObj #[])) (hKT:K.lookup T=none) (hP:lL K mg T)
  (ha:s₁.heap.get? a=some { cls:=.type "list", data:=.seq vs.toArray }) (hi:IntsAre vs ns) (hl:ns.length<=63) (hbg:∃ m,m<=1048576/\∀ n∈ns,n.natAbs < 2^m) (hr:Room k callerA)
  (F:∀ base:Heap,K.In base->base.Ns mainGlobals mg->BMn base mg->FnOk P w K mg base CX k fa fd [x] (zJY K mg)) (hbind:∀ (s:Shared) (u:Value),BindsTo s fd ⟨[u],[]⟩ [(x,u)])
  (hCX:∀ H e s',CX [] H s₁ (fun _ _ _=>False) e s'->False):
  codeAny (model P w) callerA (.call (.ref fa) ⟨[.ref a],[]⟩) (fun r s'=>r=.ok (.ret (.bool true))/\OldK s₁.heap s'.heap/\s'.os=s₁.os/\AllBare s'.gens) s₁:=by
 have rv:=vJ hi
 have lenV:=hi.length
 have haT:a≠T:=fun z=>by rw [z,hT] at ha;cases ha
 have core:∀ Bi:Hp,zMQ Bi->SqL K Bi a (ns.map V.int)->HOk P w Bi s₁.heap->(∀ b,Bi b≠none->b=a)->(Bi a≠none->K.lookup a=none)->
   codeAny (model P w) callerA (.call (.ref fa) ⟨[.ref a],[]⟩) (fun r s'=>r=.ok (.ret (.bool true))/\OldK s₁.heap s'.heap/\s'.os=s₁.os/\AllBare s'.gens) s₁:=by
  intro Bi hO hS hokB hA hK
  have hBT:Bi T=none:=by
   cases q:Bi T with
   | none=>rfl
   | some u=>exact absurd (hA T (by rw [q];simp)).symm haT
  generalize hHdef:upd Bi T (.tbl #[])=H
  have HT:H T=some (.tbl #[]):=by rw [<-hHdef,aP]
  have Hne:∀ {b},b≠T->H b=Bi b:=fun z=>by rw [<-hHdef,aO z]
  have sm:Same Bi H:=fun b o e=>by rw [Hne (aS e hBT)];exact e
  have hok:HOk P w H s₁.heap:=fun b u e=>by
   by_cases hb:b=T
   ·subst hb;rw [HT] at e;cases e;exact hT
   ·rw [Hne hb] at e
    exact (hokB b u e).stay (fun c v _ q=>q) (fun c q=>sm _ _ q) fun c xs q=>sm _ _ q
  have only:∀ {b:Addr} {o:Obj},s₁.heap.get? b=some o->(∀ xs n,o.data≠.seq xs n)->(∀ vs,o.data≠.fields vs)->H b=none:=fun {b o} e d1 d2=>by
   by_cases hb:b=T
   ·subst hb;rw [hT] at e;cases e;exact absurd rfl (d2 #[])
   ·rw [Hne hb]
    cases q:Bi b with
    | none=>rfl
    | some u=>
     have e':b=a:=hA b (by rw [q];simp)
     subst e'
     rw [ha] at e;cases e
     exact absurd rfl (d1 _ _)
  have base_of:∀ {b:Addr} {o:Obj},s₁.heap.get? b=some o->H b=none->(zDS s₁.heap H).get? b=some o:=fun e n=>zEg e n
  have nsK:∀ {b:Addr} {m:Str->Option Value},s₁.heap.Ns b m->(zDS s₁.heap H).Ns b m:=fun {b m} ⟨o,es,ep,e,d,r⟩=>⟨o,es,ep,base_of e (only e (fun xs n z=>by rw [d] at z;cases z) (fun vs z=>by rw [d] at z;cases z)),d,r⟩
  have hKb:K.In (zDS s₁.heap H):=fun b o e=>base_of (KX b o e) (by
   by_cases hb:b=T
   ·subst hb;rw [hKT] at e;cases e
   ·rw [Hne hb]
    cases q:Bi b with
    | none=>rfl
    | some u=>
     have e':b=a:=hA b (by rw [q];simp)
     subst e'
     rw [hK (by rw [q];simp)] at e;cases e)
  have hBb:BMn (zDS s₁.heap H) mg:=by
   obtain ⟨bm,ob,b1,b2,b3,b4,b5,b6⟩:=hbm
   exact ⟨bm,ob,b1,b2,base_of b3 (only b3 (fun xs n z=>by rw [b6] at z;cases z) (fun vs z=>by rw [b6] at z;cases z)),b4,b5,b6⟩
  have hM:Mod K mg (zDS s₁.heap H):=⟨hKb,nsK hns,⟨mb,nsK hb,hbb⟩,let ⟨mc,h1,h2⟩:=hlim;⟨mc,nsK h1,h2⟩⟩
  have e0:Env0 P w K mg (zDS s₁.heap H) callerA [] s₁ H:=⟨rfl,hM,fun b o e=>zGE e,Nat.le_of_eq (zBW _ _),trivial,fun b hb=>absurd (show b∈([]:List Addr) from hb) (by simp),hok,.of_eq hg⟩
  have htb:TB K mg Bi H:=fun T' h'=>by
   have e':=zEe KX hP h'
   subst e'
   exact ⟨⟨#[],HT,trivial,fun pos cv z=>by cases z⟩,hBT⟩
  refine codeAny_mono ((F _ hKb (nsK hns) hBb).run callerA [] s₁ H ⟨[.ref a],[]⟩ [.ref a] [.ref a] (fun v _=>v=.bl true) (fun _ _ _=>False) hr e0 (hbind s₁ (.ref a)) (.cons rfl .nil) ⟨a,ns,Bi,rfl,htb,sm,hS,hl,hbg,fun _=>rfl⟩) fun r s' h=>?_
  cases r with
  | error e=>exact (hCX H e s' h).elim
  | ok fl=>
   cases fl with
   | next=>exact False.elim h
   | brk=>exact False.elim h
   | cont=>exact False.elim h
   | ret u=>
    obtain ⟨v,H',os,bare,un,hok',r',q⟩:=h
    have q':v=.bl true:=q
    subst q'
    obtain rfl:u=Value.bool true:=r'
    refine ⟨rfl,⟨fun b o e=>?_,fun b o e=>un.there b o e (by simp)⟩,os,bare⟩
    by_cases hbT:b=T
    ·subst hbT
     obtain ⟨more,z⟩:=un.tbls b _ HT
     have z2:s'.heap.get? b=some { cls:=.none,data:=.fields (#[]++more) }:=hok' b _ z
     rw [hT] at e;cases e
     obtain ⟨f,oc,od,fd',osl,c,a1,a2,a3,a4⟩:=hP
     obtain ⟨o,vs,_,_,_,_,_,_,_,e1,e2,e3,e4,_⟩:=a4 _ KX
     exact .inr (.inl ⟨⟨c,o,vs,e1,e2,e3,e4⟩,rfl,#[],more,rfl,z2⟩)
    ·refine .inl ?_
     cases q:H b with
     | none=>exact un.keep b o e q (by intro z;exact absurd (show b∈([]:List Addr) from z) (by simp)) (by simp)
     | some u=>
      rw [Hne hbT] at q
      rcases hO b with z | ⟨ob,xs,z⟩
      ·rw [q] at z;cases z
      ·have z2:=un.frzs b ob _ (by rw [Hne hbT];exact z)
       obtain ⟨e1,_⟩:=hokB b _ z
       obtain ⟨e2,_⟩:=hok' b _ z2
       rw [e] at e1;cases e1
       exact e2
 cases hk:K.lookup a with
 | some o=>
  have e:=KX a o hk
  rw [ha] at e
  cases e
  refine core (fun _=>none) (fun _=>.inl rfl) (.inr ⟨_,vs.toArray,_,hk,rfl,rfl,rfl,by rw [List.size_toArray,lenV,sizeLine_eq];omega,by simpa using rv⟩) (fun b u z=>by have z':(none:Option HO)=some u:=z;cases z') (fun b z=>absurd rfl z) fun z=>absurd rfl z
 | none=>
  refine core (fun b=>if b=a then some (.frz { cls:=.type "list", data:=.seq vs.toArray } (.lst (ns.map V.int))) else none) (fun b=>?_) (.inl (.inr ⟨{ cls:=.type "list", data:=.seq vs.toArray },if_pos rfl⟩)) (fun b u z=>?_) (fun b z=>?_) fun _=>hk
  ·by_cases hb:b=a
   ·exact .inr ⟨_,_,if_pos hb⟩
   ·exact .inl (if_neg hb)
  ·by_cases hb:b=a
   ·have z':=(if_pos hb).symm.trans z
    cases z'
    subst hb
    exact ⟨ha,by rw [List.length_map,sizeLine_eq];omega,vs,_,rv,ha⟩
   ·have z':=(if_neg hb).symm.trans z
    cases z'
  ·by_cases hb:b=a
   ·exact hb
   ·exact absurd (if_neg hb) z
theorem zGh:∀ {ns:List Int} {n:Int},n∈ns->(WData.int n).weight<=WData.weightAll (ns.map WData.int)
 | a::r,n,h=>by
  rw [List.map_cons,WData.weightAll]
  rcases List.mem_cons.mp h with rfl | h
  ·omega
  ·have:=zGh h
   omega
theorem zHL {ns:List Int} (h:WData.layableAll [WData.list (ns.map WData.int)]=true):(∃ m,m<=1048576/\∀ n∈ns,n.natAbs < 2^m):=by
 refine ⟨1048576,Nat.le_refl _,fun n hn=>?_⟩
 have w:WData.weightAll (ns.map WData.int)<=2^20:=by
  unfold WData.layableAll WData.layable at h
  simp only [List.all_cons,List.all_nil,Bool.and_true,Bool.and_eq_true,decide_eq_true_eq] at h
  have:=h.2
  rw [WData.weight] at this
  exact this
 have a:=zGh hn
 rw [WData.weight] at a
 by_cases z:n=0
 ·subst z
  exact Nat.two_pow_pos _
 ·rw [if_neg (by simpa using z)] at a
  exact Nat.lt_of_lt_of_le Nat.lt_log2_self (Nat.pow_le_pow_right (by decide) (by omega))
open PySem.Calls in
theorem vC {l:OpenLaw} {n:Nat} {q:Program} {loose:List Str} {XP:(Str->Option Value)->Heap->Prop} {YP:World->Heap->Prop} {d:DefRec}
  (hn:l.most=some n) (hdf:d.params.defaults=[])
  (call:∀ (w:World) (s₀ s₁:Shared) (mg mb:Str->Option Value) (fa:Addr) (o:Obj) (pm cd doc:Value) (a:Addr) (vs:List Value) (ns:List Int),(∃ m,m<=1048576/\∀ n∈ns,n.natAbs < 2^m)->
   Ground q loose [] XP w s₀ mg mb s₁.heap->YP w s₁.heap->
   s₁.heap.get? fa=some o->o.data=.func (docDef d.name d.params d.body d.scope pm cd doc)->s₁.heap.CodeRec cd d.name->mg d.name=some (.ref fa)->
   s₁.heap.get? a=some { cls:=.type "list", data:=.seq vs.toArray }->IntsAre vs ns->ns.length<=n->s₁.gens=#[]->
   codeAny (model l.prog w) callerA (.call (.ref fa) ⟨[.ref a],[]⟩) (fun r s'=>r=.ok (.ret (.bool true))/\OldK s₁.heap s'.heap/\s'.os=s₁.os/\AllBare s'.gens) s₁):
  WalkO q loose XP YP l.row.toRowW d [] (fun f vs=>PySem.call f vs):=by
 intro w s₀ s₁ mg mb G Y fa o pm cd doc dV kV ho hd hcd hD hmg hg args vals as hpre hlay hrd hwl hlo
 obtain rfl:dV=.none:=Dflts.none hD hdf
 obtain rfl:kV=.none:=Dflts.noKw hD
 obtain ⟨a,vs,ns,rfl,rfl,hobj,hints,hlen⟩:=Att.script_of hn hpre hwl
 refine enter_call (codeAny_mono (call w s₀ s₁ mg mb fa o pm cd doc a vs ns (zHL hlay) G Y ho (fd_plain hd) hcd hmg hobj hints hlen hg) fun r s' hq=>?_)
 obtain ⟨rfl,h2,h3,h4⟩:=hq
 exact ⟨.inl ⟨.bool true,.bool true,[],rfl,fun _=>rfl,.bool true,Att.post_true l _,fun _=>⟨List.Pairwise.nil,fun _ hm=>(nomatch hm)⟩⟩,h2,h3,h4⟩
theorem zLx {l:PySem.W.OpenLaw} {k:Nat} {q:Program} {loose:List Str} {XP:(Str->Option Value)->Heap->Prop} {YP:World->Heap->Prop} {d:DefRec} {K:Params->PySem.W.Frag} {T:Addr} (hn:l.most=some 63) (hdf:d.params.defaults=[]) (hr:Room k callerA)
  (hY:∀ (w:World) (h:Heap),YP w h->(K w.params).In h) (hT:∀ (w:World) (h:Heap),YP w h->h.get? T=some (tabObj #[]))
  (F:∀ (w:World) (mg:Str->Option Value) (fa:Addr) (h:Heap),(K w.params).In h->h.Ns mainGlobals mg->mg d.name=some (.ref fa)->
   (K w.params).lookup T=none/\lL (K w.params) mg T/\∃ fd:FuncData,(∀ (s:Shared) (u:Value),BindsTo s fd ⟨[u],[]⟩ [("script", u)])/\∀ base:Heap,(K w.params).In base->base.Ns mainGlobals mg->BMn base mg->FnOk l.prog w (K w.params) mg base (CX1 l.prog w) k fa fd ["script"] (zJY (K w.params) mg)):
  PySem.W.WalkO q loose XP YP l.row.toRowW d [] (fun f vs=>PySem.call f vs):=by
 refine vC hn hdf fun w s₀ s₁ mg mb fa o pm cd doc a vs ns hbg G Y ho hd hcd hmg hobj hints hlen hg=>?_
 have KX:=hY w _ Y
 obtain ⟨h1,h2,fd,hb,hF⟩:=F w mg fa _ KX G.T.g hmg
 exact zDv KX G.T.g G.T.b G.T.builtins G.T.nolimit hg G.T.bmain (hT w _ Y) h1 h2 hobj hints hlen hbg hr hF hb fun _ _ _ z=>by
  obtain ⟨_,_,_,_,_,z⟩:=z
  exact z
end L3
namespace L3
open PySem PySem.Spec PyProof.Rows L2 PySem.W
unseal PEd PEf PTd PWd PAd PSd cN POd PGd eK PId PSx iE PTs PCd PCf
section
variable {X:Cx} {G:Gx} {pins:List (Addr×Obj)} {σ:St} {H Hi:Hp} {s:Shared} {ρ:Rho} {i k:Nat} {st:Stmt} {sa:Sv}
end
end L3
namespace L3
open PySem PySem.Spec PyProof.Rows L2 PySem.W
unseal PEd PEf PTd PWd PAd PSd cN POd PGd eK PId PSx iE PTs PCd PCf
section
variable {X:Cx} {G:Gx} {e a:Expr} {f g:Ev} {pos:Pos}
end
end L3
namespace L3
open PySem PySem.Spec PyProof.Rows L2 PySem.W
unseal PEd PEf PTd PWd PAd PSd cN POd PGd eK PId PSx iE PTs PCd PCf
section
variable {X:Cx} {G:Gx} {st:Stmt} {rest:List Stmt} {sa sb:Sv} {u:TS}
end
section
variable {P:Program} {w:World} {K:PySem.W.Frag} {mg:Str->Option Value} {base:Heap} {N ps:List Str} {x:Str} {st:Stmt} {f:Addr} {fd:FuncData} {k i0 i1 i2:Nat} {sv:Sv}
end
section
variable {X:Cx} {G:Gx} {e:Expr} {es:List Expr} {pos p:Pos} {fs:Fv} {k j0 j1 j2:Nat} {kf:List D->Res Tri} {x:Str} {ps:List Str} {tg:Expr}
end
end L3
namespace L3
open PySem PySem.Spec PyProof.Rows L2
unseal PEd PEf PTd PWd PAd PSd cN POd PGd eK PId PSx iE PTs PCd PCf
section
variable {X:Cx} {G:Gx} {fs:Fv} {f:Ev}
end
end L3
namespace L3
open PySem PySem.Spec PyProof.Rows L2
unseal PEd PEf PTd PWd PAd PSd cN POd PGd eK PId PSx iE PTs PCd PCf
section
variable {prog:Program} {w:World} {A:Around} {E:Value->Shared->Prop} {s:Shared}
end
section
variable {X:Cx} {G:Gx} {f:Ev}
end
section
variable {X:Cx} {G:Gx} {it:Fv} {t:Tv}
end
end L3
namespace L3
open PySem PySem.Spec PyProof.Rows L2
unseal PEd PEf PTd PWd PAd PSd cN POd PGd eK PId PSx iE PTs PCd PCf
section
variable {X:Cx} {G:Gx}
theorem cU {i:Int} {j pos}:PEd X G (.Constant (.int i) j pos) (eC (.int i)):=qX zDQ fun _=>.int _
theorem aN (i:Nat) {x:Str} {pos:Pos} (hN:X.N[i]?=some x:=by rfl) (hv:Vis X.env.scope x:=by first | exact Or.inl rfl | exact Or.inr (Or.inl rfl) | exact Or.inr (Or.inr rfl)) (hd:(x==("__debug__" : Str))=false:=by decide)
  (hcd:(x==("__classdict__" : Str))=false:=by decide):PEd X G (.Name x pos) (aE i):=zIG i (pv i hN hv hd hcd)
theorem iF (n:Nat) {x:Str} {pos p2:Pos} {i:Int} {j p1} (hN:X.N[n]?=some x:=by rfl) (hv:Vis X.env.scope x:=by first | exact Or.inl rfl | exact Or.inr (Or.inl rfl) | exact Or.inr (Or.inr rfl)) (hd:(x==("__debug__" : Str))=false:=by decide)
  (hcd:(x==("__classdict__" : Str))=false:=by decide):PEd X G (.Subscript (.Name x pos) (.Constant (.int i) j p1) p2) (eOp oIx (aE n) (eC (.int i))):=zEv iN zKQ (aN n hN hv hd hcd) cU (fun _ _=>rfl)
end
end L3
namespace L3
open PySem PySem.Spec PyProof.Rows L2
unseal PEd PEf PTd PWd PAd PSd cN POd PGd eK PId PSx iE PTs PCd PCf
section
variable {X:Cx} {G:Gx} {it:Fv} {t:Tv}
end
end L3
namespace L3
open PySem PySem.Spec PyProof.Rows L2
unseal PEd PEf PTd PWd PAd PSd cN POd PGd eK PId PSx iE PTs PCd PCf
section
variable {X:Cx} {G:Gx} {a:Expr} {f:Ev}
theorem qZ (h:PEd X G a f) (n:Nat) {x:Str} {pos p2:Pos} (hN:X.N[n]?=some x:=by rfl) (hv:Vis X.env.scope x:=by first | exact Or.inl rfl | exact Or.inr (Or.inl rfl) | exact Or.inr (Or.inr rfl)) (hd:(x==("__debug__" : Str))=false:=by decide)
  (hcd:(x==("__classdict__" : Str))=false:=by decide):PEd X G (.Subscript a (.Name x pos) p2) (eOp oIx f (aE n)):=zEv iN zKQ h (aN n hN hv hd hcd) (fun _ _=>rfl)
theorem bQ (n:Nat) {x:Str} {pos:Pos} (hN:X.N[n]?=some x:=by rfl) (hv:Vis X.env.scope x:=by first | exact Or.inl rfl | exact Or.inr (Or.inl rfl) | exact Or.inr (Or.inr rfl)) (hd:(x==("__debug__" : Str))=false:=by decide)
  (hcd:(x==("__classdict__" : Str))=false:=by decide):PAd X G [.Name x pos] (aB (aE n) aNil):=aA (aN n hN hv hd hcd) aL aH
theorem s_z (i:Nat) {x:Str} {pos pos':Pos} (hN:X.N.Nodup) (he:PEd X G a f) (hi:X.N[i]?=some x:=by rfl) (hx:Loc X.env.scope x:=by first | exact Or.inl rfl | exact Or.inr rfl) (hs:swapsWith a (some (.Name x pos')) pos.line X.env=pure false:=by rfl)
  (hf:X.fn x=true∨X.env.scope.names.lookup x=some .local:=by first | exact .inl rfl | exact .inr rfl | assumption):PSd X G (.Assign [.Name x pos'] a pos) (fL i f):=zLl hN hi hx he hs hf
theorem g_z (i:Nat) {x:Str} {pos:Pos} (hN:X.N.Nodup) (hi:X.N[i]?=some x:=by rfl) (hx:Loc X.env.scope x:=by first | exact Or.inl rfl | exact Or.inr rfl) (hf:X.fn x=true∨X.env.scope.names.lookup x=some .local:=by first | exact .inl rfl | exact .inr rfl | assumption):PGd X G (.Name x pos) (gName i):=zJf hN hi hx hf
theorem zDV {s j p}:PAd X G [.Constant (.str s) j p] (aB (eC (.str s)) aNil):=aA (qX iC fun _=>.str _) aL fS
end
section
variable {P:Program} {w:World} {K:PySem.W.Frag} {mg:Str->Option Value} {base:Heap} {k:Nat} {x:Str} {st:Stmt} {ps N:List Str} {f:Addr} {fd:FuncData} {b:Sv}
theorem fV (F:Fn K mg x st ps f fd) (S:FnScope N ps (aD st))
  (h:∀ {cdv:Value} {A:Around} {outer:List Env} {s:Shared} {H:Hp} {E:XK} {G:Gx},Good (BX P w K mg base N x st f cdv A outer s H E) G k->zAQ (BX P w K mg base N x st f cdv A outer s H E) G->cN (BX P w K mg base N x st f cdv A outer s H E) G (cS st) b):
  CanM P w K mg base (k+1) x ps (fn ps.length N.length b):=oJ F S fun _ _ _ _ _ _ _ W R=>h W R
end
end L3
namespace L3
open PySem PySem.Spec PyProof.Rows L2
unseal PEd PEf PTd PWd PAd PSd cN POd PGd eK PId PSx iE PTs PCd PCf
section
variable {X:Cx} {G:Gx} {e:Expr} {es:List Expr} {pos p:Pos} {fs:Fv} {k:Nat} {x:Str} {ps:List Str} {m:Mir}
end
section
variable {X:Cx} {G:Gx} {a c:Expr} {f:Ev} {pos:Pos}
end
end L3
namespace L3
open PySem PySem.Spec PyProof.Rows L2 PySem.W
unseal PEd PEf PTd PWd PAd PSd cN POd PGd eK PId PSx iE PTs PCd PCf
section
variable {X:Cx} {G:Gx} {e:Expr} {pos p:Pos} {fs:Fv} {k:Nat} {kf:List D->Res (List Int)}
theorem zHD (W:Good X G k) (c:CanR X.prog X.w X.K X.mg X.base k kf) (hkf:∀ ds c,kf ds≠.err c) (hk1:∀ ds,kf ds≠.no->ds.length=1) (hg:Gl X "ranked") (ha:PAd X G [e] fs) (he:starEach [e] X.env=(false,eval e X.env)::starEach [] X.env:=by rfl):
  PEf X G (.Call (.Name "ranked" p) [e] [] pos) (zAD kf fs):=by
 obtain ⟨f,fd,F,b,kp,hm⟩:=c.ex
 refine PE.wk (sU F W.room hg hm kp b .nil W.pass ha (by decide) he rfl) fun σ H Q q=>?_
 obtain ⟨ρ,Hi,Rl,ou⟩:=q
 have ou':Out G Hi H ((fs ρ).bind fun ds=>(kf ds).bind fun kz=>Res.ok (dZ (aZ kz))) fun ds Hi' H'=>∀ a,zDT X.K H Hi' H' a ds->Q (.ref a) H':=by
  have e:zAD kf fs ρ=(fs ρ).bind fun ds=>(kf ds).bind fun kz=>Res.ok (dZ (aZ kz)):=by
   unfold zAD
   cases fs ρ<;>rfl
  rw [<-e];exact ou
 refine zDX Rl ou' fun vs ds Hi1 H1 e1 R1 r1 o1=>?_
 rw [List.append_nil]
 have hno:kf ds≠.no:=fun z=>by rw [z] at o1;exact o1
 refine ⟨by rw [r1.length];exact hk1 ds hno,Hi1,ds,W.tb.ext R1.ext,R1.s,r1,?_⟩
 cases z:kf ds with
 | no=>exact absurd z hno
 | err c=>exact absurd z (hkf ds c)
 | ok kz=>
  rw [z] at o1
  intro π a Hi2 H2 hπ e2 n
  rw [zAM hπ] at n
  exact o1 Hi2 H2 e2 a ⟨e1.h.none n.1,n.2⟩
end
section
variable {X:Cx} {G:Gx} {e o k:Expr} {f fk:Ev} {pos tpos:Pos}
def zKZ:V->V->Hp->VK->Prop:=fun o i H Q=>∃ (p:Addr) (xs:List V) (n:Int) (v:V),o=.ref p/\i=.int n/\H p=some (.lst xs)/\0<=n/\n < 1000/\xs[n.toNat]?=some v/\Q v H
theorem zCD:zMc X zKZ:=by
 intro pins s σ H o i ov iv Q I ro ri h
 obtain ⟨p,xs,n,v,rfl,rfl,hp,h0,h1,hv,q⟩:=h
 cases ro
 obtain ⟨t,rfl⟩:=ri
 obtain ⟨its,r,pl,hz⟩:=I.list (SqL.of hp)
 obtain ⟨w,ew,rw'⟩:=r.get hv
 exact wpAny_getItem_list pl.isList h0 (by omega) (by simpa using ew) ⟨v,H,I,rw',q⟩
theorem zJX {i:Nat} (ho:PE X o (zAb i)) (hk:PEd X G k fk) (he:PEd X G e f)
  (ha:∀ ov iv new,augStore k ov iv new=(do holding [new,ov,iv] (setItem ov iv new);release [new,ov,iv] [];pure .next):=by intros;rfl):PSd X G (.AugAssign (.Subscript o k tpos) .Add e pos) (zBX i fk f):=
 PS.wk (zHM ho hk zCD he zJD zAe ha) fun E σ H q=>by
 obtain ⟨ρ,Hi,R,h⟩:=q
 unfold zBX at h
 cases z:ρ[i]? with
 | none=>rw [z] at h;exact h.elim
 | some s=>
  rw [z] at h
  cases s with
  | own ds=>
   obtain ⟨a,xs,p,g1,g2,g3,g4⟩:=R.slot i _ z
   refine ⟨.ref a,p,?_⟩
   refine ⟨ρ,Hi,R,gQ R h fun j Hi1 H1 _ e1 h1 v r=>?_⟩
   have R1:=R.grow e1
   obtain ⟨k1,k2⟩:=e1.out g1 g2
   cases j with
   | int j=>
    have h1':Fin X G Hi1 E (if zIj j=true then (match ds[j.toNat]? with
     | some (.int x)=>(f ρ).bind fun y=>match y with
      | .int y=>.ok (.nx (ρ.set i (.own (ds.set j.toNat (.int (x+y))))))
      | _=>.no
     | _=>.no) else .no):=h1
    by_cases c0:zIj j=true
    ·rw [if_pos c0] at h1'
     have c:=zAu.mp c0
     cases zx:ds[j.toNat]? with
     | none=>rw [zx] at h1';exact h1'.elim
     | some d=>
      rw [zx] at h1'
      have hl:=g4.length
      have hjl:j.toNat < ds.length:=(List.getElem?_eq_some_iff.mp zx).1
      cases d with
      | int x=>
       obtain ⟨u,eu,ru⟩:=g4.at zx
       refine ⟨a,xs,j,u,rfl,r.intI,k1,c.1,c.2,eu,?_⟩
       refine ⟨ρ,Hi1,R1,gQ R1 h1' fun y Hi2 H2 _ e2 h2 w rw'=>?_⟩
       have R2:=R1.grow e2
       obtain ⟨m1,m2⟩:=e2.out k1 k2
       cases y with
       | int y=>
        refine ⟨x,y,ru.intI,rw'.intI,a,xs,j,j.toNat,rfl,r.intI,m1,by unfold ixN;rw [if_pos c.1,if_pos (by omega)],?_⟩
        exact (show Fin X G Hi2 E (.ok (.nx (ρ.set i (.own (ds.set j.toNat (.int (x+y))))))) from h2) σ Hi2 _ (Same.refl _) (R2.write z p (((g4.mono e1.i).mono e2.i).set (.int _) j.toNat))
       | _=>exact h2.elim
      | _=>exact h1'.elim
    ·rw [if_neg c0] at h1';exact h1'.elim
   | _=>exact h1.elim
  | un=>exact h.elim
  | val d=>exact h.elim
  | exc c=>exact h.elim
  | tab T=>exact h.elim
end
section
variable {X:Cx} {G:Gx} {e:Expr} {fs:Fv}
theorem PCf.frz (h:PCf X G e fs):PCf X G e (zGL fs):=PC.wk h fun σ H Q q=>by
 obtain ⟨ρ,Hi,R,ou⟩:=q
 obtain ⟨Hf,s1,R1,fl⟩:=R.frz
 refine ⟨ρ.map Sl.frz,Hf,R1,?_⟩
 unfold zGL at ou
 cases z:fs (ρ.map Sl.frz) with
 | no=>rw [z] at ou;exact ou
 | err c=>
  rw [z] at ou
  intro Hi1 H1 e1
  have ou':∀ Hi' H',Ext Hi H Hi' H'->G.E c H':=ou
  obtain ⟨Ht,e2,k,s2,n⟩:=Ext.thaw s1 fl R1.s e1
  exact ou' Ht H1 e2
 | ok ds=>
  rw [z] at ou
  have ou':Out G Hi H (if noLs ds=true then Res.ok ds else .no) _:=ou
  by_cases hz:noLs ds=true
  ·rw [if_pos hz] at ou'
   intro Hi1 H1 e1 a n
   obtain ⟨n1,n2,xs,n3,n4⟩:=n
   obtain ⟨Ht,e2,k,s2,_⟩:=Ext.thaw s1 fl R1.s e1
   exact ou' Ht H1 e2 a ⟨n1,s2.none n2,xs,n3,n4.noL k hz⟩
  ·rw [if_neg hz] at ou';exact ou'.elim
end
section
variable {X:Cx}
end
end L3
namespace L3
open PySem PySem.Spec PyProof.Rows L2
theorem qF (a b c:Value):checkTypeCall "zip" ⟨[a,b,c],[]⟩=pure ():=by kernel_rfl
theorem sV (a b c:Value):checkBuiltinCall "zip.__new__" ⟨[.type "zip", a,b,c],[]⟩=pure ():=by kernel_rfl
theorem lB (a b c d:Value):argsOk "object.__init__" ⟨[a,b,c,d],[]⟩:=by
 unfold argsOk;rw [signature?_of (id := "object.__init__") (n:=['_', '_', 't', 'i', 'n', 'i', '_', '_']) (o:=['t', 'c', 'e', 'j', 'b', 'o']) (by kernel_rfl) F.owner_object];kernel_rfl
abbrev gE (h:Heap) (T:Addr) (a b c:Value):Prop:=h.get? T=some { cls:=.type "tuple", data:=.seq #[a,b,c] }
def oT (f0:Value) (k1 k2 k3:Bool) (l1 l2 l3 n:Addr) (j1 j2 j3:Nat) (h:Heap):Prop:=
 IsZip h (n+5) (n+3) (n+4) f0/\gE h (n+3) (.ref n) (.ref (n+1)) (.ref (n+2))/\(∃ a b c,gE h (n+4) a b c)/\oR k1 h n l1 j1/\oR k2 h (n+1) l2 j2/\oR k3 h (n+2) l3 j3
def kF (n:Addr) (h h2:Heap):Prop:=∀ c o,c≠n+5->c≠n+4->c≠n->c≠n+1->c≠n+2->h.get? c=some o->h2.get? c=some o
theorem kF.then {n:Addr} {h h1 h2:Heap} (a:kF n h h1) (b:kF n h1 h2):kF n h h2:=fun c o c1 c2 c3 c4 c5 e=>b c o c1 c2 c3 c4 c5 (a c o c1 c2 c3 c4 c5 e)
theorem kF.eb {n a:Addr} {h h2:Heap} (k:Heap.ExtBut a h h2) (m:a=n+5∨a=n+4∨a=n∨a=n+1∨a=n+2):kF n h h2:=fun c o c1 c2 c3 c4 c5 e=>k c o (fun z=>by subst z;rcases m with m | m | m | m | m<;>contradiction) e
theorem kF.sq {k:Bool} {n l:Addr} {h h2:Heap} {xs:Array Value} (a:kF n h h2) (hl:l < n) (x:gC k h l xs):gC k h2 l xs:=
 x.go fun o e=>a l o (Nat.ne_of_lt (Nat.lt_add_right 5 hl)) (Nat.ne_of_lt (Nat.lt_add_right 4 hl)) (Nat.ne_of_lt hl) (Nat.ne_of_lt (Nat.lt_succ_of_lt hl)) (Nat.ne_of_lt (Nat.lt_add_right 2 hl)) e
theorem nzA {a b:Nat} (n:Addr) (h:a≠b):n+a≠n+b:=fun z=>h (by have z':(_:Nat)=_:=z;omega)
theorem nzZ {b:Nat} (n:Addr) (h:0≠b):n≠n+b:=fun z=>h (by have z':(_:Nat)=_:=z;omega)
theorem oT.fld {f0:Value} {k1 k2 k3:Bool} {l1 l2 l3 n:Addr} {j1 j2 j3:Nat} {h h2:Heap} (g:oT f0 k1 k2 k3 l1 l2 l3 n j1 j2 j3 h) {f1:Value} (z:IsZip h2 (n+5) (n+3) (n+4) f1) (s:Heap.ExtBut (n+5) h h2):oT f1 k1 k2 k3 l1 l2 l3 n j1 j2 j3 h2:=by
 obtain ⟨_,g2,⟨a,b,c,g3⟩,g4,g5,g6⟩:=g
 exact ⟨z,s _ _ (nzA n (by decide)) g2,⟨a,b,c,s _ _ (nzA n (by decide)) g3⟩,g4.go fun o e=>s _ o (nzZ n (by decide)) e,g5.go fun o e=>s _ o (nzA n (by decide)) e,g6.go fun o e=>s _ o (nzA n (by decide)) e⟩
theorem oT.it1 {f0:Value} {k1 k2 k3:Bool} {l1 l2 l3 n:Addr} {j1 j2 j3 m:Nat} {h h2:Heap} (g:oT f0 k1 k2 k3 l1 l2 l3 n j1 j2 j3 h) (z:oR k1 h2 n l1 m) (s:Heap.ExtBut n h h2):oT f0 k1 k2 k3 l1 l2 l3 n m j2 j3 h2:=by
 obtain ⟨g1,g2,⟨a,b,c,g3⟩,_,g5,g6⟩:=g
 exact ⟨s _ _ (nzZ n (by decide)).symm g1,s _ _ (nzZ n (by decide)).symm g2,⟨a,b,c,s _ _ (nzZ n (by decide)).symm g3⟩,z,g5.go fun o e=>s _ o (nzZ n (by decide)).symm e,g6.go fun o e=>s _ o (nzZ n (by decide)).symm e⟩
theorem oT.it2 {f0:Value} {k1 k2 k3:Bool} {l1 l2 l3 n:Addr} {j1 j2 j3 m:Nat} {h h2:Heap} (g:oT f0 k1 k2 k3 l1 l2 l3 n j1 j2 j3 h) (z:oR k2 h2 (n+1) l2 m) (s:Heap.ExtBut (n+1) h h2):oT f0 k1 k2 k3 l1 l2 l3 n j1 m j3 h2:=by
 obtain ⟨g1,g2,⟨a,b,c,g3⟩,g4,_,g6⟩:=g
 exact ⟨s _ _ (nzA n (by decide)) g1,s _ _ (nzA n (by decide)) g2,⟨a,b,c,s _ _ (nzA n (by decide)) g3⟩,g4.go fun o e=>s _ o (nzZ n (by decide)) e,z,g6.go fun o e=>s _ o (nzA n (by decide)) e⟩
theorem oT.it3 {f0:Value} {k1 k2 k3:Bool} {l1 l2 l3 n:Addr} {j1 j2 j3 m:Nat} {h h2:Heap} (g:oT f0 k1 k2 k3 l1 l2 l3 n j1 j2 j3 h) (z:oR k3 h2 (n+2) l3 m) (s:Heap.ExtBut (n+2) h h2):oT f0 k1 k2 k3 l1 l2 l3 n j1 j2 m h2:=by
 obtain ⟨g1,g2,⟨a,b,c,g3⟩,g4,g5,_⟩:=g
 exact ⟨s _ _ (nzA n (by decide)) g1,s _ _ (nzA n (by decide)) g2,⟨a,b,c,s _ _ (nzA n (by decide)) g3⟩,g4.go fun o e=>s _ o (nzZ n (by decide)) e,g5.go fun o e=>s _ o (nzA n (by decide)) e,z⟩
theorem oT.out {f0 a b c:Value} {k1 k2 k3:Bool} {l1 l2 l3 n:Addr} {j1 j2 j3:Nat} {h h2:Heap} (g:oT f0 k1 k2 k3 l1 l2 l3 n j1 j2 j3 h) (z:gE h2 (n+4) a b c) (s:Heap.ExtBut (n+4) h h2):oT f0 k1 k2 k3 l1 l2 l3 n j1 j2 j3 h2:=by
 obtain ⟨g1,g2,_,g4,g5,g6⟩:=g
 exact ⟨s _ _ (nzA n (by decide)) g1,s _ _ (nzA n (by decide)) g2,⟨a,b,c,z⟩,g4.go fun o e=>s _ o (nzZ n (by decide)) e,g5.go fun o e=>s _ o (nzA n (by decide)) e,g6.go fun o e=>s _ o (nzA n (by decide)) e⟩
section
variable {prog:Program} {w:World} {A:Around} {E:Value->Shared->Prop} {s:Shared}
theorem yT {T:Addr} {a b c x:Value} {k:Nat} {Q:Unit->Shared->Prop} (hT:gE s.heap T a b c)
  (h:∀ h',h'.get? T=some { cls:=.type "tuple", data:=.seq ((#[a,b,c]:Array Value).setIfInBounds k x) }->Heap.SameBut T s.heap h'->Q () { s with heap:=h' }):
  wpAny (model prog w) A (updateSeq T (·.setIfInBounds k x)) Q E s:=by
 refine wpAny_updateSeq hT rfl (h _ ?_ (Heap.SameBut.update ..))
 rw [Heap.get?_update_self _ hT rfl]
 simp [Obj.mapSeq]
theorem zLj {k1 k2 k3:Bool} {n l1 l2 l3:Addr} {j:Nat} {xs ys zs:Array Value} {Q:PySem.Fin->Shared->Prop} (hh:A.handled=none) (b1:l1 < n) (b2:l2 < n) (b3:l3 < n) (g:oT .none k1 k2 k3 l1 l2 l3 n j j j s.heap) (d1:gC k1 s.heap l1 xs) (d2:gC k2 s.heap l2 ys) (d3:gC k3 s.heap l3 zs)
  (go:∀ x y z,xs[j]?=some x->ys[j]?=some y->zs[j]?=some z->∀ h2,oT (rawInt s.heap.objs.size) k1 k2 k3 l1 l2 l3 n (j+1) (j+1) (j+1) h2->gE h2 s.heap.objs.size x y z->kF n s.heap h2->Q (.done (.ret (.ref s.heap.objs.size))) { s with heap:=h2 })
  (stop:xs[j]?=none∨ys[j]?=none∨zs[j]?=none->∀ h2 e,kF n s.heap h2->(∃ o,h2.get? e=some o/\o.cls=.type "StopIteration")->E (.ref e) { s with heap:=h2 }):
  wpAny (model prog w) A (Builtin.«zip.__next__» ⟨[.ref (n+5)],[]⟩) Q E s:=by
 have stopZ:∀ {h1:Heap} {e:Addr} {v:Value} {k:Nat} {R:Unit->Shared->Prop},kF n s.heap h1->IsZip h1 (n+5) (n+3) (n+4) .ellipsis->(∃ o,h1.get? e=some o/\o.cls=.type "StopIteration")->k < 5->
   (∀ h3,kF n s.heap h3->(∃ o,h3.get? e=some o/\o.cls=.type "StopIteration")->R () { s with heap:=h3 })->wpAny (model prog w) A (setField (.ref (n+5)) k v) R E { s with heap:=h1 }:=by
  intro h1 e v k R kz z he hk fin
  obtain ⟨oe,e1,e2⟩:=he
  have nz:e≠n+5:=fun y=>by subst y;rw [z] at e1;cases e1;simp at e2
  exact wpAny_setField_rec z (by simpa using hk) fun h3 _ s3=>fin h3 (kz.then (.eb s3.extBut (.inl rfl))) ⟨oe,s3.extBut _ _ nz e1,e2⟩
 obtain ⟨z0,t0,⟨a,b,c,p0⟩,_⟩:=id g
 refine show wpAny _ _ (field _ 2 >>= _) _ _ s from wpAny_bind (wpAny_field z0 rfl (x:=.bool false) rfl (show wpAny _ _ (field _ 3 >>= _) _ _ s from wpAny_bind (wpAny_field z0 rfl (x:=.ref (n+3)) rfl (wpAny_bind (wpAny_seqItems t0 rfl (wpAny_bind ?_))))))
 unfold Builtin.SmallTypes.ownedTupleIsFree
 refine wpAny_bind (wpAny_field z0 rfl (x:=.none) rfl (wpAny_pure ?_))
 simp only [if_true]
 refine wpAny_bind (wpAny_rule (wpAny_bind (wpAny_field z0 rfl (x:=.ref (n+4)) rfl (wpAny_bind (wpAny_setField_rec z0 (by simp) fun h1 z1 s1=>wpAny_bind ?_)))))
 have g1:oT .ellipsis k1 k2 k3 l1 l2 l3 n j j j h1:=g.fld z1 s1.extBut
 have k1':kF n s.heap h1:=.eb s1.extBut (.inl rfl)
 simp only [List.zipIdx_cons,List.zipIdx_nil,List.forIn_cons,List.forIn_nil]
 refine wpAny_bind (wpAny_bind (wpAny_onRaise (show wpAny _ _ (Builtin.SmallTypes.nextOf _ >>= _) _ _ _ from wpAny_bind ?_)))
 cases q1:xs[j]? with
 | none=>
  refine pH (s:={ s with heap:=h1 }) hh g1.2.2.2.1 (k1'.sq b1 d1) q1 fun h2 e x2 he=>stopZ (k1'.then (.eb x2 (.inr (.inr (.inl rfl))))) (x2 _ _ (nzZ n (by decide)).symm g1.1) he (by decide) fun h3=>stop (.inl q1) h3 e
 | some x=>
  refine lZ (s:={ s with heap:=h1 }) g1.2.2.2.1 (k1'.sq b1 d1) q1 fun h2 i2 s2=>wpAny_pure ?_
  have g2:=g1.it1 i2 s2.extBut
  have k2':=k1'.then (.eb s2.extBut (.inr (.inr (.inl rfl))))
  have p2:gE h2 (n+4) a b c:=s2.extBut _ _ (nzZ n (by decide)).symm (s1.extBut _ _ (nzA n (by decide)) p0)
  refine wpAny_bind (wpAny_seqItems (s:={ s with heap:=h2 }) p2 rfl (wpAny_bind (yT p2 fun h3 p3 s3=>wpAny_bind (wpAny_letGo (wpAny_pure ?_)))))
  have p3:gE h3 (n+4) x b c:=p3
  have g3:=g2.out p3 s3.extBut
  have k3':=k2'.then (.eb s3.extBut (.inr (.inl rfl)))
  refine wpAny_bind (wpAny_bind (wpAny_onRaise (show wpAny _ _ (Builtin.SmallTypes.nextOf _ >>= _) _ _ _ from wpAny_bind ?_)))
  cases q2:ys[j]? with
  | none=>
   refine pH (s:={ s with heap:=h3 }) hh g3.2.2.2.2.1 (k3'.sq b2 d2) q2 fun h4 e x4 he=>stopZ (k3'.then (.eb x4 (.inr (.inr (.inr (.inl rfl)))))) (x4 _ _ (nzA n (by decide)) g3.1) he (by decide) fun h5=>stop (.inr (.inl q2)) h5 e
  | some y=>
   refine lZ (s:={ s with heap:=h3 }) g3.2.2.2.2.1 (k3'.sq b2 d2) q2 fun h4 i4 s4=>wpAny_pure ?_
   have g4:=g3.it2 i4 s4.extBut
   have k4':=k3'.then (.eb s4.extBut (.inr (.inr (.inr (.inl rfl)))))
   have p4:gE h4 (n+4) x b c:=s4.extBut _ _ (nzA n (by decide)) p3
   refine wpAny_bind (wpAny_seqItems (s:={ s with heap:=h4 }) p4 rfl (wpAny_bind (yT p4 fun h5 p5 s5=>wpAny_bind (wpAny_letGo (wpAny_pure ?_)))))
   have p5:gE h5 (n+4) x y c:=p5
   have g5:=g4.out p5 s5.extBut
   have k5':=k4'.then (.eb s5.extBut (.inr (.inl rfl)))
   refine wpAny_bind (wpAny_bind (wpAny_onRaise (show wpAny _ _ (Builtin.SmallTypes.nextOf _ >>= _) _ _ _ from wpAny_bind ?_)))
   cases q3:zs[j]? with
   | none=>
    refine pH (s:={ s with heap:=h5 }) hh g5.2.2.2.2.2 (k5'.sq b3 d3) q3 fun h6 e x6 he=>stopZ (k5'.then (.eb x6 (.inr (.inr (.inr (.inr rfl)))))) (x6 _ _ (nzA n (by decide)) g5.1) he (by decide) fun h7=>stop (.inr (.inr q3)) h7 e
   | some z=>
    refine lZ (s:={ s with heap:=h5 }) g5.2.2.2.2.2 (k5'.sq b3 d3) q3 fun h6 i6 s6=>wpAny_pure ?_
    have g6:=g5.it3 i6 s6.extBut
    have k6':=k5'.then (.eb s6.extBut (.inr (.inr (.inr (.inr rfl)))))
    have p6:gE h6 (n+4) x y c:=s6.extBut _ _ (nzA n (by decide)) p5
    refine wpAny_bind (wpAny_seqItems (s:={ s with heap:=h6 }) p6 rfl (wpAny_bind (yT p6 fun h7 p7 s7=>wpAny_bind (wpAny_letGo (wpAny_pure (wpAny_pure ?_))))))
    have p7:gE h7 (n+4) x y z:=p7
    have g7:=g6.out p7 s7.extBut
    have k7':=k6'.then (.eb s7.extBut (.inr (.inl rfl)))
    have sz:h7.objs.size=s.heap.objs.size:=s7.1.trans (s6.1.trans (s5.1.trans (s4.1.trans (s3.1.trans (s2.1.trans s1.1)))))
    refine wpAny_bind (wpAny_seqItems (s:={ s with heap:=h7 }) p7 rfl (wpAny_bind (wpAny_newTuple (show wpAny _ _ (Builtin.SmallTypes.ownedTupleHandOut _ (.ref h7.objs.size) >>= _) _ _ _ from wpAny_bind ?_))))
    unfold Builtin.SmallTypes.ownedTupleHandOut
    refine wpAny_bind (wpAny_setField_rec (Heap.get?_push_of_some _ g7.1) (by simp) fun h8 z8 s8=>wpAny_setField_rec z8 (by simp) fun h9 z9 s9=>wpAny_pure ?_)
    have nz:h7.objs.size≠n+5:=Nat.ne_of_gt (Heap.lt_size g7.1)
    have x9:Heap.ExtBut (n+5) h7 h9:=fun c o c1 e=>s9.extBut _ _ c1 (s8.extBut _ _ c1 (Heap.get?_push_of_some _ e))
    have g9:oT (rawInt h7.objs.size) k1 k2 k3 l1 l2 l3 n (j+1) (j+1) (j+1) h9:=g7.fld z9 x9
    have t9:gE h9 h7.objs.size x y z:=s9.extBut _ _ nz (s8.extBut _ _ nz (Heap.get?_push_size _ rfl))
    rw [sz] at g9 t9
    show Q (.done (.ret (.ref h7.objs.size))) _
    rw [sz]
    exact go x y z q1 q2 q3 h9 g9 t9 (k7'.then (.eb x9 (.inl rfl)))
theorem zJo {k1 k2 k3:Bool} {n l1 l2 l3:Addr} {j:Nat} {xs ys zs:Array Value} {Q:Option Value->Shared->Prop} (hh:A.handled=none) (b1:l1 < n) (b2:l2 < n) (b3:l3 < n) (g:oT .none k1 k2 k3 l1 l2 l3 n j j j s.heap) (d1:gC k1 s.heap l1 xs) (d2:gC k2 s.heap l2 ys) (d3:gC k3 s.heap l3 zs)
  (go:∀ x y z,xs[j]?=some x->ys[j]?=some y->zs[j]?=some z->∀ h2,oT (rawInt s.heap.objs.size) k1 k2 k3 l1 l2 l3 n (j+1) (j+1) (j+1) h2->gE h2 s.heap.objs.size x y z->kF n s.heap h2->Q (some (.ref s.heap.objs.size)) { s with heap:=h2 })
  (stop:xs[j]?=none∨ys[j]?=none∨zs[j]?=none->∀ h2,kF n s.heap h2->Q none { s with heap:=h2 }):wpAny (model prog w) A (pyNext (.ref (n+5))) Q E s:=by
 have ty:s.TypeIs (.ref (n+5)) "zip" := ⟨_,g.1,rfl⟩
 unfold pyNext
 refine wpAny_bind (wpAny_attempt (wpAny_callSpecial?_slot (name:=Str.ofString "__next__") ty F.slot_zip_next (wpAny_call_entry F.slot_zip_next ty F.entry_zip_next
  (zLj hh b1 b2 b3 g d1 d2 d3 (fun x y z q1 q2 q3 h2 a1 a2 a3=>⟨_,rfl,wpAny_pure (go x y z q1 q2 q3 h2 a1 a2 a3)⟩) fun q h2 e k he=>?_) (F.args_zip_next_1 _))))
 obtain ⟨o,eo,co⟩:=he
 exact wpAny_bind (wpAny_isInstance (T := "StopIteration") (b:=true) ⟨o,eo,co⟩ isSubtype_stop (wpAny_pure (stop q h2 k)))
end
abbrev yH2 (k1 k2:Bool) (h:Heap) (l1 l2:Addr):Heap:=(h.push (zO k1 l1)).push (zO k2 l2)
abbrev yH3 (k1 k2 k3:Bool) (h:Heap) (l1 l2 l3:Addr):Heap:=(yH2 k1 k2 h l1 l2).push (zO k3 l3)
abbrev yH4 (k1 k2 k3:Bool) (h:Heap) (l1 l2 l3:Addr):Heap:=(yH3 k1 k2 k3 h l1 l2 l3).push { cls:=.type "tuple", data:=.seq #[.ref h.objs.size,.ref (h.push (zO k1 l1)).objs.size,.ref (yH2 k1 k2 h l1 l2).objs.size] }
abbrev yH5 (k1 k2 k3:Bool) (h:Heap) (l1 l2 l3:Addr):Heap:=(yH4 k1 k2 k3 h l1 l2 l3).push { cls:=.type "tuple", data:=.seq #[.none,.none,.none] }
abbrev yH6 (k1 k2 k3:Bool) (h:Heap) (l1 l2 l3:Addr):Heap:=(yH5 k1 k2 k3 h l1 l2 l3).push { cls:=.type "zip", data:=.fields #[.none,.bool false,.bool false,.ref (yH3 k1 k2 k3 h l1 l2 l3).objs.size,.ref (yH4 k1 k2 k3 h l1 l2 l3).objs.size] }
theorem zDD (k1 k2 k3:Bool) (l1 l2 l3:Addr) (xs ys zs:Array Value):Meets (Builtin.«zip.__new__» ⟨[.type "zip", .ref l1,.ref l2,.ref l3],[]⟩) (fun _ R s=>gC k1 s.heap l1 xs/\gC k2 s.heap l2 ys/\gC k3 s.heap l3 zs/\
  R (.ok (.ret (.ref (yH5 k1 k2 k3 s.heap l1 l2 l3).objs.size))) { s with heap:=yH6 k1 k2 k3 s.heap l1 l2 l3 }):=
 .of_wp fun prog w A R s h=>by
  obtain ⟨hp,g,d,tk,os⟩:=s
  obtain ⟨hl1,hl2,hl3,h⟩:=h
  have hsub:=sub_zip
  have d1:gC k1 (Shared.heap ⟨hp,g,d,tk,os⟩) l1 xs:=hl1
  have d2:gC k2 (Shared.heap ⟨hp.push { cls:=.type (itN k1),data:=.fields #[.ref l1,.int 0 0] },g,d,tk,os⟩) l2 ys:=hl2.go fun o e=>Heap.get?_push_of_some _ e
  have d3:gC k3 (Shared.heap ⟨(hp.push { cls:=.type (itN k1),data:=.fields #[.ref l1,.int 0 0] }).push { cls:=.type (itN k2),data:=.fields #[.ref l2,.int 0 0] },g,d,tk,os⟩) l3 zs:=hl3.go fun o e=>Heap.get?_push_of_some _ (Heap.get?_push_of_some _ e)
  wp_walk using jX d1,jX d2,jX d3
  exact ⟨_,rfl,h⟩
section
variable {prog:Program} {w:World} {A:Around} {E:Value->Shared->Prop} {s:Shared}
theorem zCb {k1 k2 k3:Bool} {l1 l2 l3:Addr} {xs ys zs:Array Value} {Q:Value->Shared->Prop} (d1:gC k1 s.heap l1 xs) (d2:gC k2 s.heap l2 ys) (d3:gC k3 s.heap l3 zs)
  (h:∀ h2,oT .none k1 k2 k3 l1 l2 l3 s.heap.objs.size 0 0 0 h2->(∀ c o,s.heap.get? c=some o->h2.get? c=some o)->Q (.ref (s.heap.objs.size+5)) { s with heap:=h2 }):wpAny (model prog w) A (call (.type "zip") [.ref l1,.ref l2,.ref l3]) Q E s:=by
 refine callType_new F.called_zip (by decide) (qF _ _ _) (sV _ _ _) (fun obj=>lB obj _ _ _) F.entry_zip_new (zDD k1 k2 k3 l1 l2 l3 xs ys zs) ⟨d1,d2,d3,?_⟩
 have up:∀ {h:Heap} {a:Addr} {o ob:Obj},h.get? a=some o->(h.push ob).get? a=some o:=fun e=>Heap.get?_push_of_some _ e
 have m1:(s.heap.push (zO k1 l1)).objs.size=s.heap.objs.size+1:=Heap.size_push ..
 have m2:(yH2 k1 k2 s.heap l1 l2).objs.size=s.heap.objs.size+2:=(Heap.size_push ..).trans (congrArg (·+1) m1)
 have m3:(yH3 k1 k2 k3 s.heap l1 l2 l3).objs.size=s.heap.objs.size+3:=(Heap.size_push ..).trans (congrArg (·+1) m2)
 have m4:(yH4 k1 k2 k3 s.heap l1 l2 l3).objs.size=s.heap.objs.size+4:=(Heap.size_push ..).trans (congrArg (·+1) m3)
 have m5:(yH5 k1 k2 k3 s.heap l1 l2 l3).objs.size=s.heap.objs.size+5:=(Heap.size_push ..).trans (congrArg (·+1) m4)
 have r0:(yH6 k1 k2 k3 s.heap l1 l2 l3).get? s.heap.objs.size=some (zO k1 l1):=up (up (up (up (up (Heap.get?_push_size _ rfl)))))
 have r1:(yH6 k1 k2 k3 s.heap l1 l2 l3).get? (s.heap.push (zO k1 l1)).objs.size=some (zO k2 l2):=up (up (up (up (Heap.get?_push_size _ rfl))))
 have r1':(yH6 k1 k2 k3 s.heap l1 l2 l3).get? (yH2 k1 k2 s.heap l1 l2).objs.size=some (zO k3 l3):=up (up (up (Heap.get?_push_size _ rfl)))
 have r2:(yH6 k1 k2 k3 s.heap l1 l2 l3).get? (yH3 k1 k2 k3 s.heap l1 l2 l3).objs.size=some _:=up (up (Heap.get?_push_size _ rfl))
 have r3:(yH6 k1 k2 k3 s.heap l1 l2 l3).get? (yH4 k1 k2 k3 s.heap l1 l2 l3).objs.size=some _:=up (Heap.get?_push_size _ rfl)
 have r4:(yH6 k1 k2 k3 s.heap l1 l2 l3).get? (yH5 k1 k2 k3 s.heap l1 l2 l3).objs.size=some _:=Heap.get?_push_size _ rfl
 rw [m1] at r1
 rw [m2] at r1'
 rw [m1,m2,m3] at r2
 rw [m4] at r3
 rw [m3,m4,m5] at r4
 show _/\_
 rw [m5]
 exact ⟨⟨_,r4,rfl⟩,h _ ⟨r4,r2,⟨_,_,_,r3⟩,.mk r0 rfl rfl,.mk r1 rfl rfl,.mk r1' rfl rfl⟩ fun c o x=>up (up (up (up (up (up x)))))⟩
end
def Ity (K:PySem.W.Frag) (k1 k2 k3:Bool) (a1 a2 a3:Addr):It:=
  ⟨fun i H=>∃ xs ys zs x y z,SqK k1 K H a1 xs/\SqK k2 K H a2 ys/\SqK k3 K H a3 zs/\xs[i]?=some x/\ys[i]?=some y/\zs[i]?=some z,
   fun i H v H'=>∃ p x y z,v=.ref p/\H p=none/\H'=upd H p (.tup [x,y,z])/\(∀ xs,SqK k1 K H a1 xs->xs[i]?=some x)/\(∀ ys,SqK k2 K H a2 ys->ys[i]?=some y)/\∀ zs,SqK k3 K H a3 zs->zs[i]?=some z,
   fun i H=>∃ xs ys zs,SqK k1 K H a1 xs/\SqK k2 K H a2 ys/\SqK k3 K H a3 zs/\(xs.length<=i∨ys.length<=i∨zs.length<=i)⟩
def zMv (k1 k2 k3:Bool) (a1 a2 a3 n:Addr) (i:Nat) (h:Heap):Prop:=oT .none k1 k2 k3 a1 a2 a3 n i i i h
theorem zCQ {P:Program} {w:World} {K:PySem.W.Frag} {elts:List Expr} {x1:Nat} {tp:Pos} (k1 k2 k3:Bool) (a1 a2 a3 n:Addr) (l1:a1 < n) (l2:a2 < n) (l3:a3 < n):
  Turn P w K (.Tuple elts x1 tp) (Ity K k1 k2 k3 a1 a2 a3) [n+5,n+3,n+4,n,n+1,n+2] (n+5) (zMv k1 k2 k3 a1 a2 a3 n) where
 mem:=by simp
 obj:=fun i h st b hb=>by
  obtain ⟨t1,t2,⟨a,b',c',t3⟩,t4,t5,t6⟩:=st
  obtain ⟨o4,e4,_,d4⟩:=t4.get
  obtain ⟨o5,e5,_,d5⟩:=t5.get
  obtain ⟨o6,e6,_,d6⟩:=t6.get
  simp only [List.mem_cons,List.not_mem_nil,or_false] at hb
  rcases hb with rfl | rfl | rfl | rfl | rfl | rfl
  ·exact dJ t1 rfl fun v z=>by cases z
  ·exact dJ t2 rfl fun v z=>by cases z
  ·exact dJ t3 rfl fun v z=>by cases z
  ·exact dJ e4 d4 fun v z=>by cases z
  ·exact dJ e5 d5 fun v z=>by cases z
  ·exact dJ e6 d6 fun v z=>by cases z
 keep:=fun i h h' st k=>by
  obtain ⟨t1,t2,⟨a,b',c',t3⟩,t4,t5,t6⟩:=st
  exact ⟨k _ (by simp) _ t1,k _ (by simp) _ t2,⟨a,b',c',k _ (by simp) _ t3⟩,t4.go fun o e=>k _ (by simp) o e,t5.go fun o e=>k _ (by simp) o e,t6.go fun o e=>k _ (by simp) o e⟩
 item:=by
  intro X hP hw hK hc i pins s σ H E I hf st hg
  subst hP hw hK
  obtain ⟨xs,ys,zs,x,y,z,q1,q2,q3,hx,hy,hz⟩:=hg
  obtain ⟨us,r1,s1,z1⟩:=sqI I q1
  obtain ⟨ws,r2,s2,z2⟩:=sqI I q2
  obtain ⟨vs,r3,s3,z3⟩:=sqI I q3
  obtain ⟨u,hu,ru⟩:=r1.get hx
  obtain ⟨v,hv,rv⟩:=r2.get hy
  obtain ⟨t,ht,rt⟩:=r3.get hz
  have hu':us.toArray[i]?=some u:=by simpa using hu
  have hv':ws.toArray[i]?=some v:=by simpa using hv
  have ht':vs.toArray[i]?=some t:=by simpa using ht
  have st':=st
  obtain ⟨t1,t2,⟨a,b,c,t3⟩,t4,t5,t6⟩:=st
  refine zJo (I.ok.hd hc) l1 l2 l3 st' s1 s2 s3 (fun x' y' z' f1 f2 f3 h' g' p' kz=>?_) (fun q=>?_)
  rotate_left
  ·rw [hu',hv',ht'] at q;rcases q with q | q | q<;>cases q
  rw [hu'] at f1;cases f1
  rw [hv'] at f2;cases f2
  rw [ht'] at f3;cases f3
  refine ⟨_,rfl,wpAny_letOwnedTupleGo_zip (s:={ s with heap:=h' }) g'.1 fun h'' c1 c2=>?_⟩
  have zl:s.heap.objs.size≠n+5:=Nat.ne_of_gt (Heap.lt_size t1)
  have np:H s.heap.objs.size=none:=I.hok.fresh (Nat.le_refl _)
  have I1:Inv X pins σ (upd H s.heap.objs.size (.tup [x,y,z])) { s with heap:=h'',toks:=s.toks }:=yG (us:=[u,v,t]) I hf (fun b o hb e=>by
    simp only [List.mem_cons,List.not_mem_nil,or_false,not_or] at hb
    exact c2.extBut b o hb.1 (kz b o hb.1 hb.2.2.1 hb.2.2.2.1 hb.2.2.2.2.1 hb.2.2.2.2.2 e)) (Nat.le_refl _) ⟨_,c2.extBut _ _ zl p',rfl,_,rfl⟩ (.cons ru (.cons rv (.cons rt .nil))) (show 3<=sizeLine by decide)
  refine ⟨.ref s.heap.objs.size,_,I1,rfl,⟨_,x,y,z,rfl,np,rfl,fun zs hz=>by rw [mQ I hz q1];exact hx,fun zs hz=>by rw [mQ I hz q2];exact hy,fun zs' hz'=>by rw [mQ I hz' q3];exact hz⟩,g'.fld c1 c2.extBut,fun b hb=>?_⟩
  ·obtain ⟨o,e,_⟩:∃ o,s.heap.get? b=some o/\True:=by
    obtain ⟨o4,e4,_⟩:=t4.get
    obtain ⟨o5,e5,_⟩:=t5.get
    obtain ⟨o6,e6,_⟩:=t6.get
    simp only [List.mem_cons,List.not_mem_nil,or_false] at hb
    rcases hb with rfl | rfl | rfl | rfl | rfl | rfl
    ·exact ⟨_,t1,trivial⟩
    ·exact ⟨_,t2,trivial⟩
    ·exact ⟨_,t3,trivial⟩
    ·exact ⟨_,e4,trivial⟩
    ·exact ⟨_,e5,trivial⟩
    ·exact ⟨_,e6,trivial⟩
   rw [aO (Nat.ne_of_lt (Heap.lt_size e))]
   exact (hf b hb).1
 done:=by
  intro X hP hw hK hc i pins s σ H E I hf st hg
  subst hP hw hK
  obtain ⟨xs,ys,zs,q1,q2,q3,hl⟩:=hg
  obtain ⟨us,r1,s1,z1⟩:=sqI I q1
  obtain ⟨ws,r2,s2,z2⟩:=sqI I q2
  obtain ⟨vs,r3,s3,z3⟩:=sqI I q3
  have st':=st
  obtain ⟨t1,t2,⟨a,b,c,t3⟩,t4,t5,t6⟩:=st
  have e1:=r1.length
  have e2:=r2.length
  have e3:=r3.length
  refine zJo (I.ok.hd hc) l1 l2 l3 st' s1 s2 s3 (fun x y z f1 f2 f3=>?_) fun _ h' b7=>⟨rfl,xA (t':=s.toks) I hf fun b o hb e=>?_⟩
  ·have m1:=(Array.getElem?_eq_some_iff.mp f1).1
   have m2:=(Array.getElem?_eq_some_iff.mp f2).1
   have m3:=(Array.getElem?_eq_some_iff.mp f3).1
   rw [List.size_toArray] at m1 m2 m3
   omega
  ·simp only [List.mem_cons,List.not_mem_nil,or_false,not_or] at hb
   exact b7 b o hb.1 hb.2.2.1 hb.2.2.2.1 hb.2.2.2.2.1 hb.2.2.2.2.2 e
 self:=fun _ _ _ _ _ st h=>wpAny_pyIter_zip st.1 h
section
unseal PEd PEf PTd PWd PAd PSd cN POd PGd eK PId PSx iE PTs PCd PCf
variable {X:Cx} {G:Gx} {fs:Fv} {f:Ev}
def iZq (K:PySem.W.Frag) (ta:TA):TI:=fun σ H R=>ta σ H fun vs H1=>∃ k1 k2 k3 a1 a2 a3 xs ys zs,vs=[.ref a1,.ref a2,.ref a3]/\SqK k1 K H1 a1 xs/\SqK k2 K H1 a2 ys/\SqK k3 K H1 a3 zs/\R (Ity K k1 k2 k3 a1 a2 a3) H1
theorem zIc {a b c:Expr} {ta:TA} {p pos:Pos} {elts:List Expr} {x1:Nat} {tp:Pos} (hg:Gl X "zip") (hm:X.mg "zip" = none) (ha:PA X [a,b,c] ta)
  (hs:starEach [a,b,c] X.env=[(false,eval a X.env),(false,eval b X.env),(false,eval c X.env)]:=by rfl) (hs2:starEach [b,c] X.env=[(false,eval b X.env),(false,eval c X.env)]:=by rfl):PI X (.Tuple elts x1 tp) (.Call (.Name "zip" p) [a,b,c] [] pos) (iZq X.K ta):=by
 intro pins s σ H R I h
 refine Call_ (jT I hg hm boot_zip (PyProof.Rows.callWith_type1 (thn (ha pos pins s σ H _ I h) fun us s1 ⟨vs,H1,I1,r1,q1⟩=>?_) (by rw [hs,hs2]) (by rw [hs2];rfl)))
 obtain ⟨k1,k2,k3,a1,a2,a3,xs,ys,zs,rfl,h1,h2,h3,q⟩:=q1
 cases r1 with
 | cons r rr=>
  cases rr with
  | cons r' rr=>
   cases rr with
   | cons r'' rr=>
   cases rr
   cases r
   cases r'
   cases r''
   obtain ⟨us,rv,p1,z1⟩:=sqI I1 h1
   obtain ⟨ws,rw_,p2,z2⟩:=sqI I1 h2
   obtain ⟨ts,rt_,p3,z3⟩:=sqI I1 h3
   refine zCb p1 p2 p3 fun h' b1 b6=>wpAny_pyIter_zip (s:={ s1 with heap:=h' }) b1.1 ?_
   refine ⟨s1.heap.objs.size+5,_,_,_,H1,rfl,I1.kept (t':=s1.toks) b6,zCQ k1 k2 k3 a1 a2 a3 s1.heap.objs.size p1.lt p2.lt p3.lt,b1,fun b hb=>?_,q⟩
   have hb':s1.heap.objs.size<=b:=by
    simp only [List.mem_cons,List.not_mem_nil,or_false] at hb
    rcases hb with rfl | rfl | rfl | rfl | rfl | rfl<;>omega
   exact I1.fpOk hb' (I1.hok.fresh hb')
theorem uV:∀ (xs ys zs:List D),(nU xs ys zs).length=min xs.length (min ys.length zs.length)
 | a::r,b::q,c::t=>by
  have:=uV r q t
  simp only [nU,List.length_cons,this]
  omega
 | [],_,_=>by simp [nU]
 | a::r,[],_=>by simp [nU]
 | a::r,b::q,[]=>by simp [nU]
theorem zAA {K:PySem.W.Frag} {Hi:Hp} {k1 k2 k3:Bool} {a1 a2 a3:Addr} {xs ys zs:List V} {ds es fs:List D} (h1:SqK k1 K Hi a1 xs) (h2:IsDs K Hi xs ds) (h3:SqK k2 K Hi a2 ys) (h4:IsDs K Hi ys es) (h5:SqK k3 K Hi a3 zs) (h6:IsDs K Hi zs fs):
  oG K Hi (Ity K k1 k2 k3 a1 a2 a3) (nU ds es fs):=fun Hi1 H1 s1 s2 i=>by
 have g1:=dD (s1.trans s2) h1
 have g3:=dD (s1.trans s2) h3
 have g5:=dD (s1.trans s2) h5
 refine ⟨fun hl=>⟨xs,ys,zs,g1,g3,g5,?_⟩,fun d hd=>?_⟩
 ·rw [uV] at hl
  have e1:=h2.length
  have e2:=h4.length
  have e3:=h6.length
  omega
 ·obtain ⟨a,b,c,ha,hb,hc,rfl⟩:=rZ ds es fs i d hd
  obtain ⟨v,hv,rv⟩:=h2.at ha
  obtain ⟨w,hw,rw_⟩:=h4.at hb
  obtain ⟨u,hu,ru⟩:=h6.at hc
  refine ⟨⟨xs,ys,zs,v,w,u,g1,g3,g5,hv,hw,hu⟩,fun x H2 y=>?_⟩
  obtain ⟨p,x',y',z',rfl,hp,rfl,y1,y2,y3⟩:=y
  have e1:=y1 xs g1
  have e2:=y2 ys g3
  have e3:=y3 zs g5
  rw [hv] at e1;cases e1
  rw [hw] at e2;cases e2
  rw [hu] at e3;cases e3
  have hi:=s2.none hp
  have sm:=bM hi (.tup [v,w,u])
  exact ⟨upd Hi1 p (.tup [v,w,u]),Ext.new s2 hp,.tup (.inl (.inl aP)) (.cons ((rv.mono s1).mono sm) (.cons ((rw_.mono s1).mono sm) (.cons ((ru.mono s1).mono sm) .nil)))⟩
theorem zKb {a b c:Expr} {p pos:Pos} {elts:List Expr} {x1:Nat} {tp:Pos} (hg:Gl X "zip") (hm:X.mg "zip" = none) (ha:PAd X G [a,b,c] fs)
  (hs:starEach [a,b,c] X.env=[(false,eval a X.env),(false,eval b X.env),(false,eval c X.env)]:=by rfl) (hs2:starEach [b,c] X.env=[(false,eval b X.env),(false,eval c X.env)]:=by rfl):
  PId X G (.Tuple elts x1 tp) (.Call (.Name "zip" p) [a,b,c] [] pos) (zFk fs):=PI.wk (zIc hg hm ha hs hs2) fun σ H Q q=>by
 obtain ⟨ρ,Hi,R,ou⟩:=q
 refine zDX R ou fun vs ds Hi1 H1 e1 R1 r1 o1=>?_
 split at o1
 ·rename_i x y z
  obtain ⟨v,w,u,rfl,h,h',h''⟩:=r1.three
  split at o1
  ·rename_i ds es fs q1 q2 q3
   obtain ⟨k1,a1,xs,rfl,g1,g2⟩:=zKc h q1
   obtain ⟨k2,a2,ys,rfl,g3,g4⟩:=zKc h' q2
   obtain ⟨k3,a3,zs,rfl,g5,g6⟩:=zKc h'' q3
   exact ⟨k1,k2,k3,a1,a2,a3,xs,ys,zs,rfl,dD R1.s g1,dD R1.s g3,dD R1.s g5,o1.here R1.s _ (zAA g1 g2 g3 g4 g5 g6)⟩
  ·exact o1.elim
 ·exact o1.elim
end
end L3
theorem PySem.W.Fast.tw5899996537665357951:True:=trivial
theorem PySem.W.Fast.tw3301669068482820268:True:=trivial
theorem PySem.W.Fast.tw2866436530283854858:True:=trivial
theorem PySem.W.Fast.tw5116892132183117525:True:=trivial
theorem PySem.W.Fast.tw4377710591235806208:True:=trivial
theorem PySem.W.Fast.tw17818444901523380195:True:=trivial
theorem PySem.W.Fast.tw9147204574326689482:True:=trivial
theorem PySem.W.Fast.tw13936183448190436829:True:=trivial
theorem PySem.W.Fast.tw14659654926042888782:True:=trivial
theorem PySem.W.Fast.tw11401560967972035977:True:=trivial
theorem PySem.W.Fast.tw16214607871636418215:True:=trivial
theorem PySem.W.Fast.tw1932988150337483323:True:=trivial
theorem PySem.W.Fast.tw8631878548757463091:True:=trivial
theorem PySem.W.Fast.tw13251704992096218148:True:=trivial
theorem PySem.W.Fast.tw12811213158661163523:True:=trivial
theorem PySem.W.Fast.tw12383551903933516402:True:=trivial
theorem PySem.W.Fast.tw9665243024155039518:True:=trivial
theorem PySem.W.Fast.tw980442733471995183:True:=trivial
theorem PySem.W.Fast.tw17856172125517947512:True:=trivial
theorem PySem.W.Fast.tw9102469588625102890:True:=trivial
theorem PySem.W.Fast.tw10806339084312295924:True:=trivial
theorem PySem.W.Fast.tw12463954258077345748:True:=trivial
theorem PySem.W.Fast.tw1179524584399252949:True:=trivial
theorem PySem.W.Fast.tw9689469639184236141:True:=trivial
theorem PySem.W.Fast.tw3544846520938209417:True:=trivial
theorem PySem.W.Fast.tw12463254232210764375:True:=trivial
theorem PySem.W.Fast.tw502974875580905279:True:=trivial
theorem PySem.W.Fast.tw5423240936074859176:True:=trivial
theorem PySem.W.Fast.tw5675409874470831167:True:=trivial
theorem PySem.W.Fast.tw6481568196473769812:True:=trivial
theorem PySem.W.Fast.tw15657051049945755490:True:=trivial
theorem PySem.W.Fast.tw1823189524434626612:True:=trivial
theorem PySem.W.Fast.tw2429410999342277038:True:=trivial
theorem PySem.W.Fast.tw16577601321769531709:True:=trivial
theorem PySem.W.Fast.tw9492469685121348559:True:=trivial
theorem PySem.W.Fast.tw12671595542306835894:True:=trivial
theorem PySem.W.Fast.tw10218267249718770656:True:=trivial
theorem PySem.W.Fast.tw14141612881280885741:True:=trivial
theorem PySem.W.Fast.tw10822409714699981254:True:=trivial
theorem PySem.W.Fast.tw11252881852310626200:True:=trivial
theorem PySem.W.Fast.tw3199157692453794605:True:=trivial
theorem PySem.W.Fast.tw8757220814678190489:True:=trivial
theorem PySem.W.Fast.tw17315601103565030270:True:=trivial
theorem PySem.W.Fast.tw13390226510209133488:True:=trivial
theorem PySem.W.Fast.tw1883968393983582193:True:=trivial
theorem PySem.W.Fast.tw4649929493191015778:True:=trivial
theorem PySem.W.Fast.tw13060962540987488567:True:=trivial
theorem PySem.W.Fast.tw15645747948136657573:True:=trivial
theorem PySem.W.Fast.tw12238198607378674726:True:=trivial
theorem PySem.W.Fast.tw16972194103345810102:True:=trivial
theorem PySem.W.Fast.tw9065165689122897398:True:=trivial
theorem PySem.W.Fast.tw14072968336238475285:True:=trivial
theorem PySem.W.Fast.tw8409883397796919209:True:=trivial
theorem PySem.W.Fast.tw8985088849773743032:True:=trivial
theorem PySem.W.Fast.tw935126908075947859:True:=trivial
theorem PySem.W.Fast.tw8568779059452731920:True:=trivial
theorem PySem.W.Fast.tw16230099558863661921:True:=trivial
theorem PySem.W.Fast.tw7530927996186096277:True:=trivial
theorem PySem.W.Fast.tw16777920496728810654:True:=trivial
theorem PySem.W.Fast.tw16353996837040269064:True:=trivial
theorem PySem.W.Fast.tw13693178674405395763:True:=trivial
theorem PySem.W.Fast.tw2299455116447791549:True:=trivial
theorem PySem.W.Fast.tw9617366854108664270:True:=trivial
theorem PySem.W.Fast.tw15299861045495419585:True:=trivial
theorem PySem.W.Fast.tw12549984954725563475:True:=trivial
theorem PySem.W.Fast.tw14283204926922459006:True:=trivial
theorem PySem.W.Fast.tw13736925904251245389:True:=trivial
theorem PySem.W.Fast.tw2855822001947133284:True:=trivial
theorem PySem.W.Fast.tw5303028203797993064:True:=trivial
theorem PySem.W.Fast.tw16537745097921189340:True:=trivial
theorem PySem.W.Fast.tw6499329405135676319:True:=trivial
theorem PySem.W.Fast.tw5130590905375024331:True:=trivial
theorem PySem.W.Fast.tw15386324104993910306:True:=trivial
theorem PySem.W.Fast.tw5557648309372242147:True:=trivial
theorem PySem.W.Fast.tw946063585901388153:True:=trivial
theorem PySem.W.Fast.tw16665075783501493835:True:=trivial
theorem PySem.W.Fast.tw10500144000807620755:True:=trivial
theorem PySem.W.Fast.tw13431099470379845459:True:=trivial
theorem PySem.W.Fast.tw16706190837489212282:True:=trivial
theorem PySem.W.Fast.tw15279970087406383646:True:=trivial
theorem PySem.W.Fast.tw6223687887437312103:True:=trivial
theorem PySem.W.Fast.tw11534793086455899149:True:=trivial
theorem PySem.W.Fast.tw6609205047477292737:True:=trivial
theorem PySem.W.Fast.tw2331448853894492308:True:=trivial
theorem PySem.W.Fast.tw7666422501755871529:True:=trivial
theorem PySem.W.Fast.tw12850590015514516080:True:=trivial
theorem PySem.W.Fast.tw14148639893998742331:True:=trivial
theorem PySem.W.Fast.tw16414376507889871333:True:=trivial
theorem PySem.W.Fast.tw12514453384681988112:True:=trivial
theorem PySem.W.Fast.tw12787317656765636916:True:=trivial
theorem PySem.W.Fast.tw8810259764758989486:True:=trivial
theorem PySem.W.Fast.tw4951780662266263842:True:=trivial
theorem PySem.W.Fast.tw17396021998353893137:True:=trivial
theorem PySem.W.Fast.tw4361233530663175436:True:=trivial
theorem PySem.W.Fast.tw15171551036078512725:True:=trivial
theorem PySem.W.Fast.tw7855528460595637843:True:=trivial
theorem PySem.W.Fast.tw9602299860809194970:True:=trivial
theorem PySem.W.Fast.tw8676231958799428327:True:=trivial
theorem PySem.W.Fast.tw18165095302071682028:True:=trivial
theorem PySem.W.Fast.tw1424680209213426546:True:=trivial
theorem PySem.W.Fast.tw8566264666774477925:True:=trivial
theorem PySem.W.Fast.tw7675671738717784308:True:=trivial
theorem PySem.W.Fast.tw5310614111595948770:True:=trivial
theorem PySem.W.Fast.tw10008175110266546790:True:=trivial
theorem PySem.W.Fast.tw11706761283972700484:True:=trivial
theorem PySem.W.Fast.tw1486098060930125731:True:=trivial
theorem PySem.W.Fast.tw8810758712352760655:True:=trivial
theorem PySem.W.Fast.tw10776736190319296091:True:=trivial
theorem PySem.W.Fast.tw7491661471241278995:True:=trivial
theorem PySem.W.Fast.tw3151569592911404773:True:=trivial
theorem PySem.W.Fast.tw2200221165199664995:True:=trivial
theorem PySem.W.Fast.tw14891190727900423219:True:=trivial
theorem PySem.W.Fast.tw14839740869892433527:True:=trivial
theorem PySem.W.Fast.tw13987804311267824028:True:=trivial
theorem PySem.W.Fast.tw10488423129414163213:True:=trivial
theorem PySem.W.Fast.tw4562597227833132034:True:=trivial
theorem PySem.W.Fast.tw13541924318415471378:True:=trivial
theorem PySem.W.Fast.tw14777661692421674192:True:=trivial
theorem PySem.W.Fast.tw1039916353572691116:True:=trivial
theorem PySem.W.Fast.tw7014728338097628693:True:=trivial
theorem PySem.W.Fast.tw3035538453228507080:True:=trivial
theorem PySem.W.Fast.tw3475503007321378342:True:=trivial
theorem PySem.W.Fast.tw15806417127859845553:True:=trivial
theorem PySem.W.Fast.tw3007629320692828362:True:=trivial
theorem PySem.W.Fast.tw7433361113762362940:True:=trivial
theorem PySem.W.Fast.tw14143552799752221274:True:=trivial
theorem PySem.W.Fast.tw7119994291108560235:True:=trivial
theorem PySem.W.Fast.tw5209557555422365229:True:=trivial
theorem PySem.W.Fast.tw9790657553442533200:True:=trivial
theorem PySem.W.Fast.tw70724442534651747:True:=trivial
theorem PySem.W.Fast.tw8259026340902215029:True:=trivial
theorem PySem.W.Fast.tw1528771341021046868:True:=trivial
theorem PySem.W.Fast.tw3196123705226126764:True:=trivial
theorem PySem.W.Fast.tw7327218173723390703:True:=trivial
theorem PySem.W.Fast.tw2280669225550448260:True:=trivial
theorem PySem.W.Fast.tw15806598992806214899:True:=trivial
theorem PySem.W.Fast.tw8763844580888554342:True:=trivial
theorem PySem.W.Fast.tw8538981670613237767:True:=trivial
theorem PySem.W.Fast.tw4138562835068000382:True:=trivial
theorem PySem.W.Fast.tw3013204899399111815:True:=trivial
theorem PySem.W.Fast.tw16687861940851803258:True:=trivial
theorem PySem.W.Fast.tw17739293010176224462:True:=trivial
theorem PySem.W.Fast.tw10197831160913662671:True:=trivial
theorem PySem.W.Fast.tw11576987477809593922:True:=trivial
theorem PySem.W.Fast.tw15572849797687878240:True:=trivial
theorem PySem.W.Fast.tw12950581509204667328:True:=trivial
theorem PySem.W.Fast.tw1752319026289455043:True:=trivial
theorem PySem.W.Fast.tw206838805617817437:True:=trivial
theorem PySem.W.Fast.tw6058273626076724978:True:=trivial
theorem PySem.W.Fast.tw4477561117218251313:True:=trivial
theorem PySem.W.Fast.tw16446515680252400450:True:=trivial
theorem PySem.W.Fast.tw12552789012949416455:True:=trivial
theorem PySem.W.Fast.tw12859672288298660337:True:=trivial
theorem PySem.W.Fast.tw17966751829250144585:True:=trivial
theorem PySem.W.Fast.tw15449997682296749059:True:=trivial
theorem PySem.W.Fast.tw9168049757728708257:True:=trivial
theorem PySem.W.Fast.tw18205269214699385147:True:=trivial
theorem PySem.W.Fast.tw8335477528005743909:True:=trivial
theorem PySem.W.Fast.tw3475343232393226328:True:=trivial
theorem PySem.W.Fast.tw8300624453093110773:True:=trivial
theorem PySem.W.Fast.tw13992236811906686971:True:=trivial
theorem PySem.W.Fast.tw4738014070640542159:True:=trivial
theorem PySem.W.Fast.tw862494538415947654:True:=trivial
theorem PySem.W.Fast.tw6412446582806876258:True:=trivial
theorem PySem.W.Fast.tw627468954448493496:True:=trivial
theorem PySem.W.Fast.tw10838425411942086225:True:=trivial
theorem PySem.W.Fast.tw18003994110196054103:True:=trivial
theorem PySem.W.Fast.tw13592302042199427920:True:=trivial
theorem PySem.W.Fast.tw52740393707559710:True:=trivial
theorem PySem.W.Fast.tw14569912604160917190:True:=trivial
theorem PySem.W.Fast.tw15884588547418892143:True:=trivial
theorem PySem.W.Fast.tw16665706997074605266:True:=trivial
theorem PySem.W.Fast.tw6387628372799140582:True:=trivial
theorem PySem.W.Fast.tw17632607874118339342:True:=trivial
theorem PySem.W.Fast.tw17927050217128999450:True:=trivial
theorem PySem.W.Fast.tw9424885510035149275:True:=trivial
theorem PySem.W.Fast.tw18165779257796362668:True:=trivial
theorem PySem.W.Fast.tw98040653458361407:True:=trivial
theorem PySem.W.Fast.tw12439499769451860053:True:=trivial
theorem PySem.W.Fast.tw11588610272419083180:True:=trivial
theorem PySem.W.Fast.tw12905964475956290179:True:=trivial
theorem PySem.W.Fast.tw17285965180261882491:True:=trivial
theorem PySem.W.Fast.tw9494745137593461772:True:=trivial
theorem PySem.W.Fast.tw702681045678834273:True:=trivial
theorem PySem.W.Fast.tw8660007137187539515:True:=trivial
theorem PySem.W.Fast.tw2564570147091064265:True:=trivial
theorem PySem.W.Fast.tw10818226434053938518:True:=trivial
theorem PySem.W.Fast.tw15356737799805584003:True:=trivial
theorem PySem.W.Fast.tw13483096193036467695:True:=trivial
theorem PySem.W.Fast.tw10856506482154649723:True:=trivial
theorem PySem.W.Fast.tw8851176648239746895:True:=trivial
theorem PySem.W.Fast.tw5899744320421782781:True:=trivial
theorem PySem.W.Fast.tw15243786048237492015:True:=trivial
theorem PySem.W.Fast.tw16450869051550201622:True:=trivial
theorem PySem.W.Fast.tw4367747968367937342:True:=trivial
theorem PySem.W.Fast.tw6977280760318422780:True:=trivial
theorem PySem.W.Fast.tw3697665012434631328:True:=trivial
theorem PySem.W.Fast.tw17418932887067617935:True:=trivial
theorem PySem.W.Fast.tw13494014200113913966:True:=trivial
theorem PySem.W.Fast.tw13092444694094587420:True:=trivial
theorem PySem.W.Fast.tw5931984798206266831:True:=trivial
theorem PySem.W.Fast.tw5864566463149578568:True:=trivial
theorem PySem.W.Fast.tw16315123301994468287:True:=trivial
theorem PySem.W.Fast.tw142417392784443882:True:=trivial
theorem PySem.W.Fast.tw7931588863650073840:True:=trivial
theorem PySem.W.Fast.tw3503889334414870979:True:=trivial
theorem PySem.W.Fast.tw11937044842051099056:True:=trivial
theorem PySem.W.Fast.tw7016758953165765528:True:=trivial
theorem PySem.W.Fast.tw2859109041552320200:True:=trivial
theorem PySem.W.Fast.tw3425315939474423438:True:=trivial
theorem PySem.W.Fast.tw15124268530775407469:True:=trivial
theorem PySem.W.Fast.tw56635957726154023:True:=trivial
theorem PySem.W.Fast.tw9942124888431892235:True:=trivial
theorem PySem.W.Fast.tw4505346193489701303:True:=trivial
theorem PySem.W.Fast.tw14060893804754170033:True:=trivial
theorem PySem.W.Fast.tw15269012950965856376:True:=trivial
theorem PySem.W.Fast.tw10763739735298819811:True:=trivial
theorem PySem.W.Fast.tw568860037164383698:True:=trivial
theorem PySem.W.Fast.tw13324149033972409648:True:=trivial
theorem PySem.W.Fast.tw13738362285462686853:True:=trivial
theorem PySem.W.Fast.tw17855739859710777277:True:=trivial
theorem PySem.W.Fast.tw9120532568813224275:True:=trivial
theorem PySem.W.Fast.tw12429339044878303660:True:=trivial
theorem PySem.W.Fast.tw7402818786282250402:True:=trivial
theorem PySem.W.Fast.tw3938176597163853306:True:=trivial
theorem PySem.W.Fast.tw6501207544391070546:True:=trivial
theorem PySem.W.Fast.tw11351606381778740360:True:=trivial
theorem PySem.W.Fast.tw16814049109308134806:True:=trivial
theorem PySem.W.Fast.tw10404083141530720564:True:=trivial
theorem PySem.W.Fast.tw864228215165550415:True:=trivial
theorem PySem.W.Fast.tw5651784628976868341:True:=trivial
theorem PySem.W.Fast.tw1318486247356233265:True:=trivial
theorem PySem.W.Fast.tw6556433016493125748:True:=trivial
theorem PySem.W.Fast.tw8388246763042498565:True:=trivial
theorem PySem.W.Fast.tw13253966000453178133:True:=trivial
theorem PySem.W.Fast.tw7692961108722990706:True:=trivial
theorem PySem.W.Fast.tw6306403056583220954:True:=trivial
theorem PySem.W.Fast.tw1218469135439897847:True:=trivial
theorem PySem.W.Fast.tw8918619314198653553:True:=trivial
theorem PySem.W.Fast.tw8450784418787546081:True:=trivial
theorem PySem.W.Fast.tw14023262708302475820:True:=trivial
theorem PySem.W.Fast.tw10808703059957907238:True:=trivial
theorem PySem.W.Fast.tw14485203292709723886:True:=trivial
theorem PySem.W.Fast.tw6133265505452798571:True:=trivial
theorem PySem.W.Fast.tw582939379215393591:True:=trivial
theorem PySem.W.Fast.tw6951360707618011042:True:=trivial
theorem PySem.W.Fast.tw9428887453100797998:True:=trivial
theorem PySem.W.Fast.tw2489556115895995890:True:=trivial
theorem PySem.W.Fast.tw12979839790794153585:True:=trivial
theorem PySem.W.Fast.tw15198926602813780738:True:=trivial
theorem PySem.W.Fast.tw7006978179873141262:True:=trivial
theorem PySem.W.Fast.tw3981036165405736928:True:=trivial
theorem PySem.W.Fast.tw1720712435112625828:True:=trivial
theorem PySem.W.Fast.tw17596754180518540453:True:=trivial
theorem PySem.W.Fast.tw11148514359225523090:True:=trivial
theorem PySem.W.Fast.tw7082493344223707129:True:=trivial
theorem PySem.W.Fast.tw5584124741577859034:True:=trivial
theorem PySem.W.Fast.tw16747532864404497368:True:=trivial
theorem PySem.W.Fast.tw7513816543687971217:True:=trivial
theorem PySem.W.Fast.tw14518556523947372330:True:=trivial
theorem PySem.W.Fast.tw11449420028705255502:True:=trivial
theorem PySem.W.Fast.tw5758575534069085652:True:=trivial
theorem PySem.W.Fast.tw12114647640603964866:True:=trivial
theorem PySem.W.Fast.tw8036860807160132843:True:=trivial
theorem PySem.W.Fast.tw5264248877325629372:True:=trivial
theorem PySem.W.Fast.tw15127889394904818069:True:=trivial
theorem PySem.W.Fast.tw1005286277184878640:True:=trivial
theorem PySem.W.Fast.tw13187748357139232136:True:=trivial
theorem PySem.W.Fast.tw2878662640149600220:True:=trivial
theorem PySem.W.Fast.tw1012728732344032195:True:=trivial
theorem PySem.W.Fast.tw13258610999831532387:True:=trivial
theorem PySem.W.Fast.tw3876975271636952477:True:=trivial
theorem PySem.W.Fast.tw8324926078019760827:True:=trivial
theorem PySem.W.Fast.tw13760947825855117104:True:=trivial
theorem PySem.W.Fast.tw9442703893608545211:True:=trivial
theorem PySem.W.Fast.tw12027701383381853034:True:=trivial
theorem PySem.W.Fast.tw17325142551727473203:True:=trivial
theorem PySem.W.Fast.tw14660641569731685637:True:=trivial
theorem PySem.W.Fast.tw5569382468116514601:True:=trivial
theorem PySem.W.Fast.tw15223594960595724863:True:=trivial
theorem PySem.W.Fast.tw5743450503771753246:True:=trivial
theorem PySem.W.Fast.tw8587816556288052062:True:=trivial
theorem PySem.W.Fast.tw5102767428136810499:True:=trivial
theorem PySem.W.Fast.tw15713877920595516741:True:=trivial
theorem PySem.W.Fast.tw14077433786321125177:True:=trivial
theorem PySem.W.Fast.tw15615758726788176664:True:=trivial
theorem PySem.W.Fast.tw3797613251613065454:True:=trivial
theorem PySem.W.Fast.tw9554828586874117220:True:=trivial
theorem PySem.W.Fast.tw12920522983532708702:True:=trivial
theorem PySem.W.Fast.tw4273714481695571243:True:=trivial
theorem PySem.W.Fast.tw16463923189371435723:True:=trivial
theorem PySem.W.Fast.tw13343711608956581931:True:=trivial
theorem PySem.W.Fast.tw18265575325061412764:True:=trivial
theorem PySem.W.Fast.tw2694156824623683295:True:=trivial
theorem PySem.W.Fast.tw6383792064638879173:True:=trivial
theorem PySem.W.Fast.tw17645626353020554004:True:=trivial
theorem PySem.W.Fast.tw16423063763646676674:True:=trivial
theorem PySem.W.Fast.tw3998295763194273915:True:=trivial
theorem PySem.W.Fast.tw4398189599989164739:True:=trivial
theorem PySem.W.Fast.tw2918228823995357211:True:=trivial
theorem PySem.W.Fast.tw15238431348518949088:True:=trivial
theorem PySem.W.Fast.tw16262902913999622179:True:=trivial
theorem PySem.W.Fast.tw13865914935590645667:True:=trivial
theorem PySem.W.Fast.tw14894648760597538621:True:=trivial
theorem PySem.W.Fast.tw9887801146210785114:True:=trivial
theorem PySem.W.Fast.tw11289152712844348366:True:=trivial
theorem PySem.W.Fast.tw9242265103969359566:True:=trivial
theorem PySem.W.Fast.tw15968131693167200550:True:=trivial
theorem PySem.W.Fast.tw11700296219265843802:True:=trivial
theorem PySem.W.Fast.tw6870993164928276945:True:=trivial
theorem PySem.W.Fast.tw17642277967291495009:True:=trivial
theorem PySem.W.Fast.tw3321972607008144291:True:=trivial
theorem PySem.W.Fast.tw1610693909345194837:True:=trivial
theorem PySem.W.Fast.tw9082600832394381723:True:=trivial
theorem PySem.W.Fast.tw4057476416391142648:True:=trivial
theorem PySem.W.Fast.tw11023443333252533290:True:=trivial
theorem PySem.W.Fast.tw2653074547539082796:True:=trivial
theorem PySem.W.Fast.tw16586813344161678581:True:=trivial
theorem PySem.W.Fast.tw17558865948340784016:True:=trivial
theorem PySem.W.Fast.tw2117225846145603533:True:=trivial
theorem PySem.W.Fast.tw10912182677221128341:True:=trivial
theorem PySem.W.Fast.tw4162403454273453459:True:=trivial
theorem PySem.W.Fast.tw7349991580658385609:True:=trivial
theorem PySem.W.Fast.tw15987905761752450005:True:=trivial
theorem PySem.W.Fast.tw7882578723245382627:True:=trivial
theorem PySem.W.Fast.tw553815919517885786:True:=trivial
theorem PySem.W.Fast.tw4789920736819553219:True:=trivial
theorem PySem.W.Fast.tw11214892925744875990:True:=trivial
theorem PySem.W.Fast.tw7596654560468933443:True:=trivial
theorem PySem.W.Fast.tw11135170600313292350:True:=trivial
theorem PySem.W.Fast.tw10798022393631404060:True:=trivial
theorem PySem.W.Fast.tw5664753669533121500:True:=trivial
theorem PySem.W.Fast.tw14038741287102050959:True:=trivial
theorem PySem.W.Fast.tw5086580847431324530:True:=trivial
theorem PySem.W.Fast.tw1659925060513966677:True:=trivial
theorem PySem.W.Fast.tw73634909004783289:True:=trivial
theorem PySem.W.Fast.tw17959269510748482305:True:=trivial
theorem PySem.W.Fast.tw12905872383532716076:True:=trivial
theorem PySem.W.Fast.tw6611033541948270557:True:=trivial
theorem PySem.W.Fast.tw3792356481392716393:True:=trivial
theorem PySem.W.Fast.tw3380367688812820838:True:=trivial
theorem PySem.W.Fast.tw7621874333160696837:True:=trivial
theorem PySem.W.Fast.tw8175508207112866798:True:=trivial
theorem PySem.W.Fast.tw2684764559509071805:True:=trivial
theorem PySem.W.Fast.tw11753871696664207838:True:=trivial
theorem PySem.W.Fast.tw8001008001527768563:True:=trivial
theorem PySem.W.Fast.tw17574535112981119888:True:=trivial
theorem PySem.W.Fast.tw9039328682241448469:True:=trivial
theorem PySem.W.Fast.tw15607104203309794394:True:=trivial
theorem PySem.W.Fast.tw17723279792530380568:True:=trivial
theorem PySem.W.Fast.tw9882107131266990657:True:=trivial
theorem PySem.W.Fast.tw8479184017089402665:True:=trivial
theorem PySem.W.Fast.tw15268358352349762358:True:=trivial
theorem PySem.W.Fast.tw10089930906851303504:True:=trivial
theorem PySem.W.Fast.tw375941585821206939:True:=trivial
theorem PySem.W.Fast.tw16512789393389842781:True:=trivial
theorem PySem.W.Fast.tw8768653639387046709:True:=trivial
theorem PySem.W.Fast.tw9951643555757740030:True:=trivial
theorem PySem.W.Fast.tw10066294656459191306:True:=trivial
theorem PySem.W.Fast.tw388600523347502002:True:=trivial
theorem PySem.W.Fast.tw12399571791386963370:True:=trivial
theorem PySem.W.Fast.tw15968075170222443328:True:=trivial
theorem PySem.W.Fast.tw17230936627472063818:True:=trivial
theorem PySem.W.Fast.tw17747140345081689978:True:=trivial
theorem PySem.W.Fast.tw4430003897558549717:True:=trivial
theorem PySem.W.Fast.tw8866742529934033636:True:=trivial
theorem PySem.W.Fast.tw5638726568767509455:True:=trivial
theorem PySem.W.Fast.tw1993718567074335526:True:=trivial
theorem PySem.W.Fast.tw14489938070631329162:True:=trivial
theorem PySem.W.Fast.tw8927257299056470840:True:=trivial
theorem PySem.W.Fast.tw2453430602408013209:True:=trivial
theorem PySem.W.Fast.tw6154255647919849660:True:=trivial
theorem PySem.W.Fast.tw5068765687950765426:True:=trivial
theorem PySem.W.Fast.tw17871772379052653596:True:=trivial
theorem PySem.W.Fast.tw15663745065396961804:True:=trivial
theorem PySem.W.Fast.tw31705052462040320:True:=trivial
theorem PySem.W.Fast.tw2173245516917629412:True:=trivial
theorem PySem.W.Fast.tw17679129568955305421:True:=trivial
theorem PySem.W.Fast.tw10860504286093730046:True:=trivial
theorem PySem.W.Fast.tw11749819903613645818:True:=trivial
theorem PySem.W.Fast.tw17478218618244014184:True:=trivial
theorem PySem.W.Fast.tw4180097263520275211:True:=trivial
theorem PySem.W.Fast.tw8830467791031006451:True:=trivial
theorem PySem.W.Fast.tw3854800534826882511:True:=trivial
theorem PySem.W.Fast.tw17900660129233610315:True:=trivial
theorem PySem.W.Fast.tw5987895960137747754:True:=trivial
theorem PySem.W.Fast.tw9041210890029129469:True:=trivial
theorem PySem.W.Fast.tw15556346505242579149:True:=trivial
theorem PySem.W.Fast.tw3316793014749448437:True:=trivial
theorem PySem.W.Fast.tw3098888980595673488:True:=trivial
namespace Lw
open L3 PySem
def tbT:List Str:=[]
def zMV:List (Str×List Str):=[]
def lD:D:=(.tup [(.int 0),(.int 1)])
def aT:List (Str×Str):=[("row", "back"),("back", "row"),("even", "lack"),("lack", "even"),("part", "part"),("half", "half")]
def d_WEIGHTED:D:=(.tup [(.str "even"),(.str "lack")])
def d_HALF:D:=(.tup [(.int 1),(.int 2)])
def d_BOAT:D:=(.str "boat")
def d_MOST_BOATS:D:=(.int 12)
def d_DEEPEST:D:=(.int 8)
abbrev lJ:Sv:=(fL 1 (aE 2))
abbrev kW:Sv:=(bP (fL 0 (aE 1)) lJ)
abbrev lH:Sv:=(bP (fL 2 (eOp rK (aE 0) (aE 1))) kW)
abbrev kP:Sv:=(iM (aE 0))
abbrev lF:Sv:=(bP (dI (eX (eOp oNe (aE 1) (eC (.int 0)))) lH) kP)
abbrev lG:Sv:=(bP (fL 1 (eB zGt (aB (aE 1) aNil))) lF)
def cG:Mir:=fn 2 3 (bP (fL 0 (eB zGt (aB (aE 0) aNil))) lG)
def bG:Mir:=fn 1 1 (iM (zFT (aB (aE 0) (aB (eC (.int 1)) aNil))))
def iP:Mir:=fn 2 2 (iM (eOp oLt (eOp oC (eOp oIx (aE 0) (eC (.int 0))) (eOp oIx (aE 1) (eC (.int 1)))) (eOp oC (eOp oIx (aE 1) (eC (.int 0))) (eOp oIx (aE 0) (eC (.int 1))))))
def gH:Mir:=fn 1 1 (iM (eOp yJ (eOp oIx (aE 0) (eC (.int 0))) (eOp oIx (aE 0) (eC (.int 1)))))
abbrev lT:Sv:=(fL 1 (eOp oC (aE 1) (eOp oIx (aE 2) (eC (.int 1)))))
abbrev oY:Sv:=(fL 1 (eC (.int 1)))
abbrev iQ:Sv:=(xM (wR (aE 0)) (gName 2) lT)
def dF:List D->Res (List Int):=pS oY iQ
def bR:Mir:=fn 1 1 (sIf (eX (eUn (mE aT) (aE 0))) (iY "BadWay" (aB (eC (.str "no such way")) aNil)) sNext)
abbrev mB:Sv:=(sIf (eX (eOp oLt (aE 1) (eC (.int 0)))) (iY "BadClaim" (aB (eC (.str "a claim is below nought")) aNil)) sNext)
abbrev lS:Sv:=(xM (wR (aE 0)) (gName 1) mB)
def cK:Mir:=fn 1 2 (bP (sIf (eX (eOp oEq (eB kQ (aB (aE 0) aNil)) (eC (.int 0)))) (iY "BadClaim" (aB (eC (.str "there is no claim")) aNil)) sNext) lS)
abbrev lE:Sv:=(sIf (zBg (eX (eOp oLt (aE 4) (eC (.int 1)))) (eX (eOp oGt (aE 4) (eOp zDR (eC (.int 10)) (eC (.int 6)))))) (iY "BadWeights" (aB (eC (.str "a weight is not from 1 to 10 ** 6")) aNil)) sNext)
abbrev dC:Sv:=(xM (wR (aE 1)) (gName 4) lE)
abbrev fT:Sv:=(bP (sIf (eX (eOp oNe (eB kQ (aB (aE 1) aNil)) (aE 3))) (iY "BadWeights" (aB (eC (.str "more or fewer weights than are due")) aNil)) sNext) dC)
def aR:Mir:=fn 3 5 (bP (fL 3 (eIf (eX (eOp oIn (aE 0) (eC d_WEIGHTED))) (aE 2) (eC (.int 0)))) fT)
abbrev zES:Sv:=(iM (zFT (aB (eC d_BOAT) (aB (aE 0) aNil))))
def uZ:Mir:=fn 1 1 (bP (sIf (zBg (eX (eOp oLt (aE 0) (eC (.int 0)))) (eX (eOp oGt (aE 0) (eOp zDR (eC (.int 10)) (eC (.int 9)))))) (iY "BadClaim" (aB (eC (.str "a boat's claim is not from 0 to 10 ** 9")) aNil)) sNext) zES)
def bV:Mir:=fn 1 1 (iM (eOp oEq (eOp oIx (aE 0) (eC (.int 0))) (eC d_BOAT)))
def jD:Mir:=fn 1 1 (iM (eOp oIx (aE 0) (eC (.int 0))))
def cX:Mir:=fn 1 1 (iM (eOp oIx (aE 0) (eC (.int 1))))
abbrev oQ:Sv:=(iM (eC (.int 0)))
def bJ:Mir:=fn 2 2 (bP (sIf (eX (eOp oLt (aE 1) (eB kQ (aB (aE 0) aNil)))) (iM (eOp oIx (aE 0) (aE 1))) sNext) oQ)
abbrev xK:Sv:=(iM (eOp oC (aE 3) (aE 3)))
def eA:Mir:=fn 3 4 (bP (fL 3 (eOp oC (eOp zAr (eOp oC (aE 0) (eOp oIx (aE 1) (eC (.int 1)))) (eOp oIx (aE 1) (eC (.int 0)))) (eOp oIx (aE 2) (eC (.int 1))))) xK)
abbrev uO:Sv:=(iM (eOp oLt (eB zGt (aB (eOp zAr (eOp oC (aE 0) (eOp oIx (aE 1) (eC (.int 1)))) (eOp oIx (aE 1) (eC (.int 0)))) aNil)) (eOp oIx (aE 1) (eC (.int 1)))))
def gI:Mir:=fn 3 3 (bP (sIf (zBg (xV (eX (zJT "int" (aE 0)))) (zBg (eX (zJT "bool" (aE 0))) (zBg (eX (eOp oLt (aE 0) (eC (.int 0)))) (eX (eOp oGt (aE 0) (aE 2)))))) (iM (eC (.bl false))) sNext) uO)
abbrev zFo:Sv:=(iM (zFT (aB (eOp yJ (aE 0) (aE 2)) (aB (eOp yJ (aE 1) (aE 2)) aNil))))
abbrev zFc:Sv:=(bP (sIf (eX (eOp oLt (aE 1) (eC (.int 0)))) (fL 2 (eUn zKd (aE 2))) sNext) zFo)
abbrev zED:Sv:=(bP (fL 2 (aV cG (aB (aE 0) (aB (aE 1) aNil)))) zFc)
def fI:Mir:=fn 2 3 (bP (sIf (eX (eOp oEq (aE 1) (eC (.int 0)))) (iY "NoFraction" (aB (eC (.str "the bottom is nought")) aNil)) sNext) zED)
def gN:Mir:=fn 2 2 (iM (eIf (eX (aV iP (aB (aE 0) (aB (aE 1) aNil)))) (aE 0) (aE 1)))
def eD:Mir:=fn 2 2 (iM (eOr (aV iP (aB (aE 0) (aB (eC lD) aNil))) (aV iP (aB (aE 1) (aB (aE 0) aNil)))))
abbrev zAB:Sv:=(pQ (aV aR (aB (aE 0) (aB (aE 1) (aB (eB kQ (aB (aE 2) aNil)) aNil)))))
abbrev zAE:Sv:=(bP (pQ (aV cK (aB (aE 2) aNil))) zAB)
def lN:Mir:=fn 3 3 (bP (pQ (aV bR (aB (aE 0) aNil))) zAE)
def bH:Mir:=fn 1 1 (iM (eIf (eX (aV bV (aB (aE 0) aNil))) (zFT aNil) (eOp oIx (aE 0) (eC (.int 2)))))
abbrev qH:Sv:=(zFF 3 (eOp oIx (eF (wC (aB (eOp rK (eOp yJ (aE 5) (eC (.int 3))) (eC (.int 13))) (aB (eOp rK (eOp yJ (aE 5) (eC (.int 3))) (eC (.int 3))) (aB (eOp rK (eOp yJ (aE 5) (eC (.int 3))) (eOp oU (eOp zDR (eC (.int 10)) (eC (.int 9))) (eC (.int 1)))) aNil))))) (eOp rK (aE 5) (eC (.int 3)))))
abbrev pN:Sv:=(bP (fL 5 (eOp rK (aV bJ (aB (aE 0) (aB (eOp oU (eOp oU (aE 1) (eC (.int 1))) (aE 4)) aNil))) (eOp zDR (eC (.int 10)) (eC (.int 30))))) qH)
abbrev jP:Sv:=(fX 3)
abbrev qA:Sv:=(bP (xM (pO (aB (eOp oU (eC (.int 1)) (eOp rK (aV bJ (aB (aE 0) (aB (aE 1) aNil))) (aE 2))) aNil)) (gName 4) pN) jP)
def dW:Mir:=fn 3 6 (bP (zBf 3 (wC aNil)) qA)
abbrev mU:Sv:=(iM (eOr (eOp oGt (aE 5) (aE 4)) (zKR (eOp oEq (aE 5) (aE 4)) (eOp oLt (aE 2) (aE 3)))))
abbrev mI:Sv:=(bP (fL 5 (eOp oU (aV eA (aB (eOp zAr (eOp oIx (aE 0) (aE 2)) (eC (.int 1))) (aB (eOp oIx (aE 1) (aE 2)) (aB (eOp oIx (aE 1) (aE 3)) aNil)))) (aV eA (aB (eOp oU (eOp oIx (aE 0) (aE 3)) (eC (.int 1))) (aB (eOp oIx (aE 1) (aE 3)) (aB (eOp oIx (aE 1) (aE 2)) aNil)))))) mU)
def cJ:Mir:=fn 4 6 (bP (fL 4 (eOp oU (aV eA (aB (eOp oIx (aE 0) (aE 2)) (aB (eOp oIx (aE 1) (aE 2)) (aB (eOp oIx (aE 1) (aE 3)) aNil)))) (aV eA (aB (eOp oIx (aE 0) (aE 3)) (aB (eOp oIx (aE 1) (aE 3)) (aB (eOp oIx (aE 1) (aE 2)) aNil)))))) mI)
def nL:Mir:=fn 2 2 (iM (aV fI (aB (eOp oU (eOp oC (eOp oIx (aE 0) (eC (.int 0))) (eOp oIx (aE 1) (eC (.int 1)))) (eOp oC (eOp oIx (aE 1) (eC (.int 0))) (eOp oIx (aE 0) (eC (.int 1))))) (aB (eOp oC (eOp oIx (aE 0) (eC (.int 1))) (eOp oIx (aE 1) (eC (.int 1)))) aNil))))
def dQ:Mir:=fn 2 2 (iM (aV fI (aB (eOp zAr (eOp oC (eOp oIx (aE 0) (eC (.int 0))) (eOp oIx (aE 1) (eC (.int 1)))) (eOp oC (eOp oIx (aE 1) (eC (.int 0))) (eOp oIx (aE 0) (eC (.int 1))))) (aB (eOp oC (eOp oIx (aE 0) (eC (.int 1))) (eOp oIx (aE 1) (eC (.int 1)))) aNil))))
def gT:Mir:=fn 2 2 (iM (aV fI (aB (eOp oC (eOp oIx (aE 0) (eC (.int 0))) (eOp oIx (aE 1) (eC (.int 0)))) (aB (eOp oC (eOp oIx (aE 0) (eC (.int 1))) (eOp oIx (aE 1) (eC (.int 1)))) aNil))))
def oH:Mir:=fn 2 2 (iM (aV fI (aB (eOp oC (eOp oIx (aE 0) (eC (.int 0))) (eOp oIx (aE 1) (eC (.int 1)))) (aB (eOp oC (eOp oIx (aE 0) (eC (.int 1))) (eOp oIx (aE 1) (eC (.int 0)))) aNil))))
def bF:Mir:=fn 2 2 (sIf (eX (aV eD (aB (aE 0) (aB (aE 1) aNil)))) (iY "Outside" (aB (eC (.str "below nought, or more than there can be")) aNil)) sNext)
def dL:Mir:=fn 2 2 (jO (kR (zGP (aB (aE 1) (aB (aE 0) aNil))) (aV fI (aB (aE 2) (aB (aE 3) aNil)))))
abbrev tT:Sv:=(fL 2 (aV dQ (aB (aE 2) (aB (aE 5) aNil))))
abbrev sI:Sv:=(bP (zFF 3 (aE 5)) tT)
abbrev lM:Sv:=(bP (fL 5 (aV gN (aB (aE 2) (aB (aV bG (aB (aE 4) aNil)) aNil)))) sI)
abbrev sY:Sv:=(fX 3)
abbrev sN:Sv:=(bP (xM (wR (aE 0)) (gName 4) lM) sY)
abbrev rR:Sv:=(bP (zBf 3 (wC aNil)) sN)
def dR:Mir:=fn 2 6 (bP (fL 2 (aE 1)) rR)
abbrev qG:Sv:=(zJB 4 zAr (eOp oIx (aE 0) (aE 6)))
abbrev qC:Sv:=(bP (fL 3 (zIi (aV dQ (aB (aE 3) (aB (eOp oIx (aE 5) (aE 6)) aNil))))) qG)
abbrev pU:Sv:=(bP (zKO 5 (aE 6) (aV gN (aB (aE 7) (aB (aV bG (aB (eOp oIx (aE 1) (aE 6)) aNil)) aNil)))) qC)
abbrev bB:Sv:=(bP (fL 7 (aV oH (aB (aV gT (aB (aE 3) (aB (aV bG (aB (eOp oIx (aE 0) (aE 6)) aNil)) aNil))) (aB (aV bG (aB (aE 4) aNil)) aNil)))) pU)
abbrev fY:Sv:=(fX 5)
abbrev jR:Sv:=(zEM (aB (eF (eQ dL (aB (aE 0) (aB (aE 1) aNil)))) aNil) dF (gName 6) bB fY)
abbrev qJ:Sv:=(bP (zBf 5 (zIk (wC (aB (eC lD) aNil)) (eB kQ (aB (aE 1) aNil)))) jR)
abbrev qK:Sv:=(bP (fL 4 (eB tV (aB (aE 0) aNil))) qJ)
def bY:Mir:=fn 3 8 (bP (fL 3 (aE 2)) qK)
abbrev qE:Sv:=(jO (jU (wR (aE 0)) jN (aV gT (aB (aE 3) (aB (aV bG (aB (aE 4) aNil)) aNil)))))
abbrev pZ:Sv:=(bP (fL 3 (aV oH (aB (aE 1) (aB (aV bG (aB (aE 2) aNil)) aNil)))) qE)
abbrev qI:Sv:=(bP (sIf (eX (eOp oEq (aE 2) (eC (.int 0)))) (jO (zIk (wC (aB (eC lD) aNil)) (eB kQ (aB (aE 0) aNil)))) sNext) pZ)
def cY:Mir:=fn 2 4 (bP (fL 2 (eB tV (aB (aE 0) aNil))) qI)
abbrev qB:Sv:=(jO (jU (wR (eF (eQ bY (aB (aE 2) (aB (aE 0) (aB (aV nL (aB (aE 1) (aB (aE 1) aNil))) aNil)))))) jN (aV gT (aB (aE 3) (aB (eC d_HALF) aNil)))))
def cV:Mir:=fn 2 3 (bP (fL 2 (eF (zIk (wC (aB (eC (.int 1)) aNil)) (eB kQ (aB (aE 0) aNil))))) qB)
abbrev lK (r:Mir):Sv:=(jO (kR (zGP (aB (aE 2) (aB (aE 5) aNil))) (aV dQ (aB (aV bG (aB (aE 6) aNil)) (aB (aE 7) aNil)))))
abbrev kT (r:Mir):Sv:=(bP (fL 5 (eF (eQ r (aB (eUn (wH aT) (aE 0)) (aB (aE 1) (aB (aE 2) (aB (aV dQ (aB (aE 4) (aB (aE 3) aNil))) aNil))))))) (lK r))
abbrev nA (r:Mir):Sv:=(bP (sIf (zAP (eX (eOp oEq (aE 0) (eC (.str "half")))) (xV (eX (aV iP (aB (aE 4) (aB (aV nL (aB (aE 3) (aB (aE 3) aNil))) aNil)))))) (jO (eQ cV (aB (aE 2) (aB (aE 3) aNil)))) sNext) (kT r))
abbrev mP (r:Mir):Sv:=(bP (sIf (eX (eOp oEq (aE 0) (eC (.str "part")))) (jO (eQ cY (aB (aE 2) (aB (aE 3) aNil)))) sNext) (nA r))
abbrev lV (r:Mir):Sv:=(bP (sIf (eX (eOp oEq (aE 0) (eC (.str "even")))) (jO (eQ bY (aB (aE 1) (aB (aE 2) (aB (aE 3) aNil))))) sNext) (mP r))
abbrev mG (r:Mir):Sv:=(bP (sIf (eX (eOp oEq (aE 0) (eC (.str "row")))) (jO (eQ dR (aB (aE 2) (aB (aE 3) aNil)))) sNext) (lV r))
def aM (r:Mir):Mir:=fn 4 6 (bP (fL 4 (aV bG (aB (eB tV (aB (aE 2) aNil)) aNil))) (mG r))
def aJ:Nat->Mir
 | 0=>fn 4 6 sNo
 | n+1=>aM (aJ n)
abbrev zBx:Sv:=(jO (eQ (aJ 2) (aB (aE 0) (aB (aE 1) (aB (aE 2) (aB (aE 3) aNil))))))
abbrev zBI:Sv:=(bP (pQ (aV bF (aB (aE 3) (aB (aV bG (aB (eB tV (aB (aE 2) aNil)) aNil)) aNil)))) zBx)
def lY:Mir:=fn 4 4 (bP (pQ (aV lN (aB (aE 0) (aB (aE 1) (aB (aE 2) aNil))))) zBI)
abbrev tE (r:Mir):Sv:=(zIf 1 (eQ r (aB (aE 2) aNil)))
abbrev rV (r:Mir):Sv:=(fX 1)
abbrev rP (r:Mir):Sv:=(bP (xM (wR (aV bH (aB (aE 0) aNil))) (gName 2) (tE r)) (rV r))
abbrev sO (r:Mir):Sv:=(bP (zBf 1 (wC aNil)) (rP r))
def gY (r:Mir):Mir:=fn 1 3 (bP (sIf (eX (aV bV (aB (aE 0) aNil))) (jO (wC (aB (eOp oIx (aE 0) (eC (.int 1))) aNil))) sNext) (sO r))
def cH:Nat->Mir
 | 0=>fn 1 3 sNo
 | n+1=>gY (cH n)
def kN (r:Mir):Mir:=fn 1 1 (iM (eOp oU (eC (.int 1)) (eOp (fun x y=>yN [x,y]) (eF (jU (wR (aV bH (aB (aE 0) aNil))) jN (aV r (aB (aE 1) aNil)))) (eC (.int 0)))))
def fH:Nat->Mir
 | 0=>fn 1 1 sNo
 | n+1=>kN (fH n)
abbrev zEH:Sv:=(iM (aE 3))
abbrev zEV:Sv:=(bP (sIf (zBg (eX (eOp oEq (eB kQ (aB (aE 2) aNil)) (eC (.int 0)))) (zBg (eX (eOp oGt (eB kQ (aB (eF (eQ (cH 10) (aB (aE 3) aNil))) aNil)) (eC d_MOST_BOATS))) (eX (eOp oGt (aV (fH 10) (aB (aE 3) aNil)) (eC d_DEEPEST))))) (iY "TooMany" (aB (eC (.str "no kid, or too many boats, or too deep")) aNil)) sNext) zEH)
abbrev zDZ:Sv:=(bP (fL 3 (zFT (aB (aE 0) (aB (eB zFY (aB (aE 1) aNil)) (aB (eB zFY (aB (aE 2) aNil)) aNil))))) zEV)
abbrev zFf:Sv:=(bP (pQ (aV aR (aB (aE 0) (aB (aE 1) (aB (eB kQ (aB (aE 2) aNil)) aNil))))) zDZ)
def qW:Mir:=fn 3 4 (bP (pQ (aV bR (aB (aE 0) aNil))) zFf)
def dO:Mir:=fn 1 1 (iM (eB tV (aB (eF (eQ (cH 10) (aB (aE 0) aNil))) aNil)))
def cZ:Mir:=fn 1 1 (jO (jU (wR (aV bH (aB (aE 0) aNil))) jN (aV dO (aB (aE 1) aNil))))
abbrev nI:Sv:=(iM (aV qW (aB (aE 2) (aB (aE 3) (aB (aE 0) aNil)))))
abbrev vE:Sv:=(bP (sIf (zBg (eX (eOp oEq (aE 2) (eC (.str "even")))) (eX (eOp oEq (aE 2) (eC (.str "lack"))))) (fL 3 (eF (jU (pO (aB (eB kQ (aB (aE 0) aNil)) aNil)) jN (eOp oU (eC (.int 1)) (eOp rK (eOp yJ (aE 1) (eOp oU (eC (.int 6)) (eOp oC (eC (.int 13)) (aE 4)))) (eC (.int 4))))))) sNext) nI)
abbrev vK:Sv:=(bP (fL 3 (eF (wC aNil))) vE)
def eV:Mir:=fn 2 4 (bP (fL 2 (eOp oIx (eF (wC (aB (eC (.str "row")) (aB (eC (.str "back")) (aB (eC (.str "even")) (aB (eC (.str "lack")) (aB (eC (.str "part")) (aB (eC (.str "half")) aNil)))))))) (eOp rK (aE 1) (eC (.int 6))))) vK)
abbrev uE:Sv:=(zBf 3 (zGL (zKY (eF (fSl (aE 3) oN (oS (eUn zKd (aE 7))))) (eF (wC (aB (aV eV (aB (eF (fSl (aE 3) (oS (eUn zKd (aE 7))) oN)) (aB (eOp yJ (aE 6) (eC (.int 6))) aNil))) aNil))))))
abbrev tZ:Sv:=(sIf (eX (eOp oEq (eOp rK (aE 6) (eC (.int 2))) (eC (.int 1)))) (bP (fL 7 (zIi (eOp oU (eC (.int 1)) (eOp rK (eOp yJ (aE 6) (eC (.int 2))) (eB zIt (aB (eC (.int 3)) (aB (eB kQ (aB (aE 3) aNil)) aNil))))))) uE) sNext)
abbrev vQ:Sv:=(bP (fL 6 (eOp rK (aV bJ (aB (aE 1) (aB (eOp oU (aE 2) (aE 4)) aNil))) (eOp zDR (eC (.int 10)) (eC (.int 30))))) tZ)
abbrev vX:Sv:=(bP (zFF 3 (aV uZ (aB (aE 5) aNil))) vQ)
abbrev nD:Sv:=(sFrzAt 3 (iM (aV eV (aB (aE 3) (aB (eOp rK (aV bJ (aB (aE 1) (aB (eOp oU (aE 2) (eB kQ (aB (aE 0) aNil))) aNil))) (eOp zDR (eC (.int 10)) (eC (.int 30)))) aNil)))))
abbrev uC:Sv:=(bP (xM (zFs (aE 0)) (zBE (iZ (gName 4) (iZ (gName 5) zBK))) vX) nD)
def gF:Mir:=fn 3 8 (bP (zBf 3 (wC aNil)) uC)
abbrev nJ (r:Mir):Sv:=(zIf 3 (eQ r (aB (aE 4) (aB (aE 5) aNil))))
abbrev vO (r:Mir):Sv:=(fX 3)
abbrev wA (r:Mir):Sv:=(bP (xM (zGP (aB (aV bH (aB (aE 0) aNil)) (aB (aE 2) aNil))) (zBE (iZ (gName 4) (iZ (gName 5) zBK))) (nJ r)) (vO r))
abbrev vM (r:Mir):Sv:=(bP (zBf 3 (wC aNil)) (wA r))
abbrev wQ (r:Mir):Sv:=(bP (fL 2 (eF (eQ lY (aB (aV jD (aB (aE 0) aNil)) (aB (aV cX (aB (aE 0) aNil)) (aB (eF (eQ cZ (aB (aE 0) aNil))) (aB (aE 1) aNil))))))) (vM r))
def eY (r:Mir):Mir:=fn 2 6 (bP (sIf (eX (aV bV (aB (aE 0) aNil))) (jO (wC (aB (aE 1) aNil))) sNext) (wQ r))
def dB:Nat->Mir
 | 0=>fn 2 6 sNo
 | n+1=>eY (dB n)
abbrev zAS:Sv:=(jO (eQ (dB 10) (aB (aE 0) (aB (aE 1) aNil))))
def dS:Mir:=fn 2 2 (bP (pQ (aV bF (aB (aE 1) (aB (aV bG (aB (aV dO (aB (aE 0) aNil)) aNil)) aNil)))) zAS)
abbrev zF:Sv:=(zBX 3 (aE 6) (eC (.int 1)))
abbrev zEw:Sv:=(fX 3)
abbrev zEU:Sv:=(bP (xM (wR (eF (fSl (eF (zAD dF (aB (aE 4) aNil))) oN (oS (aE 5))))) (gName 6) zF) zEw)
abbrev zFl:Sv:=(bP (fL 5 (zIi (eOp zAr (aE 1) (eB tV (aB (aE 3) aNil))))) zEU)
abbrev zFu:Sv:=(bP (fL 4 (eF (zGL (kR (zGP (aB (aE 3) (aB (aE 2) aNil))) (aV dQ (aB (aV bG (aB (aE 7) aNil)) (aB (aE 8) aNil))))))) zFl)
abbrev zEP:Sv:=(bP (zBf 3 (jU (wR (aE 2)) jN (aV gH (aB (aE 7) aNil)))) zFu)
def qV:Mir:=fn 2 7 (bP (fL 2 (eF (eQ dS (aB (aE 0) (aB (aV bG (aB (aE 1) aNil)) aNil))))) zEP)
abbrev sX:Sv:=(sIf (xV (eX (aV gI (aB (aE 5) (aB (aE 6) (aB (aE 7) aNil)))))) (iM (eC (.bl false))) sNext)
abbrev jS:Sv:=(sIf (zAP (eX (eOp oNe (aE 8) (aE 9))) (zAP (eX (eOp oGt (eOp oIx (aE 3) (aE 8)) (eC (.int 0)))) (eX (eOp oLt (eOp oIx (aE 3) (aE 9)) (eOp oIx (aE 1) (aE 9)))))) (sIf (xV (eX (aV cJ (aB (aE 3) (aB (aE 4) (aB (aE 8) (aB (aE 9) aNil))))))) (iM (eC (.bl false))) sNext) sNext)
abbrev qD:Sv:=(xM (pO (aB (eB kQ (aB (aE 1) aNil)) aNil)) (gName 9) jS)
abbrev jQ:Sv:=(iM (eC (.bl true)))
abbrev pX:Sv:=(bP (xM (pO (aB (eB kQ (aB (aE 1) aNil)) aNil)) (gName 8) qD) jQ)
abbrev gU:Sv:=(bP (sIf (eX (eOp oNe (eB tV (aB (aE 3) aNil)) (aE 2))) (iM (eC (.bl false))) sNext) pX)
abbrev sM:Sv:=(bP (xM (zFk (aB (aE 3) (aB (aE 4) (aB (aE 1) aNil)))) (zBE (iZ (gName 5) (iZ (gName 6) (iZ (gName 7) zBK)))) sX) gU)
abbrev tI:Sv:=(bP (sIf (zBg (xV (eX (zJT "list" (aE 3)))) (eX (eOp oNe (eB kQ (aB (aE 3) aNil)) (eB kQ (aB (aE 1) aNil))))) (iM (eC (.bl false))) sNext) sM)
abbrev tK:Sv:=(bP (fL 4 (eF (eQ dS (aB (aE 0) (aB (zFT (aB (aE 2) (aB (eC (.int 1)) aNil))) aNil))))) tI)
def fJ:Mir:=fn 3 10 (bP (fL 3 (eF (eQ qV (aB (aE 0) (aB (aE 2) aNil))))) tK)
abbrev zHE:Sv:=(zFF 3 (eOp rK (aE 4) (eOp oU (eB tV (aB (aE 1) aNil)) (eC (.int 1)))))
abbrev yQ:Sv:=(iM (eB zJC (aB (eF (jU (wR (aE 3)) jN (aV fJ (aB (aE 2) (aB (aE 1) (aB (aE 5) aNil)))))) aNil)))
abbrev zHZ:Sv:=(bP (xM (wR (eF (fSl (aE 0) (oS (eC (.int 14))) (oS (eC (.int 24)))))) (gName 4) zHE) yQ)
abbrev zGN:Sv:=(bP (zBf 3 (wC (aB (eC (.int 0)) (aB (eB tV (aB (aE 1) aNil)) aNil)))) zHZ)
abbrev zHm:Sv:=(bP (fL 2 (aV gF (aB (aE 1) (aB (aE 0) (aB (eC (.int 7)) aNil))))) zGN)
def zGV:Mir:=fn 1 5 (bP (fL 1 (eF (eQ dW (aB (aE 0) (aB (eC (.int 0)) (aB (eC (.int 6)) aNil)))))) zHm)
end Lw
namespace Lw
open L3 PySem Fr Fq Ln
theorem c_NOUGHT:lD=dq 0:=rfl
local macro_rules | `(tactic| walk_at "ev")=>do
 let ids:Array (Lean.TSyntax `term):=(("c_NOUGHT d_WEIGHTED d_HALF d_BOAT d_MOST_BOATS d_DEEPEST fn_at enumF_t iZip_at iZip3_at iEnum_at enumF_l fComp2_at chO_s oEq_s oNe_s oTabNot_s L3.start sSeq_at seqF_nx seqF_ret sSet_at setF sOwn_at ownF sRet_at retF sRetF_at retFF sRetOwn_at retS sRetN sIf_at ifF_t ifF_f sNext sNo sDrop_at dropF dropG eVar_at varS eC eOp_at opF eUn eCall_at callF rtF eB eTup_at tupF aCons_at consF consG aNil tVal_at blF tNotB_at notF tAndB_at tandF_t tandF_f tOrB_at torF_t torF_f eAnd_at andF_t andF_f eOr_at orF_t orF_f eIf_at eifF_t eifF_f eF_at efF fLst_at fLstF fCall_at fcallF rtFF fList_at fListF_l fListF_t fComp_at fRep_at repF fCat_at catF catG eFrz_at frzF fFrz_at fFrzF oN oS_at oSF fSl_at fSlF fSlG fSlH isNon sApp_at appS appF sExt_at extS extF sAug_at augS augF setG sUnp_at unpF nxF bSum_l bSum_t gTup_at gtF_t gCons_at gNil_at gName sFor_at forF iSeq_at seqD_l seqD_t iRng1_at sFrz sFrzAt frzAt okb erb Rt.d fin oAdd_i oSub_i oMul_i oDiv_i oMod_i oPow_i oEq_i oNe_i oLt_i oLe_i oGt_i oGe_i oIx_tc oNeg_i oNot_b bAbs_i bLen_t bLen_l bMin_i bTup_t bTup_l eIsT_at isTF isT ty_i ty_t ty_l ty_b ty_s ty_n ofO_some atD sRaise_at raiseF Sl.frz noErr dep depS noL noLs List.map_cons List.map_nil List.cons_append List.nil_append List.append_nil List.replicate List.length_cons List.length_nil List.getElem?_cons_zero List.getElem?_cons_succ List.set_cons_zero List.set_cons_succ Nat.reduceAdd Nat.reduceSub Nat.reduceLeDiff Nat.reduceEqDiff Nat.zero_add Nat.sub_self Nat.max_self Nat.zero_le if_true ite_true ite_false if_false Bool.false_eq_true Bool.not_true Bool.not_false reduceIte ite_self Int.toNat_zero Int.reduceToNat Int.reduceLE Int.reduceLT Int.le_refl decide_true decide_false Bool.or_true Bool.or_false Bool.true_or Bool.false_or Bool.and_true Bool.true_and Bool.and_false Bool.false_and String.reduceBEq String.reduceEq beq_self_eq_true ix_dq0 ix_dq1 ty_dq dep_dq noL_dq len_dq eq_dq oEq_dq oNe_dq List.length_map okDiv_lit okMul_litr okMul_litl okp9 okp30 p10 fdiv_pos fmod_pos Int.reduceEq Int.reduceNeg p10ne p10ne2 p10pos2 Int.reduceMul Int.reduceAdd Int.reduceSub Int.reduceDiv Int.reduceMod eqD Nat.reduceLT Nat.reducePow ne_eq not_true_eq_false not_false_eq_true".splitOn " ").map fun s=>⟨Lean.mkIdent s.toName⟩).toArray
 `(tactic| simp only [$[$ids:term],*])
theorem nV (t b:Int):cG [.int t,.int b]=.ok (.v (.int (Int.gcd t b:Int))):=by
 unfold cG
 walk_at "ev"
 refine zJI (fun ρ=>∃ (x y:Int) (r:Sl),ρ=[.val (.int x),.val (.int y),r]/\0<=x/\0<=y/\Int.gcd x y=Int.gcd t b) (fun ρ=>(slI 1 ρ).toNat)
  (fun r=>(r.bind (zDW (iM (aE 0)))).bind fin=.ok (.v (.int (Int.gcd t b:Int)))) ⟨_,_,_,rfl,by omega,by omega,by simp [Int.gcd]⟩ ?_
 rintro ρ ⟨x,y,r,rfl,hx,hy,hg⟩
 by_cases h:y=0
 ·subst h
  refine .inl ⟨rfl,?_⟩
  have e:x=(Int.gcd t b:Int):=by
   rw [Int.gcd_zero_right] at hg
   omega
  rw [<-e]
  rfl
 ·refine .inr ⟨?_,[.val (.int y),.val (.int (x.fmod y)),.val (.int (x.fmod y))],?_,⟨y,x.fmod y,_,rfl,hy,?_,?_⟩,?_⟩
  ·walk_at "ev"
   rw [decide_eq_false h];rfl
  ·walk_at "ev"
   rw [oMod_i h]
   walk_at "ev"
  ·rw [yZ _ hy];exact Int.emod_nonneg _ h
  ·rw [yZ _ hy];exact (Fq.zEq hx (by omega)).trans hg
  ·have:=Int.emod_lt_of_pos x (show 0 < y by omega)
   rw [yZ _ hy]
   show (x % y).toNat < y.toNat
   omega
theorem zLF {t b:Int} (hb:b≠0):(dv t b).natAbs<=b.natAbs:=Nat.le_of_dvd (by omega) (Int.natAbs_dvd_natAbs.mpr (zH t b))
theorem vB {t b:Int} {n:Nat} (hb:b≠0) (hn:b.natAbs < 2^n) (h:n<=8999):fI [.int t,.int b]=.ok (.v (dq (Rat.divInt t b))):=by
 have hd:iL (dv t b)=true:=kL (zLa hb) (Nat.lt_of_le_of_lt (zLF hb) hn) h
 have e0:decide (b=0)=false:=decide_eq_false hb
 unfold fI
 walk_at "ev"
 rw [e0]
 walk_at "ev"
 rw [nV]
 walk_at "ev"
 by_cases c:b < 0
 ·have e:-(Int.gcd t b:Int)=dv t b:=by unfold dv;rw [if_pos c]
  rw [decide_eq_true c]
  walk_at "ev"
  rw [e,oDiv_i hd]
  walk_at "ev"
  rw [oDiv_i hd]
  walk_at "ev"
  rw [zAp hb,zAh hb]
  rfl
 ·have e:(Int.gcd t b:Int)=dv t b:=by unfold dv;rw [if_neg c]
  rw [decide_eq_false c]
  walk_at "ev"
  rw [e,oDiv_i hd]
  walk_at "ev"
  rw [oDiv_i hd]
  walk_at "ev"
  rw [zAp hb,zAh hb]
  rfl
theorem zLM (t:Int):fI [.int t,.int 0]=.err "NoFraction" := by
 unfold fI
 walk_at "ev"
theorem zDG {p q:Rat} {m n:Nat} (hp:Sz m p) (hq:Sz n q) (h:m+n<=8999):nL [dq p,dq q]=.ok (.v (dq (p+q))):=by
 unfold nL
 walk_at "ev"
 rw [oMul_i (bE hp.1 hq.d (by omega))]
 walk_at "ev"
 rw [oMul_i (bE hq.1 hp.d (by omega))]
 walk_at "ev"
 rw [oMul_i (bE hp.d hq.d (by omega))]
 walk_at "ev"
 rw [vB (Int.mul_ne_zero (eN p) (eN q)) (eM hp.d hq.d) h,zJi]
 walk_at "ev"
theorem gP {p q:Rat} {m n:Nat} (hp:Sz m p) (hq:Sz n q) (h:m+n<=8999):dQ [dq p,dq q]=.ok (.v (dq (p - q))):=by
 unfold dQ
 walk_at "ev"
 rw [oMul_i (bE hp.1 hq.d (by omega))]
 walk_at "ev"
 rw [oMul_i (bE hq.1 hp.d (by omega))]
 walk_at "ev"
 rw [oMul_i (bE hp.d hq.d (by omega))]
 walk_at "ev"
 rw [vB (Int.mul_ne_zero (eN p) (eN q)) (eM hp.d hq.d) h,zFy]
 walk_at "ev"
theorem yK {p q:Rat} {m n:Nat} (hp:Sz m p) (hq:Sz n q) (h:m+n<=8999):gT [dq p,dq q]=.ok (.v (dq (p * q))):=by
 unfold gT
 walk_at "ev"
 rw [oMul_i (bE hp.1 hq.1 (by omega))]
 walk_at "ev"
 rw [oMul_i (bE hp.d hq.d (by omega))]
 walk_at "ev"
 rw [vB (Int.mul_ne_zero (eN p) (eN q)) (eM hp.d hq.d) h,zFM]
 walk_at "ev"
theorem zFG {p q:Rat} {m n:Nat} (hp:Sz m p) (hq:Sz n q) (h0:q≠0) (h:m+n<=8999):oH [dq p,dq q]=.ok (.v (dq (p / q))):=by
 unfold oH
 walk_at "ev"
 rw [oMul_i (bE hp.1 hq.d (by omega))]
 walk_at "ev"
 rw [oMul_i (bE hp.d hq.1 (by omega))]
 walk_at "ev"
 rw [vB (Int.mul_ne_zero (eN p) (zFW.mpr h0)) (eM hp.d hq.1) h,zCB]
 walk_at "ev"
theorem wK {p q:Rat} {m n:Nat} (hp:Sz m p) (hq:Sz n q) (h:m+n<=99999):iP [dq p,dq q]=.ok (.v (.bl (decide (p < q)))):=by
 unfold iP
 walk_at "ev"
 rw [oMul_i (bE hp.1 hq.d (by omega))]
 walk_at "ev"
 rw [oMul_i (bE hq.1 hp.d (by omega))]
 walk_at "ev"
 simp only [lt_iff]
def mn (a b:Rat):Rat:=if a < b then a else b
def ps0 (x:Rat):Rat:=if x < 0 then 0 else x
def fG:List Int->Int->Rat->List Rat
 | [],_,_=>[]
 | c::r,a,q=>mn (ps0 (q - (a:Rat))) (c:Rat)::fG r (a+c) q
theorem vV:∀ (cs:List Int) (a:Int) (q:Rat),(fG cs a q).length=cs.length
 | [],_,_=>rfl
 | c::r,a,q=>by simp only [fG,List.length_cons,vV r]
theorem zHH {q:Rat} {a c:Int} (h:0<=c):ps0 (q - (a:Rat)) - mn (ps0 (q - (a:Rat))) (c:Rat)=ps0 (q - ((a+c:Int):Rat)):=by
 have h':(0:Rat)<=(c:Rat):=by exact_mod_cast h
 rw [Rat.intCast_add]
 unfold ps0 mn
 grind
theorem bZ {n:Nat} {k:Int} (h:k.natAbs < 2^n) (h0:0 < n):Sz n (k:Rat):=by
 refine ⟨h,?_⟩
 show 1 < 2^n
 exact Nat.one_lt_two_pow (by omega)
theorem zJN {n:Nat} {q:Rat} (h:Sz n q) (h0:0 < n):Sz n (ps0 q):=by
 unfold ps0
 split
 ·exact bZ (k:=0) (Nat.two_pow_pos n) h0
 ·exact h
theorem zGY {n:Nat} {p q:Rat} (h:Sz n p) (h':Sz n q):Sz n (mn p q):=by
 unfold mn
 split
 ·exact h
 ·exact h'
theorem bX (k:Int):bG [.int k]=.ok (.v (dq (k:Rat))):=by
 unfold bG
 walk_at "ev"
 rw [zKF]
theorem zG {p q:Rat} {m n:Nat} (hp:Sz m p) (hq:Sz n q) (h:m+n<=99999):gN [dq p,dq q]=.ok (.v (dq (mn p q))):=by
 unfold gN
 walk_at "ev"
 rw [wK hp hq h]
 walk_at "ev"
 unfold mn
 by_cases c:p < q
 ·rw [decide_eq_true c,if_pos c]
  walk_at "ev"
 ·rw [decide_eq_false c,if_neg c]
  walk_at "ev"
structure Cl (cs:List Int):Prop where
 nn:∀ c∈cs,0<=c
 up:∀ c∈cs,c < 10^30
 lo:1<=cs.length
 hi:cs.length<=12
theorem zFx:∀ {cs:List Int},(∀ c∈cs,0<=c)->(∀ c∈cs,c < 10^30)->0<=cs.sum/\cs.sum<=cs.length * 10^30
 | [],_,_=>by decide
 | c::r,h,h'=>by
  have ih:=zFx (fun x hx=>h x (List.mem_cons_of_mem _ hx)) fun x hx=>h' x (List.mem_cons_of_mem _ hx)
  have a:=h c List.mem_cons_self
  have b:=h' c List.mem_cons_self
  rw [List.sum_cons,List.length_cons]
  refine ⟨by omega,?_⟩
  have:((r.length+1:Nat):Int) * 10^30=(r.length:Int) * 10^30+10^30:=by rw [Int.natCast_add,Int.add_mul];rfl
  omega
theorem Cl.sum {cs:List Int} (h:Cl cs):0<=cs.sum/\cs.sum < 2^104:=by
 have a:=zFx h.nn h.up
 have b:=h.hi
 refine ⟨a.1,?_⟩
 omega
structure Haul (m:Nat) (q:Rat) (W:Int):Prop where
 nn:0<=q
 up:q<=(W:Rat)
 sz:Sz m q
theorem zV {d:D} {q:Rat} {m:Nat} (hm:m<=3000) (hq:Sz m q):∀ (cs:List Int) (a:Int) (acc:List D) (s t:Sl),(∀ c∈cs,0<=c)->(∀ c∈cs,c < 10^30)->0<=a->a+cs.length * 10^30 < 2^110->acc.length+cs.length<=100->
  ∃ l' s' t',loop (gName 4) lM (cs.map D.int) [.val d,.val (dq q),.val (dq (ps0 (q - (a:Rat)))),.own acc,s,t]=.ok (.nx [.val d,.val (dq q),l',.own (acc++(fG cs a q).map dq),s',t'])
 | [],a,acc,s,t,_,_,_,_,_=>⟨.val (dq (ps0 (q - (a:Rat)))),s,t,by rw [List.map_nil,loop];simp [fG]⟩
 | c::r,a,acc,s,t,h1,h2,h3,h4,h5=>by
  have c0:=h1 c List.mem_cons_self
  have c1:=h2 c List.mem_cons_self
  rw [List.length_cons] at h4 h5
  have e4:((r.length+1:Nat):Int) * 10^30=(r.length:Int) * 10^30+10^30:=by rw [Int.natCast_add,Int.add_mul];rfl
  have r0:0<=(r.length:Int) * 10^30:=Int.mul_nonneg (by omega) (by decide)
  have zl:Sz (m+111) (ps0 (q - (a:Rat))):=zJN (hq.sub (bZ (n:=110) (by omega) (by decide))) (by omega)
  have zc:Sz (m+111) (c:Rat):=Sz.mono (m:=110) (bZ (by omega) (by decide)) (by omega)
  obtain ⟨l',s',t',e⟩:=zV hm hq r (a+c) (acc++[dq (mn (ps0 (q - (a:Rat))) (c:Rat))]) (.val (.int c)) (.val (dq (mn (ps0 (q - (a:Rat))) (c:Rat)))) (fun x hx=>h1 x (List.mem_cons_of_mem _ hx)) (fun x hx=>h2 x (List.mem_cons_of_mem _ hx)) (by omega) (by omega) (by rw [List.length_append,List.length_singleton];omega)
  refine ⟨l',s',t',?_⟩
  rw [List.map_cons,fA (ρ1:=[.val d,.val (dq q),.val (dq (ps0 (q - (a:Rat)))),.own acc,.val (.int c),t]) rfl,e]
  ·rw [fG,List.map_cons,List.append_assoc];rfl
  ·walk_at "ev"
   rw [bX]
   walk_at "ev"
   rw [zG zl zc (by omega)]
   walk_at "ev"
   rw [if_pos (by omega)]
   walk_at "ev"
   rw [gP zl (zGY zl zc) (by omega)]
   walk_at "ev"
   rw [zHH c0]
theorem yF {d:D} {cs:List Int} {q:Rat} (hd:d=.lst (cs.map D.int)∨d=.tup (cs.map D.int)) {m:Nat} (hm:m<=3000) (hc:Cl cs) (hq:Sz m q) (h0:0<=q):dR [d,dq q]=.ok (.f ((fG cs 0 q).map dq)):=by
 have sq:zFQ d=.ok (cs.map D.int):=by rcases hd with rfl | rfl<;>rfl
 have:=hc.hi
 obtain ⟨l',s',t',e⟩:=zV (d:=d) hm hq cs 0 [] .un .un hc.nn hc.up (by decide) (by omega) (by rw [List.length_nil];omega)
 have z:ps0 (q - ((0:Int):Rat))=q:=by
  unfold ps0
  rw [show ((0:Int):Rat)=0 from rfl]
  grind
 rw [z] at e
 unfold dR
 walk_at "ev"
 rw [sq]
 walk_at "ev"
 rw [e]
 rfl
def sG (cs:List Int) (q:Rat):List Rat:=cs.map fun c=>Rat.divInt (c * q.num) (max 1 cs.sum * q.den)
theorem zBy {q:Rat} {c W:Int} (h:0 < W):q / (W:Rat) * (c:Rat)=Rat.divInt (c * q.num) (W * q.den):=by
 have hW:(W:Rat)≠0:=by
  intro z
  have:W=0:=by exact_mod_cast z
  omega
 rw [<-zCB q (W:Rat)]
 show Rat.divInt (q.num * ((1:Nat):Int)) (q.den * W) * (c:Rat)=_
 rw [show ((1:Nat):Int)=1 from rfl,Int.mul_one,<-Rat.num_divInt_den (c:Rat),Rat.divInt_mul_divInt]
 show Rat.divInt (q.num * c) (q.den * W * ((1:Nat):Int))=_
 rw [show ((1:Nat):Int)=1 from rfl,Int.mul_one,Int.mul_comm q.num,Int.mul_comm (q.den:Int)]
theorem oD:∀ {cs:List Int},(∀ c∈cs,0<=c)->cs.sum=0->∀ c∈cs,c=0
 | [],_,_,c,h=>by cases h
 | d::r,h,e,c,hc=>by
  rw [List.sum_cons] at e
  have h0:=h d List.mem_cons_self
  have hr:0<=r.sum:=by
   have:∀ l:List Int,(∀ c∈l,0<=c)->0<=l.sum:=by
    intro l
    induction l with
    | nil=>intro _;decide
    | cons a l ih=>intro hl;rw [List.sum_cons];have:=hl a List.mem_cons_self;have:=ih fun x hx=>hl x (List.mem_cons_of_mem _ hx);omega
   exact this r fun x hx=>h x (List.mem_cons_of_mem _ hx)
  rcases List.mem_cons.mp hc with rfl | hc
  ·omega
  ·exact oD (fun x hx=>h x (List.mem_cons_of_mem _ hx)) (by omega) c hc
theorem wE {d:D} {cs:List Int} {q:Rat} (hd:d=.lst (cs.map D.int)∨d=.tup (cs.map D.int)) {m:Nat} (hm:m<=3000) (hc:Cl cs) (hq:Sz m q):cY [d,dq q]=.ok (.f ((sG cs q).map dq)):=by
 have sm:=hc.sum
 have hi:=hc.hi
 have sq:zFQ d=.ok (cs.map D.int):=by rcases hd with rfl | rfl<;>rfl
 have su:tV [d]=.ok (.int cs.sum):=by rcases hd with rfl | rfl;exact bSum_l;exact bSum_t
 have ln:kQ [d]=.ok (.int cs.length):=by rcases hd with rfl | rfl<;>(walk_at "ev")
 unfold cY
 walk_at "ev"
 rw [su]
 walk_at "ev"
 by_cases c0:cs.sum=0
 ·rw [decide_eq_true c0]
  walk_at "ev"
  rw [ln]
  walk_at "ev"
  rw [zBs (by omega)]
  walk_at "ev"
  have e:(sG cs q).map dq=List.replicate cs.length (dq 0):=by
   unfold sG
   rw [List.map_map,<-List.map_const']
   refine List.map_congr_left fun c h=>?_
   have c0:=oD hc.nn c0 c h
   subst c0
   show dq (Rat.divInt (0 * q.num) _)=dq 0
   rw [Int.zero_mul,Rat.zero_divInt]
  rw [e]
 ·rw [decide_eq_false c0]
  walk_at "ev"
  have W0:0 < cs.sum:=by omega
  have zW:Sz 110 (cs.sum:Rat):=bZ (by omega) (by decide)
  have nW:(cs.sum:Rat)≠0:=by
   intro z
   have:cs.sum=0:=by exact_mod_cast z
   omega
  rw [bX]
  walk_at "ev"
  rw [zFG hq zW nW (by omega)]
  walk_at "ev"
  rw [sq]
  walk_at "ev"
  rw [jK (u:=D.int) (g:=fun c=>dq (Rat.divInt (c * q.num) (max 1 cs.sum * q.den))) (by omega) (fun c h=>by
   have c0:=hc.nn c h
   have c1:=hc.up c h
   walk_at "ev"
   rw [bX]
   walk_at "ev"
   rw [yK (hq.div zW nW) (bZ (n:=110) (k:=c) (by omega) (by decide)) (by omega)]
   walk_at "ev"
   rw [zBy W0,Int.max_eq_right (by omega)])]
  walk_at "ev"
  unfold sG
  rw [List.map_map]
  rfl
def lQ (f:Nat->Rat) (l:List Nat):Rat:=(l.map f).sum
theorem bC (f:Nat->Rat) (i:Nat) (l:List Nat):lQ f (i::l)=f i+lQ f l:=by unfold lQ;rw [List.map_cons,List.sum_cons]
theorem nZ (f:Nat->Rat):lQ f []=0:=rfl
theorem zDy {f g:Nat->Rat}:∀ {l:List Nat},(∀ i∈l,f i<=g i)->lQ f l<=lQ g l
 | [],_=>Rat.le_refl
 | i::l,h=>by
  rw [bC,bC]
  have a:=h i List.mem_cons_self
  have b:=zDy fun j hj=>h j (List.mem_cons_of_mem _ hj)
  grind
theorem yB {f g:Nat->Rat}:∀ {l:List Nat},(∀ i∈l,f i<=g i)->lQ f l=lQ g l->∀ i∈l,f i=g i
 | [],_,_,i,hi=>by cases hi
 | j::l,h,e,i,hi=>by
  rw [bC,bC] at e
  have a:=h j List.mem_cons_self
  have hb:∀ i∈l,f i<=g i:=fun k hk=>h k (List.mem_cons_of_mem _ hk)
  have b:=zDy hb
  rcases List.mem_cons.mp hi with rfl | hi
  ·grind
  ·exact yB hb (by grind) i hi
theorem uD {f:Nat->Rat} {l m:List Nat} (h:l.Perm m):lQ f l=lQ f m:=by
 induction h with
 | nil=>rfl
 | cons x _ ih=>rw [bC,bC,ih]
 | swap x y l=>rw [bC,bC,bC,bC];grind
 | trans _ _ h1 h2=>rw [h1,h2]
theorem gG {w:Nat->Rat} {t:Rat}:∀ {l:List Nat},lQ (fun i=>w i * t) l=t * lQ w l
 | []=>by rw [nZ,nZ];grind
 | i::l=>by rw [bC,bC,gG];grind
theorem rB {f g:Nat->Rat} {l:List Nat} (h:∀ i∈l,f i=g i):lQ f l=lQ g l:=by unfold lQ;rw [List.map_congr_left h]
theorem zEI {w:Nat->Rat}:∀ {l:List Nat},(∀ i∈l,0 < w i)->0<=lQ w l
 | [],_=>Rat.le_refl
 | i::l,h=>by
  rw [bC]
  have a:=h i List.mem_cons_self
  have b:=zEI fun j hj=>h j (List.mem_cons_of_mem _ hj)
  grind
def fQ (c w:Nat->Rat) (t:Rat) (i:Nat):Rat:=mn (w i * t) (c i)
theorem zLt {a b c d:Rat} (h:a<=c) (h':b<=d):mn a b<=mn c d:=by unfold mn;grind
theorem wB {c w:Nat->Rat} {t u:Rat} {i:Nat} (hw:0 < w i) (h:t<=u):fQ c w t i<=fQ c w u i:=
 zLt (Rat.mul_le_mul_of_nonneg_left h (Rat.le_of_lt hw)) Rat.le_refl
theorem zU {c w:Nat->Rat} {t u:Rat} {l:List Nat} (hw:∀ i∈l,0 < w i) (h:lQ (fQ c w t) l=lQ (fQ c w u) l):∀ i∈l,fQ c w t i=fQ c w u i:=by
 rcases Rat.le_total (a:=t) (b:=u) with g | g
 ·exact yB (fun i hi=>wB (hw i hi) g) h
 ·exact fun i hi=>(yB (fun i hi=>wB (hw i hi) g) h.symm i hi).symm
theorem zDH {L W w c:Rat} (hW:0 < W) (h:L * w / W < c):mn (L * w / W) c=mn (w * (L / W)) c/\mn (w * (L / W)) c=w * (L / W):=by
 have e:L * w / W=w * (L / W):=by grind
 rw [e] at h ⊢
 exact ⟨rfl,if_pos h⟩
theorem zDA {r W w c:Rat} (hW:W≠0) (h:w * r<=c):mn (r * W * w / W) c=w * r:=by
 have e:r * W * w / W=w * r:=by grind
 rw [e]
 unfold mn
 grind
theorem zBo {ci wi cj wj r:Rat} (h1:0 < wi) (h2:0 < wj) (h:ci * wj<=cj * wi) (hr:wi * r<=ci):wj * r<=cj:=by
 have a:wi * r * wj<=ci * wj:=Rat.mul_le_mul_of_nonneg_right hr (Rat.le_of_lt h2)
 have b:wj * r * wi<=cj * wi:=by
  have:wj * r * wi=wi * r * wj:=by grind
  rw [this];exact Rat.le_trans a h
 exact Rat.le_of_mul_le_mul_right b h1
theorem zAZ {L W w c b:Rat} (hw:0 < w) (h:¬ L * w / W < c) (hW:0 < W) (hb:b * W<=L):∃ b',b<=b'/\c<=w * b'/\b' * (W - w)<=L - c:=by
 have h1:c * W<=L * w:=by
  have h':=Rat.not_lt.mp h
  have:=Rat.mul_le_mul_of_nonneg_right h' (Rat.le_of_lt hW)
  rwa [Rat.div_mul_cancel (by grind)] at this
 have e1:w * (c / w)=c:=by grind
 have e2:c / w * (W - w)=c * W / w - c:=by grind
 have e3:c * W / w<=L:=by
  have a:c * W / w * w<=L * w:=by rw [Rat.div_mul_cancel (by grind)];exact h1
  exact Rat.le_of_mul_le_mul_right a hw
 rcases Rat.le_total (a:=b) (b:=c / w) with g | g
 ·exact ⟨c / w,g,by rw [e1];exact Rat.le_refl,by rw [e2];grind⟩
 ·refine ⟨b,Rat.le_refl,?_,?_⟩
  ·have:=Rat.mul_le_mul_of_nonneg_left g (Rat.le_of_lt hw)
   rwa [e1] at this
  ·have:=Rat.mul_le_mul_of_nonneg_left g (Rat.le_of_lt hw)
   rw [e1] at this
   grind
structure Wt (ws cs:List Int):Prop where
 len:ws.length=cs.length
 lo:∀ w∈ws,1<=w
 up:∀ w∈ws,w<=10^6
def cR (cs:List Int) (i:Nat):Rat:=((cs.getD i 0:Int):Rat)
def lO:List (Nat×Rat)->List D->List D
 | [],am=>am
 | p::r,am=>lO r (am.set p.1 (dq p.2))
def wS (ws:List Int) (π:List Nat):Int:=(π.map fun i=>ws.getD i 0).sum
theorem mZ (ws:List Int) (i:Nat) (π:List Nat):wS ws (i::π)=ws.getD i 0+wS ws π:=by unfold wS;rw [List.map_cons,List.sum_cons]
theorem aX {l:List Int} {i:Nat} (h:i < l.length):l[i]?=some (l.getD i 0):=by rw [List.getD_eq_getElem?_getD,List.getElem?_eq_getElem h];rfl
theorem zLc {i:Nat} {k e:Ev} {ρ:Rho} {ds:List D} {d:D} {j:Nat} (h1:e ρ=.ok d) (h2:ρ[i]?=some (.own ds)) (h3:k ρ=.ok (.int (j:Int))) (h4:j < ds.length):zKO i k e ρ=.ok (.nx (ρ.set i (.own (ds.set j d)))):=by
 unfold zKO
 rw [h1]
 show (match ρ[i]? with | some (.own ds)=>_ | _=>_)=_
 rw [h2]
 show (k ρ).bind _=_
 rw [h3]
 exact if_pos ⟨Int.natCast_nonneg j,by omega⟩
theorem zJj {ds:List D} {d:D} {i:Nat} (h:i < ds.length):oIx (.lst (ds.set i d)) (.int (i:Int))=.ok d:=by
 have e:=oK (f:=id) (l:=ds.set i d) (i:=(i:Int)) (a:=d) (Int.natCast_nonneg i) (show (ds.set i d)[i]?=some d from List.getElem?_set_self h)
 rwa [List.map_id] at e
theorem Wt.at {ws cs:List Int} (h:Wt ws cs) {i:Nat} (hi:i < cs.length):1<=ws.getD i 0/\ws.getD i 0<=10^6:=by
 have:=aX (l:=ws) (i:=i) (by rw [h.len];exact hi)
 exact ⟨h.lo _ (List.mem_of_getElem? this),h.up _ (List.mem_of_getElem? this)⟩
theorem Wt.sum {ws cs:List Int} (h:Wt ws cs):∀ {π:List Nat},(∀ i∈π,i < cs.length)->(π.length:Int)<=wS ws π/\wS ws π<=π.length * 10^6
 | [],_=>⟨Int.le_refl _,Int.le_refl _⟩
 | i::π,hi=>by
  have a:=h.at (hi i List.mem_cons_self)
  have b:=h.sum fun j hj=>hi j (List.mem_cons_of_mem _ hj)
  rw [mZ,List.length_cons]
  omega
def Sq (d:D) (l:List Int):Prop:=d=.lst (l.map D.int)∨d=.tup (l.map D.int)
theorem Sq.ix {d:D} {l:List Int} (h:Sq d l) {i:Nat} (hi:i < l.length):oIx d (.int (i:Int))=.ok (.int (l.getD i 0)):=by
 rcases h with rfl | rfl
 ·exact oK (Int.natCast_nonneg i) (aX hi)
 ·exact zHb (Int.natCast_nonneg i) (aX hi)
theorem Sq.sum {d:D} {l:List Int} (h:Sq d l):tV [d]=.ok (.int l.sum):=by
 rcases h with rfl | rfl
 ·exact bSum_l
 ·exact bSum_t
theorem Sq.len {d:D} {l:List Int} (h:Sq d l):kQ [d]=.ok (.int l.length):=by
 rcases h with rfl | rfl
 ·rw [bLen_l,List.length_map]
 ·rw [bLen_t,List.length_map]
theorem Sq.seq {d:D} {l:List Int} (h:Sq d l):zFQ d=.ok (l.map D.int):=by
 rcases h with rfl | rfl<;>rfl
theorem Sq.seqo {d:D} {l:List Int} (h:Sq d l):pM d=some (l.map D.int):=by
 rcases h with rfl | rfl<;>rfl
theorem zCA {ws cs:List Int} {wd cd:D} (sw:Sq wd ws) (sc:Sq cd cs) {qv s7:Sl} {L:Rat} {W:Int} {i:Nat} {am:List D} (hW:Wt ws cs) (hc:∀ c∈cs,0<=c/\c < 10^30) {m:Nat} (hm:m<=3000) (hL:Sz (m+250) L) (W0:0 < W) (W1:W<=12 * 10^6) (hi:i < cs.length) (ha:am.length=cs.length) {a:Rat} (ea:mn (L * cR ws i / (W:Rat)) (cR cs i)=a):
  bB [.val wd,.val cd,qv,.val (dq L),.val (.int W),.own am,.val (.int (i:Nat)),s7]=
   .ok (.nx [.val wd,.val cd,qv,.val (dq (L - a)),.val (.int (W - ws.getD i 0)),.own (am.set i (dq a)),.val (.int (i:Nat)),.val (dq (L * cR ws i / (W:Rat)))]):=by
 have hiw:i < ws.length:=by rw [hW.len];exact hi
 obtain ⟨w1,w2⟩:=hW.at hi
 obtain ⟨c1,c2⟩:=hc _ (List.mem_of_getElem? (aX hi))
 have zW:Sz 24 (W:Rat):=bZ (by omega) (by decide)
 have zw:Sz 20 (cR ws i):=bZ (by omega) (by decide)
 have zc:Sz (m+294) (cR cs i):=Sz.mono (m:=100) (bZ (by omega) (by decide)) (by omega)
 have nW:(W:Rat)≠0:=by
  intro z
  have:W=0:=by exact_mod_cast z
  omega
 have fw:bG [.int (ws.getD i 0)]=.ok (.v (dq (cR ws i))):=bX _
 have fc:bG [.int (cs.getD i 0)]=.ok (.v (dq (cR cs i))):=bX _
 have zx:Sz (m+294) (L * cR ws i / (W:Rat)):=((hL.mul zw).div zW nW).mono (by omega)
 walk_at "ev"
 rw [sw.ix hiw]
 walk_at "ev"
 rw [fw]
 walk_at "ev"
 rw [yK hL zw (by omega)]
 walk_at "ev"
 rw [bX]
 walk_at "ev"
 rw [zFG (hL.mul zw) zW nW (by omega)]
 walk_at "ev"
 rw [zLc (j:=i) (d:=dq a) (ds:=am) (by
  walk_at "ev"
  rw [sc.ix hi]
  walk_at "ev"
  rw [fc]
  walk_at "ev"
  rw [zG zx zc (by omega),ea]
  walk_at "ev") rfl rfl (by omega)]
 walk_at "ev"
 rw [zJj (by omega)]
 walk_at "ev"
 rw [gP hL (ea ▸ zGY zx zc) (by omega)]
 walk_at "ev"
 rw [sw.ix hiw]
 walk_at "ev"
theorem mT (ws:List Int):∀ π:List Nat,lQ (cR ws) π=(wS ws π:Rat)
 | []=>rfl
 | i::π=>by rw [bC,mT ws π,mZ,Rat.intCast_add];rfl
theorem uH {ws cs:List Int} {wd cd:D} (sw:Sq wd ws) (sc:Sq cd cs) {qv:Sl} {r:Rat} {m:Nat} (hm:m<=3000) (hW:Wt ws cs) (hc:∀ c∈cs,0<=c/\c < 10^30) (hr:Sz (m+150) r):∀ (π:List Nat) (am:List D) (s6 s7:Sl),(∀ i∈π,i < cs.length)->(∀ i∈π,cR ws i * r<=cR cs i)->π.length<=12->am.length=cs.length->
  ∃ l' W' s' t',loop (gName 6) bB (dZ π) [.val wd,.val cd,qv,.val (dq (r * (wS ws π:Rat))),.val (.int (wS ws π)),.own am,s6,s7]=
   .ok (.nx [.val wd,.val cd,qv,l',W',.own (lO (π.map fun i=>(i,cR ws i * r)) am),s',t'])
 | [],am,s6,s7,_,_,_,_=>⟨_,_,_,_,rfl⟩
 | i::π,am,s6,s7,h1,h2,h4,h5=>by
  have hi:=h1 i List.mem_cons_self
  obtain ⟨W1,W2⟩:=hW.sum h1
  rw [List.length_cons] at h4 W1 W2
  have zW:Sz 24 (wS ws (i::π):Rat):=bZ (by omega) (by decide)
  have nW:(wS ws (i::π):Rat)≠0:=by
   intro z
   have:wS ws (i::π)=0:=by exact_mod_cast z
   omega
  have e1:wS ws (i::π) - ws.getD i 0=wS ws π:=by rw [mZ];omega
  have e2:r * (wS ws (i::π):Rat) - cR ws i * r=r * (wS ws π:Rat):=by
   rw [mZ,Rat.intCast_add]
   show r * (cR ws i+(wS ws π:Rat)) - cR ws i * r=_
   grind
  have tn:=zCA sw sc (qv:=qv) (s7:=s7) (W:=wS ws (i::π)) (am:=am) hW hc hm ((hr.mul zW).mono (by omega)) (by omega) (by omega) hi h5 (zDA nW (h2 i List.mem_cons_self))
  rw [e1,e2] at tn
  obtain ⟨l',W',s',t',e⟩:=uH sw sc hm hW hc hr π (am.set i (dq (cR ws i * r))) _ _ (fun j hj=>h1 j (List.mem_cons_of_mem _ hj)) (fun j hj=>h2 j (List.mem_cons_of_mem _ hj)) (by omega) (by rw [List.length_set];exact h5)
  refine ⟨l',W',s',t',?_⟩
  show loop _ _ (.int (i:Nat)::dZ π) _=_
  rw [fA rfl tn,e]
  rfl
theorem uB {ws cs:List Int} {wd cd:D} (sw:Sq wd ws) (sc:Sq cd cs) {qv:Sl} {q:Rat} {m:Nat} (hm:m<=3000) (hW:Wt ws cs) (hc:∀ c∈cs,0<=c/\c < 10^30) (hq:Sz m q):∀ (π:List Nat) (k:Int) (b:Rat) (am:List D) (s6 s7:Sl),(∀ i∈π,i < cs.length)->π.Pairwise (fun i j=>cR cs i * cR ws j<=cR cs j * cR ws i)->π.length<=12->am.length=cs.length->
  0<=k->k+π.length * 10^30 < 2^110->0<=q - (k:Rat)->q - (k:Rat)<=lQ (cR cs) π->b * (wS ws π:Rat)<=q - (k:Rat)->
  ∃ t,b<=t/\lQ (fQ (cR cs) (cR ws) t) π=q - (k:Rat)/\(∀ i∈π,Sz (m+155) (fQ (cR cs) (cR ws) t i))/\∃ l' W' s' t',loop (gName 6) bB (dZ π) [.val wd,.val cd,qv,.val (dq (q - (k:Rat))),.val (.int (wS ws π)),.own am,s6,s7]=
   .ok (.nx [.val wd,.val cd,qv,l',W',.own (lO (π.map fun i=>(i,fQ (cR cs) (cR ws) t i)) am),s',t'])
 | [],k,b,am,s6,s7,_,_,_,_,_,_,h6,h7,_=>⟨b,Rat.le_refl,by rw [nZ] at h7 ⊢;grind,fun i h=>by (cases h),_,_,_,_,rfl⟩
 | i::π,k,b,am,s6,s7,h1,h2,h3,h4,h5,h5',h6,h7,h8=>by
  have hi:=h1 i List.mem_cons_self
  have h1':∀ j∈π,j < cs.length:=fun j hj=>h1 j (List.mem_cons_of_mem _ hj)
  obtain ⟨W1,W2⟩:=hW.sum h1
  obtain ⟨V1,V2⟩:=hW.sum h1'
  obtain ⟨w1,w2⟩:=hW.at hi
  obtain ⟨c1,c2⟩:=hc _ (List.mem_of_getElem? (aX hi))
  obtain ⟨p1,p2⟩:=List.pairwise_cons.mp h2
  rw [List.length_cons] at h3 h5' W1 W2
  have ek:((π.length+1:Nat):Int) * 10^30=(π.length:Int) * 10^30+10^30:=by rw [Int.natCast_add,Int.add_mul];rfl
  have k0:0<=(π.length:Int) * 10^30:=Int.mul_nonneg (by omega) (by decide)
  have zW:Sz 24 (wS ws (i::π):Rat):=bZ (by omega) (by decide)
  have zk:Sz 110 (k:Rat):=bZ (by omega) (by decide)
  have zL:Sz (m+111) (q - (k:Rat)):=(hq.sub zk).mono (by omega)
  have pW:(0:Rat) < (wS ws (i::π):Rat):=by exact_mod_cast (show 0 < wS ws (i::π) by omega)
  have nW:(wS ws (i::π):Rat)≠0:=fun z=>by rw [z] at pW;exact absurd pW (by decide)
  have pw:∀ j,j < cs.length->0 < cR ws j:=fun j hj=>by
   have:=(hW.at hj).1
   unfold cR
   exact_mod_cast (show 0 < ws.getD j 0 by omega)
  have e1:wS ws (i::π) - ws.getD i 0=wS ws π:=by rw [mZ];omega
  have eW:(wS ws (i::π):Rat)=cR ws i+(wS ws π:Rat):=by rw [mZ,Rat.intCast_add];rfl
  have pV:(0:Rat)<=(wS ws π:Rat):=by exact_mod_cast (show 0<=wS ws π by omega)
  generalize hL:q - (k:Rat)=L at h6 h7 h8 zL ⊢
  have loop1:∀ {a:Rat} {l' W' s' t':Sl} {am':List D},mn (L * cR ws i / (wS ws (i::π):Rat)) (cR cs i)=a->loop (gName 6) bB (dZ π) [.val wd,.val cd,qv,.val (dq (L - a)),.val (.int (wS ws π)),.own (am.set i (dq a)),.val (.int (i:Nat)),.val (dq (L * cR ws i / (wS ws (i::π):Rat)))]=.ok (.nx [.val wd,.val cd,qv,l',W',.own am',s',t'])->
    loop (gName 6) bB (dZ (i::π)) [.val wd,.val cd,qv,.val (dq L),.val (.int (wS ws (i::π))),.own am,s6,s7]=.ok (.nx [.val wd,.val cd,qv,l',W',.own am',s',t']):=fun {a l' W' s' t' am'} ea e=>by
   have tn:=zCA sw sc (qv:=qv) (s7:=s7) (W:=wS ws (i::π)) (am:=am) hW hc hm (zL.mono (by omega)) (by omega) (by omega) hi h4 ea
   rw [e1] at tn
   show loop _ _ (.int (i:Nat)::dZ π) _=_
   rw [fA rfl tn]
   exact e
  by_cases hx:L * cR ws i / (wS ws (i::π):Rat) < cR cs i
  ·obtain ⟨x1,x2⟩:=zDH pW hx
   generalize hr:L / (wS ws (i::π):Rat)=r at x1 x2
   have zr:Sz (m+135) r:=hr ▸ (zL.div zW nW).mono (by omega)
   have eL:L=r * (wS ws (i::π):Rat):=by rw [<-hr,Rat.div_mul_cancel nW]
   have wr:cR ws i * r<=cR cs i:=by
    have e:L * cR ws i / (wS ws (i::π):Rat)=cR ws i * r:=by rw [<-hr];grind
    rw [e] at hx;exact Rat.le_of_lt hx
   have later:∀ j∈π,cR ws j * r<=cR cs j:=fun j hj=>zBo (pw i hi) (pw j (h1' j hj)) (p1 j hj) wr
   have gj:∀ j∈i::π,fQ (cR cs) (cR ws) r j=cR ws j * r:=fun j hj=>by
    have:cR ws j * r<=cR cs j:=by
     rcases List.mem_cons.mp hj with rfl | hj
     ·exact wr
     ·exact later j hj
    unfold fQ mn
    grind
   have e2:L - cR ws i * r=r * (wS ws π:Rat):=by rw [eL,eW];grind
   obtain ⟨l',W',s',t',e⟩:=uH sw sc (qv:=qv) hm hW hc (zr.mono (by omega)) π (am.set i (dq (cR ws i * r))) (.val (.int (i:Nat))) (.val (dq (L * cR ws i / (wS ws (i::π):Rat)))) h1' later (by omega) (by rw [List.length_set];exact h4)
   refine ⟨r,Rat.le_of_mul_le_mul_right (by rw [<-eL];exact h8) pW,?_,fun j hj=>?_,l',W',s',t',loop1 (a:=cR ws i * r) (x1.trans x2) ?_⟩
   ·rw [rB gj,gG,mT,<-eL]
   ·rw [gj j hj]
    have v:=hW.at (h1 j hj)
    exact (Sz.mul (m:=20) (n:=m+135) (bZ (by omega) (by decide)) zr).mono (by omega)
   ·rw [e2,e,List.map_cons,lO,gj i List.mem_cons_self]
    rw [List.map_congr_left (g:=fun j=>(j,fQ (cR cs) (cR ws) r j)) fun j hj=>by rw [gj j (List.mem_cons_of_mem _ hj)]]
  ·have ea:mn (L * cR ws i / (wS ws (i::π):Rat)) (cR cs i)=cR cs i:=if_neg hx
   obtain ⟨b',g1,g2,g3⟩:=zAZ (pw i hi) hx pW h8
   have ek2:q - ((k+cs.getD i 0:Int):Rat)=L - cR cs i:=by rw [Rat.intCast_add,<-hL];show q - ((k:Rat)+cR cs i)=_;grind
   have c0:0<=cR cs i:=by unfold cR;exact_mod_cast c1
   have cL:cR cs i<=L:=by
    have y:=Rat.mul_le_mul_of_nonneg_right (Rat.not_lt.mp hx) (Rat.le_of_lt pW)
    rw [Rat.div_mul_cancel nW] at y
    have y2:L * cR ws i<=L * (wS ws (i::π):Rat):=Rat.mul_le_mul_of_nonneg_left (by rw [eW];grind) h6
    exact Rat.le_of_mul_le_mul_right (Rat.le_trans y y2) pW
   rw [bC] at h7
   have g3':b' * (wS ws π:Rat)<=L - cR cs i:=by
    rw [eW] at g3
    have:cR ws i+(wS ws π:Rat) - cR ws i=(wS ws π:Rat):=by grind
    rw [this] at g3;exact g3
   obtain ⟨t,t1,t2,tz,l',W',s',t',e⟩:=uB sw sc (qv:=qv) hm hW hc hq π (k+cs.getD i 0) b' (am.set i (dq (cR cs i))) (.val (.int (i:Nat))) (.val (dq (L * cR ws i / (wS ws (i::π):Rat)))) h1' p2 (by omega) (by rw [List.length_set];exact h4) (by omega) (by omega) (by rw [ek2];grind) (by rw [ek2];grind) (by rw [ek2];exact g3')
   have gi:fQ (cR cs) (cR ws) t i=cR cs i:=by
    have:=Rat.mul_le_mul_of_nonneg_left t1 (Rat.le_of_lt (pw i hi))
    unfold fQ mn
    grind
   rw [ek2] at e t2
   refine ⟨t,Rat.le_trans g1 t1,?_,fun j hj=>?_,l',W',s',t',loop1 ea ?_⟩
   ·rw [bC,gi,t2];grind
   ·rcases List.mem_cons.mp hj with rfl | hj
    ·rw [gi];exact Sz.mono (m:=100) (bZ (by omega) (by decide)) (by omega)
    ·exact tz j hj
   ·rw [e,List.map_cons,lO,gi]
theorem rH {g:Nat->Rat}:∀ (π:List Nat) (am:List D) (j:Nat),(lO (π.map fun i=>(i,g i)) am)[j]?=if j∈π then (if j < am.length then some (dq (g j)) else none) else am[j]?
 | [],am,j=>by simp [lO]
 | i::π,am,j=>by
  rw [List.map_cons,lO,rH π,List.length_set]
  by_cases h1:j∈π
  ·rw [if_pos h1,if_pos (List.mem_cons_of_mem _ h1)]
  ·rw [if_neg h1]
   by_cases h2:j=i
   ·subst h2
    rw [if_pos List.mem_cons_self]
    by_cases h3:j < am.length
    ·rw [if_pos h3];exact List.getElem?_set_self h3
    ·rw [if_neg h3,List.getElem?_eq_none (by rw [List.length_set];omega)]
   ·rw [if_neg (by simp [h1,h2]),List.getElem?_set_ne (fun z=>h2 z.symm)]
theorem zAG {g:Nat->Rat} {π:List Nat} {n:Nat} (h:π.Perm (List.range n)):lO (π.map fun i=>(i,g i)) (List.replicate n (dq 0))=((List.range n).map g).map dq:=by
 refine List.ext_getElem? fun j=>?_
 rw [rH,List.getElem?_map,List.getElem?_map,List.length_replicate]
 by_cases hj:j < n
 ·rw [if_pos (h.mem_iff.mpr (List.mem_range.mpr hj)),if_pos hj,List.getElem?_range hj];rfl
 ·rw [if_neg (fun z=>hj (List.mem_range.mp (h.mem_iff.mp z))),List.getElem?_eq_none (by rw [List.length_replicate];omega),List.getElem?_eq_none (by rw [List.length_range];omega)];rfl
theorem zBM (kz:List Int):∃ π,dX kz π:=⟨_,gJ kz⟩
theorem zHx {fs:Fv} {kf:List D->Res (List Int)} {g:Gv} {b r:Sv} {ρ:Rho} {kz:List Int} {x:Res Fl} (h1:(fs ρ).bind kf=.ok kz) (h:∀ π,dX kz π->bP (fun ρ=>loop g b (dZ π) ρ) r ρ=x):zEM fs kf g b r ρ=x:=by
 obtain ⟨π,hπ⟩:=zBM kz
 unfold zEM
 rw [h1]
 exact zAH hπ h
def jF:List Rat->Int
 | []=>1
 | x::r=>x.den * jF r
def zAC (B:Int) (x:Rat):Int:=x.num * B.fdiv x.den
theorem zD:∀ {l:List Rat} {x:Rat},x∈l->(x.den:Int) ∣ jF l
 | y::r,x,h=>by
  rcases List.mem_cons.mp h with rfl | h
  ·exact ⟨jF r,rfl⟩
  ·exact Int.dvd_trans (zD h) ⟨y.den,Int.mul_comm _ _⟩
theorem rW:∀ l:List Rat,0 < jF l
 | []=>by decide
 | x::r=>Int.mul_pos (bI x) (rW r)
theorem zFD {l:List Rat} {x:Rat} (h:x∈l):((zAC (jF l) x:Int):Rat)=x * (jF l:Rat):=by
 obtain ⟨k,hk⟩:=zD h
 have d0:=bI x
 unfold zAC
 rw [fdiv_pos _ d0,hk,Int.mul_ediv_cancel_left _ (by omega),Rat.intCast_mul,Rat.intCast_mul]
 have e:x * ((x.den:Int):Rat)=(x.num:Rat):=by
  have h1:=Rat.num_divInt_den x
  rw [Rat.divInt_eq_div] at h1
  have h2:((x.den:Int):Rat)≠0:=fun z=>by
   have:(x.den:Int)=0:=by exact_mod_cast z
   omega
  rw [<-Rat.div_mul_cancel (a:=(x.num:Rat)) h2,h1]
 rw [<-e]
 grind
theorem wF {a:Sl}:∀ (l:List Rat) (B:Int) (s:Sl) (m:Nat),(∀ x∈l,(x.den:Int)<=10^6)->B.natAbs < 2^m->m+20 * l.length<=1000->
  ∃ s',loop (gName 2) lT (l.map dq) [a,.val (.int B),s]=.ok (.nx [a,.val (.int (B * jF l)),s'])/\(B * jF l).natAbs < 2^(m+20 * l.length)
 | [],B,s,m,_,h2,_=>⟨s,by rw [List.map_nil,loop,jF,Int.mul_one],by rw [jF,Int.mul_one];exact h2⟩
 | x::r,B,s,m,h1,h2,h3=>by
  have d1:=h1 x List.mem_cons_self
  have d0:=bI x
  rw [List.length_cons] at h3
  have hx:((x.den:Int)).natAbs < 2^20:=by omega
  obtain ⟨s',e,hb⟩:=wF r (B * x.den) (.val (dq x)) (m+20) (fun y hy=>h1 y (List.mem_cons_of_mem _ hy)) (eM h2 hx) (by omega)
  have ed:B * jF (x::r)=B * x.den * jF r:=by rw [jF,Int.mul_assoc]
  refine ⟨s',?_,by rw [ed,List.length_cons,show m+20 * (r.length+1)=m+20+20 * r.length by omega];exact hb⟩
  rw [ed,<-e,List.map_cons]
  refine fA (ρ1:=[a,.val (.int B),.val (dq x)]) rfl ?_
  walk_at "ev"
  rw [oMul_i (bE (m:=m) (n:=20) h2 hx (by omega))]
  walk_at "ev"
theorem zAy {B:Int} (hB:B.natAbs < 2^1000):∀ {l:List Rat},(∀ x∈l,(x.den:Int)<=10^6/\Sz 500 x)->hZ B (l.map dq)=.ok (l.map (zAC B))
 | [],_=>rfl
 | x::r,h=>by
  obtain ⟨d1,z⟩:=h x List.mem_cons_self
  have d0:=bI x
  have e1:iL (x.den:Int)=true:=kL (m:=20) (by omega) (by omega) (by decide)
  have e2:fM x.num (B.fdiv x.den)=true:=by
   rw [fdiv_pos _ d0]
   refine bE (m:=500) (n:=1000) z.1 (Nat.lt_of_le_of_lt ?_ hB) (by decide)
   exact Int.natAbs_ediv_le_natAbs _ _
  have k1:zDk B (dq x)=.ok (zAC B x):=by
   show (if (iL (x.den:Int) && fM x.num (B.fdiv x.den))=true then Res.ok _ else .no)=_
   rw [e1,e2];rfl
  rw [List.map_cons,hZ,k1]
  show ((hZ B (r.map dq)).bind fun ks=>Res.ok (zAC B x::ks))=_
  rw [zAy hB fun y hy=>h y (List.mem_cons_of_mem _ hy)]
  rfl
theorem zAW {l:List Rat} (h:∀ x∈l,(x.den:Int)<=10^6/\Sz 500 x) (hl:l.length<=12):dF [.lst (l.map dq)]=.ok (l.map (zAC (jF l))):=by
 obtain ⟨s',e,hb⟩:=wF (a:=.val (.lst (l.map dq))) l 1 .un 1 (fun x hx=>(h x hx).1) (by decide) (by omega)
 rw [Int.one_mul] at e hb
 have r1:oY (start 3 [.lst (l.map dq)])=.ok (.nx [.val (.lst (l.map dq)),.val (.int 1),.un]):=rfl
 have r2:iQ [.val (.lst (l.map dq)),.val (.int 1),.un]=.ok (.nx [.val (.lst (l.map dq)),.val (.int (jF l)),s']):=by
  walk_at "ev"
  exact e
 unfold dF pS
 rw [if_pos (show [D.lst (l.map dq)].length=1 from rfl),r1]
 show (match iQ [.val (.lst (l.map dq)),.val (.int 1),.un] with | .ok (.nx ρ')=>uP ρ' | _=>.no)=_
 rw [r2]
 show (if (l.map dq).length < 64 then hZ (jF l) (l.map dq) else .no)=_
 rw [if_pos (by rw [List.length_map];omega)]
 exact zAy (Nat.lt_of_lt_of_le hb (Nat.pow_le_pow_right (by decide) (by omega))) h
def lvs (ws cs:List Int):List Rat:=(cs.zip ws).map fun p=>Rat.divInt p.1 p.2
theorem zCT {ws cs:List Int} (h:ws.length=cs.length):(lvs ws cs).length=cs.length:=by unfold lvs;rw [List.length_map,List.length_zip,h,Nat.min_self]
theorem zJJ {ws cs:List Int} {i:Nat} (h:ws.length=cs.length) (hi:i < cs.length):(lvs ws cs)[i]?=some (cR cs i / cR ws i):=by
 unfold lvs
 rw [List.getElem?_map]
 have:(cs.zip ws)[i]?=some (cs.getD i 0,ws.getD i 0):=by
  rw [List.getElem?_zip_eq_some]
  exact ⟨aX hi,aX (by omega)⟩
 rw [this]
 show some (Rat.divInt _ _)=_
 rw [Rat.divInt_eq_div]
 rfl
theorem zC {t b:Int} (hb:0 < b):((Rat.divInt t b).den:Int)<=b:=by
 have e:=zAh (t:=t) (b:=b) (by omega)
 have d0:0<=dv t b:=by unfold dv;rw [if_neg (by omega)];exact Int.natCast_nonneg _
 rw [<-e,zHo _ d0]
 exact Int.ediv_le_self _ (by omega)
theorem zID {ws cs:List Int} (hW:Wt ws cs) (hc:∀ c∈cs,0<=c/\c < 10^30):∀ x∈lvs ws cs,(x.den:Int)<=10^6/\Sz 500 x:=fun x hx=>by
 obtain ⟨p,hp,rfl⟩:=List.mem_map.mp hx
 obtain ⟨h1,h2⟩:=List.of_mem_zip hp
 have c:=hc _ h1
 have w1:=hW.lo _ h2
 have w2:=hW.up _ h2
 have d:=zC (t:=p.1) (b:=p.2) (by omega)
 exact ⟨by omega,Sz.of (by omega) (by omega) (by omega)⟩
theorem yX {ws cs:List Int} {wd cd:D} (sw:Sq wd ws) (sc:Sq cd cs) (hW:Wt ws cs) (hl:cs.length<=12):dL [wd,cd]=.ok (.f ((lvs ws cs).map dq)):=by
 have hw:=hW.len
 unfold dL
 walk_at "ev"
 rw [mW sc.seqo sw.seqo]
 walk_at "ev"
 rw [iV (u:=D.int) (v:=D.int) (g:=fun c w=>dq (Rat.divInt c w)) (by omega) (fun p hp=>by
  have h2:=(List.of_mem_zip hp).2
  have w1:=hW.lo _ h2
  have w2:=hW.up _ h2
  walk_at "ev"
  rw [vB (n:=20) (by omega) (by omega) (by decide)]
  walk_at "ev")]
 walk_at "ev"
 unfold lvs
 rw [List.map_map]
 rfl
theorem tM (ws:List Int):∀ n,n<=ws.length->wS ws (List.range n)=(ws.take n).sum
 | 0,_=>rfl
 | n+1,h=>by
  have e:wS ws (List.range n++[n])=wS ws (List.range n)+ws.getD n 0:=by unfold wS;rw [List.map_append,List.sum_append];simp
  rw [List.range_succ,e,tM ws n (by omega),List.take_succ,List.sum_append,aX (show n < ws.length by omega)]
  simp
theorem zBr {ws:List Int} {π:List Nat} (h:π.Perm (List.range ws.length)):wS ws π=ws.sum:=by
 have e:=mT ws π
 rw [uD h,mT,tM ws _ (Nat.le_refl _),List.take_length] at e
 have:=Rat.intCast_inj.mp e
 omega
theorem zKg {a b:Sv} {ρ ρ':Rho} (h:a ρ=.ok (.nx ρ')):bP a b ρ=b ρ':=by unfold bP;rw [h];rfl
def evs (ws cs:List Int) (t:Rat):List Rat:=(List.range cs.length).map (fQ (cR cs) (cR ws) t)
theorem nH {ws cs:List Int} {wd cd:D} (sw:Sq wd ws) (sc:Sq cd cs) {q:Rat} {m:Nat} (hmm:m<=3000) (hW:Wt ws cs) (hc:Cl cs) (hq:Sz m q) (h0:0<=q) (h1:q<=(cs.sum:Rat)):∃ t,0<=t/\bY [wd,cd,dq q]=.ok (.f ((evs ws cs t).map dq))/\(evs ws cs t).sum=q/\∀ i,i < cs.length->Sz (m+155) (fQ (cR cs) (cR ws) t i):=by
 have hcc:∀ c∈cs,0<=c/\c < 10^30:=fun c h=>⟨hc.nn c h,hc.up c h⟩
 have hi:=hc.hi
 have hw:=hW.len
 have hkr:=zAW (zID hW hcc) (by rw [zCT hw];exact hi)
 generalize hkz:(lvs ws cs).map (zAC (jF (lvs ws cs)))=kz at hkr
 have lz:kz.length=cs.length:=by rw [<-hkz,List.length_map,zCT hw]
 have pw:∀ j,j < cs.length->0 < cR ws j:=fun j hj=>by
  have:=(hW.at hj).1
  unfold cR
  exact_mod_cast (show 0 < ws.getD j 0 by omega)
 have one:∀ π,dX kz π->∃ t,0<=t/\lQ (fQ (cR cs) (cR ws) t) (List.range cs.length)=q/\(∀ i,i < cs.length->Sz (m+155) (fQ (cR cs) (cR ws) t i))/\bP (fun ρ=>loop (gName 6) bB (dZ π) ρ) fY [.val wd,.val cd,.val (dq q),.val (dq q),.val (.int ws.sum),.own (List.replicate cs.length (dq 0)),.un,.un]=.ok (.ret (.f ((evs ws cs t).map dq))):=by
  intro π hπ
  obtain ⟨hp,ho,_⟩:=hπ
  rw [lz] at hp
  have hm:∀ i∈π,i < cs.length:=fun i h=>List.mem_range.mp (hp.mem_iff.mp h)
  have hl:π.length=cs.length:=by rw [hp.length_eq,List.length_range]
  have B0:=rW (lvs ws cs)
  have B0':(0:Rat) < (jF (lvs ws cs):Rat):=by exact_mod_cast B0
  have kat:∀ i,i < cs.length->((kz.getD i 0:Int):Rat)=cR cs i / cR ws i * (jF (lvs ws cs):Rat):=fun i h=>by
   have e:=zJJ hw h
   have e2:kz.getD i 0=zAC (jF (lvs ws cs)) (cR cs i / cR ws i):=by rw [<-hkz,List.getD_eq_getElem?_getD,List.getElem?_map,e];rfl
   rw [e2]
   exact zFD (List.mem_of_getElem? e)
  have ord:π.Pairwise (fun i j=>cR cs i * cR ws j<=cR cs j * cR ws i):=by
   refine List.Pairwise.imp_of_mem (fun {i j} h1 h2 h3=>?_) ho
   have h4:((kz.getD i 0:Int):Rat)<=((kz.getD j 0:Int):Rat):=Rat.intCast_le_intCast.mpr h3
   rw [kat i (hm i h1),kat j (hm j h2)] at h4
   have h5:=Rat.le_of_mul_le_mul_right h4 B0'
   have wi:=pw i (hm i h1)
   have wj:=pw j (hm j h2)
   have h6:=Rat.mul_le_mul_of_nonneg_right h5 (Rat.le_of_lt (Rat.mul_pos wi wj))
   have e1:cR cs i / cR ws i * (cR ws i * cR ws j)=cR cs i * cR ws j:=by grind
   have e2:cR cs j / cR ws j * (cR ws i * cR ws j)=cR cs j * cR ws i:=by grind
   rwa [e1,e2] at h6
  have hW':wS ws π=ws.sum:=zBr (by rw [hw];exact hp)
  have hC':lQ (cR cs) π=(cs.sum:Rat):=by rw [mT,zBr hp]
  have z0:q - ((0:Int):Rat)=q:=by rw [show ((0:Int):Rat)=0 from rfl];grind
  obtain ⟨t,t1,t2,tz,l',W',s',t',e⟩:=uB sw sc (qv:=.val (dq q)) hmm hW hcc hq π 0 0 (List.replicate cs.length (dq 0)) .un .un hm ord (by omega) (by rw [List.length_replicate]) (by decide) (by rw [hl];omega) (by rw [z0];exact h0) (by rw [z0,hC'];exact h1) (by rw [z0];grind)
  rw [z0,hW'] at e
  rw [z0] at t2
  refine ⟨t,t1,by rw [<-uD hp];exact t2,fun i h=>tz i (hp.mem_iff.mpr (List.mem_range.mpr h)),?_⟩
  refine (zKg (a:=fun ρ=>loop (gName 6) bB (dZ π) ρ) e).trans ?_
  rw [zAG hp]
  rfl
 obtain ⟨π0,hπ0⟩:=zBM kz
 obtain ⟨t,t1,t2,tz,e0⟩:=one π0 hπ0
 have pw':∀ i∈List.range cs.length,0 < cR ws i:=fun i h=>pw i (List.mem_range.mp h)
 refine ⟨t,t1,?_,t2,tz⟩
 unfold bY
 walk_at "ev"
 rw [sw.sum]
 walk_at "ev"
 rw [sc.len]
 walk_at "ev"
 rw [zBs (by omega)]
 walk_at "ev"
 have hfs:Res.bind ((aB (eF (eQ dL (aB (aE 0) (aB (aE 1) aNil)))) aNil) [.val wd,.val cd,.val (dq q),.val (dq q),.val (.int ws.sum),.own (List.replicate cs.length (dq 0)),.un,.un]) dF=.ok kz:=by
  walk_at "ev"
  rw [yX sw sc hW hi]
  walk_at "ev"
  exact hkr
 have hall:∀ π,dX kz π->bP (fun ρ=>loop (gName 6) bB (dZ π) ρ) fY [.val wd,.val cd,.val (dq q),.val (dq q),.val (.int ws.sum),.own (List.replicate cs.length (dq 0)),.un,.un]=.ok (.ret (.f ((evs ws cs t).map dq))):=fun π hπ=>by
  obtain ⟨u,_,u2,_,eu⟩:=one π hπ
  rw [eu]
  unfold evs
  rw [List.map_congr_left (zU pw' (u2.trans t2.symm))]
 unfold jR
 rw [zHx hfs hall]
 rfl
def ones (cs:List Int):List Int:=List.replicate cs.length 1
theorem rM (cs:List Int):Wt (ones cs) cs:=⟨List.length_replicate,fun w h=>by rw [(List.mem_replicate.mp h).2];decide,fun w h=>by rw [(List.mem_replicate.mp h).2];decide⟩
def hf:Rat:=Rat.divInt 1 2
theorem zEO:hf=1 / 2:=by unfold hf;rw [Rat.divInt_eq_div];rfl
theorem zKW:d_HALF=dq hf:=zIr (b:=2) (by decide)
theorem zGD:Sz 2 hf:=Sz.of (by decide) (by decide) (by decide)
theorem dbl (q:Rat):q+q=q * ((2:Int):Rat):=by rw [show ((2:Int):Rat)=2 from rfl];grind
theorem zCE {q:Rat} {n:Nat} (h:Sz n q):Sz (n+2) (q+q):=by rw [dbl];exact h.mul (bZ (by decide) (by decide))
def hvs (cs:List Int) (t:Rat):List Rat:=(List.range cs.length).map fun i=>fQ (cR cs) (cR (ones cs)) t i * hf
structure Lvl (M:Nat) (ws cs:List Int) (q t:Rat):Prop where
 nn:0<=t
 sum:(evs ws cs t).sum=q
 sz:∀ i,i < cs.length->Sz M (fQ (cR cs) (cR ws) t i)
theorem uS {cs:List Int} {cd:D} (sc:Sq cd cs) {q:Rat} {m:Nat} (hm:m<=2990) (hc:Cl cs) (hq:Sz m q) (h0:0<=q) (h1:q+q<=(cs.sum:Rat)):∃ t,Lvl (m+157) (ones cs) cs (q+q) t/\cV [cd,dq q]=.ok (.f ((hvs cs t).map dq)):=by
 have hi:=hc.hi
 obtain ⟨t,t1,e,t2,tz⟩:=nH (wd:=.lst ((ones cs).map D.int)) (.inl rfl) sc (m:=m+2) (by omega) (rM cs) hc (zCE hq) (by grind) h1
 refine ⟨t,⟨t1,t2,fun i h=>(tz i h).mono (by omega)⟩,?_⟩
 have eo:(ones cs).map D.int=List.replicate cs.length (.int 1):=by unfold ones;rw [List.map_replicate]
 rw [eo] at e
 have hh:=zKW
 unfold d_HALF at hh
 unfold cV
 walk_at "ev"
 rw [sc.len]
 walk_at "ev"
 rw [zBs (by omega)]
 walk_at "ev"
 rw [zDG hq hq (by omega)]
 walk_at "ev"
 rw [e]
 walk_at "ev"
 rw [show (evs (ones cs) cs t).map dq=(List.range cs.length).map (fun i=>dq (fQ (cR cs) (cR (ones cs)) t i)) by unfold evs;rw [List.map_map];rfl]
 rw [jK (u:=fun i=>dq (fQ (cR cs) (cR (ones cs)) t i)) (g:=fun i=>dq (fQ (cR cs) (cR (ones cs)) t i * hf)) (by rw [List.length_range];omega) (fun i h=>by
  have hil:=List.mem_range.mp h
  walk_at "ev"
  rw [hh,yK (tz i hil) zGD (by omega)]
  walk_at "ev")]
 walk_at "ev"
 unfold hvs
 rw [List.map_map]
 rfl
theorem Lvl.mono {M M':Nat} {ws cs:List Int} {q t:Rat} (h:Lvl M ws cs q t) (l:M<=M'):Lvl M' ws cs q t:=⟨h.nn,h.sum,fun i hi=>(h.sz i hi).mono l⟩
theorem xH {w v:Str} (h:aT.lookup w=some v):bR [.str w]=.ok (.v .non):=by
 unfold bR
 walk_at "ev"
 rw [h]
 rfl
theorem oV {cs:List Int} {cd:D} (sc:Sq cd cs) (hc:Cl cs):cK [cd]=.ok (.v .non):=by
 have lo:=hc.lo
 unfold cK
 walk_at "ev"
 rw [sc.len]
 walk_at "ev"
 rw [decide_eq_false (by omega)]
 walk_at "ev"
 rw [sc.seq]
 walk_at "ev"
 refine yP (Q:=fun r=>r=(.ok (.v .non):Res Rt)) (fun ρ=>∃ a,ρ=[.val cd,a]) ⟨_,rfl⟩ ?_ ?_
 ·rintro e ρ he ⟨a,rfl⟩
  obtain ⟨c,h,rfl⟩:=List.mem_map.mp he
  have:=hc.nn c h
  refine ⟨_,?_,.val (.int c),rfl⟩
  walk_at "ev"
  rw [decide_eq_false (by omega)]
  walk_at "ev"
 ·rintro ρ ⟨a,rfl⟩
  rfl
theorem iG {q:Rat} {W:Int} {m:Nat} (hm:m<=3000) (h:Haul m q W) (hW:W.natAbs < 2^110):bF [dq q,dq (W:Rat)]=.ok (.v .non):=by
 have z0:Sz 1 (0:Rat):=⟨by decide,by decide⟩
 have zW:Sz 110 (W:Rat):=bZ hW (by decide)
 have n1:¬ q < 0:=Rat.not_lt.mpr h.nn
 have n2:¬ (W:Rat) < q:=Rat.not_lt.mpr h.up
 have io:eD [dq q,dq (W:Rat)]=.ok (.v (.bl false)):=by
  unfold eD
  walk_at "ev"
  rw [wK h.sz z0 (by omega),decide_eq_false n1]
  walk_at "ev"
  rw [wK zW h.sz (by omega),decide_eq_false n2]
  walk_at "ev"
 unfold bF
 walk_at "ev"
 rw [io]
 walk_at "ev"
theorem iT {α β:Type} (l:List α) (f:Nat->β) (d:α):l.zip ((List.range l.length).map f)=(List.range l.length).map fun i=>(l.getD i d,f i):=by
 refine List.ext_getElem? fun i=>?_
 rw [List.getElem?_map]
 by_cases h:i < l.length
 ·rw [List.getElem?_range h]
  refine List.getElem?_zip_eq_some.mpr ⟨?_,by rw [List.getElem?_map,List.getElem?_range h];rfl⟩
  show l[i]?=some (l.getD i d)
  rw [List.getD_eq_getElem?_getD,List.getElem?_eq_getElem h];rfl
 ·rw [List.getElem?_eq_none (by rw [List.length_zip];omega),List.getElem?_eq_none (by rw [List.length_range];omega)];rfl
theorem fN {w:Str} {d:D} {n:Int} (hd:d=.lst []∨d=.tup []) (hw:oIn (.str w) d_WEIGHTED=.ok (.bl false)):aR [.str w,d,.int n]=.ok (.v .non):=by
 have sq:zFQ d=.ok []:=by rcases hd with rfl | rfl<;>rfl
 have ln:kQ [d]=.ok (.int 0):=by rcases hd with rfl | rfl<;>rfl
 unfold d_WEIGHTED at hw
 unfold aR
 walk_at "ev"
 rw [hw]
 walk_at "ev"
 rw [ln]
 walk_at "ev"
 rw [sq]
 rfl
theorem zMU:nQ 10 6=true:=by decide
theorem kZ {w:Str} {ws cs:List Int} {wd:D} (sw:Sq wd ws) (hW:Wt ws cs) (hw:oIn (.str w) d_WEIGHTED=.ok (.bl true)):aR [.str w,wd,.int cs.length]=.ok (.v .non):=by
 have hl:=hW.len
 unfold d_WEIGHTED at hw
 unfold aR
 walk_at "ev"
 rw [hw]
 walk_at "ev"
 rw [sw.len]
 walk_at "ev"
 rw [hl,decide_eq_true rfl]
 walk_at "ev"
 rw [sw.seq]
 walk_at "ev"
 refine yP (Q:=fun r=>r=(.ok (.v .non):Res Rt)) (fun ρ=>∃ a,ρ=[.val (.str w),.val wd,.val (.int cs.length),.val (.int cs.length),a]) ⟨_,rfl⟩ ?_ ?_
 ·rintro e ρ he ⟨a,rfl⟩
  obtain ⟨c,h,rfl⟩:=List.mem_map.mp he
  have h1:=hW.lo c h
  have h2:=hW.up c h
  refine ⟨_,?_,.val (.int c),rfl⟩
  walk_at "ev"
  rw [decide_eq_false (by omega)]
  walk_at "ev"
  rw [oPow_i zMU]
  walk_at "ev"
  rw [decide_eq_false (by omega)]
  walk_at "ev"
 ·rintro ρ ⟨a,rfl⟩
  rfl
theorem zMP:(Str.ofString "even" == Str.ofString "row")=false:=by decide
theorem zME:(Str.ofString "lack" == Str.ofString "row")=false:=by decide
theorem zMo:(Str.ofString "lack" == Str.ofString "even")=false:=by decide
theorem zMi:(Str.ofString "lack" == Str.ofString "part")=false:=by decide
theorem zMx:(Str.ofString "lack" == Str.ofString "half")=false:=by decide
theorem zEC:(aT.lookup (Str.ofString "even"))=some (Str.ofString "lack"):=by decide
theorem zAq:(aT.lookup (Str.ofString "lack"))=some (Str.ofString "even"):=by decide
theorem zFX {n:Nat} {ws cs:List Int} {wd cd:D} (sw:Sq wd ws) (sc:Sq cd cs) {q:Rat} {m:Nat} (hm:m<=3000) (hW:Wt ws cs) (hc:Cl cs) (hq:Sz m q) (h0:0<=q) (h1:q<=(cs.sum:Rat)):∃ t,Lvl (m+155) ws cs q t/\aJ (n+1) [.str (Str.ofString "even"),wd,cd,dq q]=.ok (.f ((evs ws cs t).map dq)):=by
 obtain ⟨t,t1,e,t2,tz⟩:=nH sw sc hm hW hc hq h0 h1
 refine ⟨t,⟨t1,t2,tz⟩,?_⟩
 show aM (aJ n) _=_
 unfold aM
 walk_at "ev"
 rw [sc.sum]
 walk_at "ev"
 rw [bX]
 walk_at "ev"
 rw [zMP]
 walk_at "ev"
 rw [e]
 walk_at "ev"
def lks (ws cs:List Int) (t:Rat):List Rat:=(cs.zip (evs ws cs t)).map fun p=>(p.1:Rat) - p.2
theorem zIZ (ws cs:List Int) (t:Rat):lks ws cs t=(List.range cs.length).map fun i=>cR cs i - fQ (cR cs) (cR ws) t i:=by
 unfold lks evs
 rw [iT cs _ 0,List.map_map]
 rfl
theorem zJb {n:Nat} {ws cs:List Int} {wd cd:D} (sw:Sq wd ws) (sc:Sq cd cs) {q:Rat} {m:Nat} (hm:m<=2890) (hW:Wt ws cs) (hc:Cl cs) (hq:Haul m q cs.sum):∃ t,Lvl (m+261) ws cs ((cs.sum:Rat) - q) t/\aJ (n+2) [.str (Str.ofString "lack"),wd,cd,dq q]=.ok (.f ((lks ws cs t).map dq)):=by
 have sm:=hc.sum
 have hi:=hc.hi
 have zW:Sz 105 (cs.sum:Rat):=bZ (by omega) (by decide)
 have zT:Sz (m+106) ((cs.sum:Rat) - q):=(zW.sub hq.sz).mono (by omega)
 have u:=hq.up
 have u':=hq.nn
 obtain ⟨t,tl,e⟩:=zFX sw sc (n:=n) (m:=m+106) (by omega) hW hc zT (by grind) (by grind)
 refine ⟨t,tl,?_⟩
 show aM (aJ (n+1)) _=_
 unfold aM
 walk_at "ev"
 rw [sc.sum]
 walk_at "ev"
 rw [bX]
 walk_at "ev"
 rw [zME]
 walk_at "ev"
 rw [zMo]
 walk_at "ev"
 rw [zMi]
 walk_at "ev"
 rw [zMx]
 walk_at "ev"
 rw [show wH aT (.str (Str.ofString "lack"))=.ok (.str (Str.ofString "even")) by show zKr (aT.lookup (Str.ofString "lack"))=_;rw [zAq];rfl]
 walk_at "ev"
 rw [gP zW hq.sz (by omega)]
 walk_at "ev"
 rw [e]
 walk_at "ev"
 rw [mW sc.seqo rfl]
 walk_at "ev"
 rw [iV (u:=D.int) (v:=dq) (g:=fun c l=>dq ((c:Rat) - l)) (by omega) (fun p hp=>by
  have hp':=hp
  unfold evs at hp'
  rw [iT cs _ 0] at hp'
  obtain ⟨i,hir,rfl⟩:=List.mem_map.mp hp'
  have hil:=List.mem_range.mp hir
  have c1:=hc.nn _ (List.mem_of_getElem? (aX hil))
  have c2:=hc.up _ (List.mem_of_getElem? (aX hil))
  walk_at "ev"
  rw [bX]
  walk_at "ev"
  rw [gP (m:=100) (n:=m+261) (bZ (by omega) (by decide)) (tl.sz i hil) (by omega)]
  walk_at "ev")]
 walk_at "ev"
 unfold lks
 rw [List.map_map]
 rfl
theorem zMb:(Str.ofString "half" == Str.ofString "row")=false:=by decide
theorem zMe:(Str.ofString "half" == Str.ofString "even")=false:=by decide
theorem zLX:(Str.ofString "half" == Str.ofString "part")=false:=by decide
theorem zR:(aT.lookup (Str.ofString "half"))=some (Str.ofString "half"):=by decide
theorem zDn {n:Nat} {e:D} {cs:List Int} {cd:D} (sc:Sq cd cs) {q:Rat} {m:Nat} (hm:m<=2990) (hc:Cl cs) (hq:Sz m q) (h0:0<=q) (h1:q+q<=(cs.sum:Rat)):∃ t,Lvl (m+157) (ones cs) cs (q+q) t/\aJ (n+1) [.str (Str.ofString "half"),e,cd,dq q]=.ok (.f ((hvs cs t).map dq)):=by
 have sm:=hc.sum
 have zW:Sz 105 (cs.sum:Rat):=bZ (by omega) (by decide)
 obtain ⟨t,tl,ee⟩:=uS sc hm hc hq h0 h1
 refine ⟨t,tl,?_⟩
 show aM (aJ n) _=_
 unfold aM
 walk_at "ev"
 rw [sc.sum]
 walk_at "ev"
 rw [bX]
 walk_at "ev"
 rw [zMb]
 walk_at "ev"
 rw [zMe]
 walk_at "ev"
 rw [zLX]
 walk_at "ev"
 rw [zDG hq hq (by omega)]
 walk_at "ev"
 rw [wK zW (zCE hq) (by omega),decide_eq_false (Rat.not_lt.mpr h1)]
 walk_at "ev"
 rw [ee]
 walk_at "ev"
def lhs (cs:List Int) (t:Rat):List Rat:=(List.range cs.length).map fun i=>cR cs i - fQ (cR cs) (cR (ones cs)) t i * hf
theorem zHU {n:Nat} {e:D} {cs:List Int} {cd:D} (sc:Sq cd cs) {q:Rat} {m:Nat} (hm:m<=2880) (hc:Cl cs) (hq:Haul m q cs.sum) (h1:(cs.sum:Rat) < q+q):∃ t,Lvl (m+263) (ones cs) cs (((cs.sum:Rat) - q)+((cs.sum:Rat) - q)) t/\aJ (n+2) [.str (Str.ofString "half"),e,cd,dq q]=.ok (.f ((lhs cs t).map dq)):=by
 have sm:=hc.sum
 have hi:=hc.hi
 have zW:Sz 105 (cs.sum:Rat):=bZ (by omega) (by decide)
 have zT:Sz (m+106) ((cs.sum:Rat) - q):=(zW.sub hq.sz).mono (by omega)
 have u:=hq.up
 obtain ⟨t,tl,ee⟩:=zDn sc (n:=n) (e:=e) (m:=m+106) (by omega) hc zT (by grind) (by grind)
 refine ⟨t,tl,?_⟩
 show aM (aJ (n+1)) _=_
 unfold aM
 walk_at "ev"
 rw [sc.sum]
 walk_at "ev"
 rw [bX]
 walk_at "ev"
 rw [zMb]
 walk_at "ev"
 rw [zMe]
 walk_at "ev"
 rw [zLX]
 walk_at "ev"
 rw [zDG hq.sz hq.sz (by omega)]
 walk_at "ev"
 rw [wK zW (zCE hq.sz) (by omega),decide_eq_true h1]
 walk_at "ev"
 rw [show wH aT (.str (Str.ofString "half"))=.ok (.str (Str.ofString "half")) by show zKr (aT.lookup (Str.ofString "half"))=_;rw [zR];rfl]
 walk_at "ev"
 rw [gP zW hq.sz (by omega)]
 walk_at "ev"
 rw [ee]
 walk_at "ev"
 rw [mW sc.seqo rfl]
 walk_at "ev"
 rw [iV (u:=D.int) (v:=dq) (g:=fun c l=>dq ((c:Rat) - l)) (by omega) (fun p hp=>by
  have hp':=hp
  unfold hvs at hp'
  rw [iT cs _ 0] at hp'
  obtain ⟨i,hir,rfl⟩:=List.mem_map.mp hp'
  have hil:=List.mem_range.mp hir
  have c1:=hc.nn _ (List.mem_of_getElem? (aX hil))
  have c2:=hc.up _ (List.mem_of_getElem? (aX hil))
  walk_at "ev"
  rw [bX]
  walk_at "ev"
  rw [gP (m:=100) (n:=m+263+2) (bZ (by omega) (by decide)) ((tl.sz i hil).mul zGD) (by omega)]
  walk_at "ev")]
 walk_at "ev"
 unfold hvs lhs
 rw [iT cs _ 0,List.map_map,List.map_map]
 rfl
theorem zMr:(Str.ofString "back" == Str.ofString "row")=false:=by decide
theorem zMp:(Str.ofString "back" == Str.ofString "even")=false:=by decide
theorem zML:(Str.ofString "back" == Str.ofString "part")=false:=by decide
theorem zMw:(Str.ofString "back" == Str.ofString "half")=false:=by decide
theorem zMG:(Str.ofString "part" == Str.ofString "row")=false:=by decide
theorem zMk:(Str.ofString "part" == Str.ofString "even")=false:=by decide
theorem zHy:(aT.lookup (Str.ofString "row"))=some (Str.ofString "back"):=by decide
theorem zAj:(aT.lookup (Str.ofString "back"))=some (Str.ofString "row"):=by decide
theorem zFb:(aT.lookup (Str.ofString "part"))=some (Str.ofString "part"):=by decide
theorem zIF {n:Nat} {d e:D} {cs:List Int} {q:Rat} (hd:d=.lst (cs.map D.int)∨d=.tup (cs.map D.int)) {m:Nat} (hm:m<=3000) (hc:Cl cs) (hq:Sz m q) (h0:0<=q):aJ (n+1) [.str (Str.ofString "row"),e,d,dq q]=.ok (.f ((fG cs 0 q).map dq)):=by
 have su:tV [d]=.ok (.int cs.sum):=by rcases hd with rfl | rfl;exact bSum_l;exact bSum_t
 show aM (aJ n) _=_
 unfold aM
 walk_at "ev"
 rw [su]
 walk_at "ev"
 rw [bX]
 walk_at "ev"
 rw [yF hd hm hc hq h0]
 walk_at "ev"
theorem zIT {n:Nat} {d e:D} {cs:List Int} {q:Rat} (hd:d=.lst (cs.map D.int)∨d=.tup (cs.map D.int)) {m:Nat} (hm:m<=3000) (hc:Cl cs) (hq:Sz m q):aJ (n+1) [.str (Str.ofString "part"),e,d,dq q]=.ok (.f ((sG cs q).map dq)):=by
 have su:tV [d]=.ok (.int cs.sum):=by rcases hd with rfl | rfl;exact bSum_l;exact bSum_t
 show aM (aJ n) _=_
 unfold aM
 walk_at "ev"
 rw [su]
 walk_at "ev"
 rw [bX]
 walk_at "ev"
 rw [zMG]
 walk_at "ev"
 rw [zMk]
 walk_at "ev"
 rw [wE hd hm hc hq]
 walk_at "ev"
theorem zGg (f g:Nat->Rat):∀ n:Nat,((List.range n).map fun i=>f i - g i).sum=((List.range n).map f).sum - ((List.range n).map g).sum
 | 0=>by simp only [List.range_zero,List.map_nil,List.sum_nil];grind
 | n+1=>by
  rw [List.range_succ,List.map_append,List.map_append,List.map_append,List.sum_append,List.sum_append,List.sum_append,zGg f g n]
  simp only [List.map_cons,List.map_nil,List.sum_cons,List.sum_nil]
  grind
theorem zCW (cs:List Int):((List.range cs.length).map (cR cs)).sum=(cs.sum:Rat):=by
 have e:=mT cs (List.range cs.length)
 rw [tM cs _ (Nat.le_refl _),List.take_length] at e
 exact e
theorem xN {ws cs:List Int} {t:Rat} (hW:Wt ws cs) (hc:Cl cs) (h0:0<=t) {i:Nat} (hi:i < cs.length):0<=fQ (cR cs) (cR ws) t i/\fQ (cR cs) (cR ws) t i<=cR cs i:=by
 have w:=(hW.at hi).1
 have c:=hc.nn _ (List.mem_of_getElem? (aX hi))
 have w':(0:Rat)<=cR ws i:=by unfold cR;exact_mod_cast (show 0<=ws.getD i 0 by omega)
 have c':(0:Rat)<=cR cs i:=by unfold cR;exact_mod_cast c
 have:=Rat.mul_nonneg w' h0
 unfold fQ mn
 grind
theorem tY (x:Rat):(x.num:Rat)=x * ((x.den:Int):Rat):=by
 have d0:=bI x
 have nd:((x.den:Int):Rat)≠0:=fun z=>by
  have:(x.den:Int)=0:=by exact_mod_cast z
  omega
 have h1:=Rat.num_divInt_den x
 rw [Rat.divInt_eq_div] at h1
 rw [<-Rat.div_mul_cancel (a:=(x.num:Rat)) nd,h1]
theorem sR {l:List Rat} {n:Nat} (h:l.length=n):l=(List.range n).map fun i=>l.getD i 0:=by
 refine List.ext_getElem? fun i=>?_
 rw [List.getElem?_map]
 by_cases hi:i < n
 ·rw [List.getElem?_range hi,List.getElem?_eq_getElem (by omega)]
  show _=some (l.getD i 0)
  rw [List.getD_eq_getElem?_getD,List.getElem?_eq_getElem (by omega)];rfl
 ·rw [List.getElem?_eq_none (by omega),List.getElem?_eq_none (by rw [List.length_range];omega)];rfl
def zGe (cs:List Int) (q:Rat) (i:Nat):Rat:=(fG cs 0 q).getD i 0
theorem zCC:∀ (cs:List Int) (a:Int) (q:Rat) (i:Nat),(∀ c∈cs,0<=c)->i < cs.length->0<=(fG cs a q).getD i 0/\(fG cs a q).getD i 0<=cR cs i
 | c::r,a,q,0,h,_=>by
  have c0:(0:Rat)<=(c:Rat):=by exact_mod_cast h c List.mem_cons_self
  show 0<=mn (ps0 (q - (a:Rat))) (c:Rat)/\mn (ps0 (q - (a:Rat))) (c:Rat)<=(c:Rat)
  unfold mn ps0
  grind
 | c::r,a,q,i+1,h,hi=>zCC r (a+c) q i (fun x hx=>h x (List.mem_cons_of_mem _ hx)) (by rw [List.length_cons] at hi;omega)
theorem zCc:∀ (cs:List Int) (a:Int) {q q':Rat} (i:Nat),q<=q'->(fG cs a q).getD i 0<=(fG cs a q').getD i 0
 | [],_,_,_,_,_=>Rat.le_refl
 | c::r,a,q,q',0,h=>by
  show mn (ps0 (q - (a:Rat))) (c:Rat)<=mn (ps0 (q' - (a:Rat))) (c:Rat)
  unfold mn ps0
  grind
 | c::r,a,q,q',i+1,h=>zCc r (a+c) i h
theorem zAa:∀ (cs:List Int) (a:Int) (q:Rat),(∀ c∈cs,0<=c)->0<=cs.sum/\(fG cs a q).sum=mn (ps0 (q - (a:Rat))) (cs.sum:Rat)
 | [],a,q,_=>⟨Int.le_refl _,by show (0:Rat)=mn (ps0 _) ((0:Int):Rat);rw [show ((0:Int):Rat)=0 from rfl];unfold mn ps0;grind⟩
 | c::r,a,q,h=>by
  have c0:=h c List.mem_cons_self
  obtain ⟨s0,e⟩:=zAa r (a+c) q fun x hx=>h x (List.mem_cons_of_mem _ hx)
  have c0':(0:Rat)<=(c:Rat):=by exact_mod_cast c0
  have s0':(0:Rat)<=(r.sum:Rat):=by exact_mod_cast s0
  rw [List.sum_cons]
  refine ⟨by omega,?_⟩
  rw [fG,List.sum_cons,e,Rat.intCast_add,Rat.intCast_add]
  unfold mn ps0
  grind
theorem zBh {q:Rat} {m:Nat} (hq:Sz m q):∀ (cs:List Int) (a:Int),(∀ c∈cs,0<=c)->(∀ c∈cs,c < 10^30)->0<=a->a+cs.length * 10^30 < 2^110->∀ x∈fG cs a q,Sz (m+111) x
 | [],_,_,_,_,_,x,hx=>by cases hx
 | c::r,a,h1,h2,h3,h4,x,hx=>by
  have c0:=h1 c List.mem_cons_self
  have c1:=h2 c List.mem_cons_self
  rw [List.length_cons] at h4
  have e4:((r.length+1:Nat):Int) * 10^30=(r.length:Int) * 10^30+10^30:=by rw [Int.natCast_add,Int.add_mul];rfl
  have r0:0<=(r.length:Int) * 10^30:=Int.mul_nonneg (by omega) (by decide)
  rw [fG] at hx
  rcases List.mem_cons.mp hx with rfl | hx
  ·exact zGY (zJN (hq.sub (bZ (n:=110) (by omega) (by decide))) (by omega)) (Sz.mono (m:=100) (bZ (by omega) (by decide)) (by omega))
  ·exact zBh hq r (a+c) (fun x hx=>h1 x (List.mem_cons_of_mem _ hx)) (fun x hx=>h2 x (List.mem_cons_of_mem _ hx)) (by omega) (by omega) x hx
theorem yD {cs:List Int} {q:Rat} {m:Nat} (hc:Cl cs) (hq:Sz m q) (h0:0<=q) (h1:q<=(cs.sum:Rat)):(fG cs 0 q=(List.range cs.length).map (zGe cs q))/\(fG cs 0 q).sum=q/\∀ x∈fG cs 0 q,Sz (m+111) x:=by
 have hi:=hc.hi
 refine ⟨sR (vV _ _ _),?_,zBh hq cs 0 hc.nn hc.up (by decide) (by omega)⟩
 rw [(zAa cs 0 q hc.nn).2,show ((0:Int):Rat)=0 from rfl]
 unfold mn ps0
 grind
theorem zIy {n:Nat} {e:D} {cs:List Int} {cd:D} (sc:Sq cd cs) {q:Rat} {m:Nat} (hm:m<=2890) (hc:Cl cs) (hq:Haul m q cs.sum):aJ (n+2) [.str (Str.ofString "back"),e,cd,dq q]=.ok (.f (((List.range cs.length).map fun i=>cR cs i - zGe cs ((cs.sum:Rat) - q) i).map dq)):=by
 have sm:=hc.sum
 have hi:=hc.hi
 have zW:Sz 105 (cs.sum:Rat):=bZ (by omega) (by decide)
 have zT:Sz (m+106) ((cs.sum:Rat) - q):=(zW.sub hq.sz).mono (by omega)
 have u:=hq.up
 have u':=hq.nn
 obtain ⟨r1,r2,r3⟩:=yD hc zT (by grind) (by grind)
 have ee:=zIF (n:=n) (e:=e) sc (m:=m+106) (by omega) hc zT (by grind)
 show aM (aJ (n+1)) _=_
 unfold aM
 walk_at "ev"
 rw [sc.sum]
 walk_at "ev"
 rw [bX]
 walk_at "ev"
 rw [zMr]
 walk_at "ev"
 rw [zMp]
 walk_at "ev"
 rw [zML]
 walk_at "ev"
 rw [zMw]
 walk_at "ev"
 rw [show wH aT (.str (Str.ofString "back"))=.ok (.str (Str.ofString "row")) by show zKr (aT.lookup (Str.ofString "back"))=_;rw [zAj];rfl]
 walk_at "ev"
 rw [gP zW hq.sz (by omega)]
 walk_at "ev"
 rw [ee]
 walk_at "ev"
 rw [mW sc.seqo rfl]
 walk_at "ev"
 rw [iV (u:=D.int) (v:=dq) (g:=fun c l=>dq ((c:Rat) - l)) (by omega) (fun p hp=>by
  obtain ⟨p1,p2⟩:=List.of_mem_zip hp
  have c1:=hc.nn _ p1
  have c2:=hc.up _ p1
  walk_at "ev"
  rw [bX]
  walk_at "ev"
  rw [gP (m:=100) (n:=m+106+111) (bZ (by omega) (by decide)) (r3 _ p2) (by omega)]
  walk_at "ev")]
 walk_at "ev"
 rw [r1,iT cs _ 0,List.map_map,List.map_map]
 rfl
def nN (cs:List Int) (q:Rat) (i:Nat):Rat:=(sG cs q).getD i 0
theorem zAv {cs:List Int} {q:Rat} {i:Nat} (hi:i < cs.length):nN cs q i=Rat.divInt (cs.getD i 0 * q.num) (max 1 cs.sum * q.den):=by
 unfold nN sG
 rw [List.getD_eq_getElem?_getD,List.getElem?_map,aX hi]
 rfl
theorem oP {cs:List Int} {q:Rat} (hc:Cl cs) {i:Nat} (hi:i < cs.length):nN cs q i * (cs.sum:Rat)=q * cR cs i/\(cs.sum=0->nN cs q i=0):=by
 have sm:=hc.sum
 have e:=zAv (q:=q) hi
 by_cases z:cs.sum=0
 ·have c0:=oD hc.nn z _ (List.mem_of_getElem? (aX hi))
  have p0:nN cs q i=0:=by rw [e,c0,Int.zero_mul,Rat.zero_divInt]
  refine ⟨?_,fun _=>p0⟩
  rw [p0]
  unfold cR
  rw [c0,show ((0:Int):Rat)=0 from rfl]
  grind
 ·have W0:0 < cs.sum:=by omega
  have nW:(cs.sum:Rat)≠0:=fun y=>by
   have:cs.sum=0:=by exact_mod_cast y
   omega
  refine ⟨?_,fun y=>absurd y z⟩
  rw [e,Int.max_eq_right (by omega),<-zBy W0]
  show q / (cs.sum:Rat) * cR cs i * (cs.sum:Rat)=_
  grind
theorem zBn {cs:List Int} {q:Rat} {m:Nat} (hc:Cl cs) (hq:Sz m q) {i:Nat} (hi:i < cs.length):Sz (m+370) (nN cs q i):=by
 have sm:=hc.sum
 have c1:=hc.nn _ (List.mem_of_getElem? (aX hi))
 have c2:=hc.up _ (List.mem_of_getElem? (aX hi))
 rw [zAv hi]
 have d0:=bI q
 have p:=Int.mul_pos (show 0 < max 1 cs.sum by omega) d0
 exact Sz.of (by omega) (Nat.lt_of_lt_of_le (eM (m:=100) (n:=m) (by omega) hq.1) (Nat.pow_le_pow_right (by decide) (by omega))) (Nat.lt_of_lt_of_le (eM (m:=110) (n:=m) (by omega) hq.d) (Nat.pow_le_pow_right (by decide) (by omega)))
inductive Wy where
 | row | back | even | lack | part | half
def Wy.s:Wy->Str
 | .row=>Str.ofString "row"
 | .back=>Str.ofString "back"
 | .even=>Str.ofString "even"
 | .lack=>Str.ofString "lack"
 | .part=>Str.ofString "part"
 | .half=>Str.ofString "half"
def Wy.due (w:Wy) (ws cs:List Int):Prop:=match w with
 | .even=>Wt ws cs
 | .lack=>Wt ws cs
 | _=>ws=[]
def Al (M:Nat) (ws cs:List Int) (q:Rat) (f:Nat->Rat):Wy->Prop
 | .row=>∀ i,i < cs.length->f i=zGe cs q i
 | .back=>∀ i,i < cs.length->f i=cR cs i - zGe cs ((cs.sum:Rat) - q) i
 | .even=>∃ t,Lvl M ws cs q t/\∀ i,i < cs.length->f i=fQ (cR cs) (cR ws) t i
 | .lack=>∃ t,Lvl M ws cs ((cs.sum:Rat) - q) t/\∀ i,i < cs.length->f i=cR cs i - fQ (cR cs) (cR ws) t i
 | .part=>∀ i,i < cs.length->f i=nN cs q i
 | .half=>∃ t,(q+q<=(cs.sum:Rat)/\Lvl M (ones cs) cs (q+q) t/\∀ i,i < cs.length->f i=fQ (cR cs) (cR (ones cs)) t i * hf)∨((cs.sum:Rat) < q+q/\Lvl M (ones cs) cs (((cs.sum:Rat) - q)+((cs.sum:Rat) - q)) t/\∀ i,i < cs.length->f i=cR cs i - fQ (cR cs) (cR (ones cs)) t i * hf)
theorem zCz {w:Wy} {ws cs:List Int} {wd cd:D} (sw:Sq wd ws) (sc:Sq cd cs) {q:Rat} {m:Nat} (hm:m<=2880) (hw:w.due ws cs) (hc:Cl cs) (hq:Haul m q cs.sum):∃ f,aJ 2 [.str w.s,wd,cd,dq q]=.ok (.f (((List.range cs.length).map f).map dq))/\Al (m+263) ws cs q f w:=by
 have z:=hq.sz
 cases w with
 | row=>exact ⟨zGe cs q,by rw [<-(yD hc z hq.nn hq.up).1];exact zIF sc (by omega) hc z hq.nn,fun i _=>rfl⟩
 | back=>exact ⟨_,zIy sc (by omega) hc hq,fun i _=>rfl⟩
 | even=>
  obtain ⟨t,tl,e⟩:=zFX sw sc (n:=1) (by omega) hw hc z hq.nn hq.up
  exact ⟨_,e,t,tl.mono (by omega),fun i _=>rfl⟩
 | lack=>
  obtain ⟨t,tl,e⟩:=zJb sw sc (n:=0) (by omega) hw hc hq
  rw [zIZ] at e
  exact ⟨_,e,t,tl.mono (by omega),fun i _=>rfl⟩
 | part=>
  refine ⟨nN cs q,?_,fun i _=>rfl⟩
  have e:sG cs q=(List.range cs.length).map (nN cs q):=sR (by unfold sG;rw [List.length_map])
  rw [<-e]
  exact zIT sc (by omega) hc z
 | half=>
  by_cases h:(cs.sum:Rat) < q+q
  ·obtain ⟨t,tl,e⟩:=zHU sc (n:=0) (e:=wd) (by omega) hc hq h
   exact ⟨_,e,t,.inr ⟨h,tl,fun i _=>rfl⟩⟩
  ·obtain ⟨t,tl,e⟩:=zDn sc (n:=1) (e:=wd) (by omega) hc z hq.nn (Rat.not_lt.mp h)
   exact ⟨_,e,t,.inl ⟨Rat.not_lt.mp h,tl.mono (by omega),fun i _=>rfl⟩⟩
theorem zGk (w:Wy):∃ v,aT.lookup w.s=some v:=by
 cases w
 ·exact ⟨_,zHy⟩
 ·exact ⟨_,zAj⟩
 ·exact ⟨_,zEC⟩
 ·exact ⟨_,zAq⟩
 ·exact ⟨_,zFb⟩
 ·exact ⟨_,zR⟩
theorem zEZ {w:Wy} {ws cs:List Int} {wd cd:D} (sw:Sq wd ws) (sc:Sq cd cs) (hw:w.due ws cs) (hc:Cl cs):lN [.str w.s,wd,cd]=.ok (.v .non):=by
 have rw':aR [.str w.s,wd,.int cs.length]=.ok (.v .non):=by
  cases w with
  | even=>exact kZ sw hw rfl
  | lack=>exact kZ sw hw rfl
  | row=>have e:ws=[]:=hw;rw [e] at sw;exact fN sw rfl
  | back=>have e:ws=[]:=hw;rw [e] at sw;exact fN sw rfl
  | part=>have e:ws=[]:=hw;rw [e] at sw;exact fN sw rfl
  | half=>have e:ws=[]:=hw;rw [e] at sw;exact fN sw rfl
 obtain ⟨v,hv⟩:=zGk w
 unfold lN
 walk_at "ev"
 rw [xH hv]
 walk_at "ev"
 rw [oV sc hc]
 walk_at "ev"
 rw [sc.len]
 walk_at "ev"
 rw [rw']
 walk_at "ev"
theorem zGp {w:Wy} {ws cs:List Int} {wd cd:D} (sw:Sq wd ws) (sc:Sq cd cs) {q:Rat} {m:Nat} (hm:m<=2880) (hw:w.due ws cs) (hc:Cl cs) (hq:Haul m q cs.sum):∃ f,lY [.str w.s,wd,cd,dq q]=.ok (.f (((List.range cs.length).map f).map dq))/\Al (m+263) ws cs q f w:=by
 obtain ⟨f,rd,al⟩:=zCz sw sc hm hw hc hq
 have sm:=hc.sum
 refine ⟨f,?_,al⟩
 unfold lY
 walk_at "ev"
 rw [zEZ sw sc hw hc]
 walk_at "ev"
 rw [sc.sum]
 walk_at "ev"
 rw [bX]
 walk_at "ev"
 rw [iG (by omega) hq (by omega)]
 walk_at "ev"
 rw [rd]
 walk_at "ev"
structure Dl (M:Nat) (cs:List Int) (q:Rat) (f:Nat->Rat):Prop where
 bd:∀ i,i < cs.length->0<=f i/\f i<=cR cs i/\Sz M (f i)
 sum:((List.range cs.length).map f).sum=q
theorem uQ {f g:Nat->Rat} {n:Nat} (h:∀ i,i < n->f i=g i):((List.range n).map f).sum=((List.range n).map g).sum:=by rw [List.map_congr_left fun i hi=>h i (List.mem_range.mp hi)]
theorem Dl.congr {M:Nat} {cs:List Int} {q:Rat} {f g:Nat->Rat} (d:Dl M cs q g) (h:∀ i,i < cs.length->f i=g i):Dl M cs q f:=⟨fun i hi=>by rw [h i hi];exact d.bd i hi,by rw [uQ h];exact d.sum⟩
theorem Dl.mono {M M':Nat} {cs:List Int} {q:Rat} {f:Nat->Rat} (d:Dl M cs q f) (h:M<=M'):Dl M' cs q f:=⟨fun i hi=>⟨(d.bd i hi).1,(d.bd i hi).2.1,(d.bd i hi).2.2.mono h⟩,d.sum⟩
theorem zIC {cs:List Int} (hc:Cl cs) {i:Nat} (hi:i < cs.length):0<=cR cs i/\Sz 100 (cR cs i):=by
 have c1:=hc.nn _ (List.mem_of_getElem? (aX hi))
 have c2:=hc.up _ (List.mem_of_getElem? (aX hi))
 exact ⟨by unfold cR;exact_mod_cast c1,bZ (by omega) (by decide)⟩
theorem Dl.dual {M:Nat} {cs:List Int} {q q':Rat} {g:Nat->Rat} (hc:Cl cs) (d:Dl M cs q' g) (h:q'=(cs.sum:Rat) - q):Dl (100+M+1) cs q (fun i=>cR cs i - g i):=by
 refine ⟨fun i hi=>?_,?_⟩
 ·obtain ⟨b1,b2,b3⟩:=d.bd i hi
  exact ⟨by grind,by grind,(zIC hc hi).2.sub b3⟩
 ·rw [zGg,zCW,d.sum]
  grind
theorem zFE {m:Nat} {cs:List Int} {q:Rat} (hc:Cl cs) (hq:Sz m q) (h0:0<=q) (h1:q<=(cs.sum:Rat)):Dl (m+111) cs q (zGe cs q):=by
 obtain ⟨e,s,z⟩:=yD hc hq h0 h1
 refine ⟨fun i hi=>?_,by rw [<-e];exact s⟩
 obtain ⟨b1,b2⟩:=zCC cs 0 q i hc.nn hi
 exact ⟨b1,b2,z _ (by rw [e];exact List.mem_map.mpr ⟨i,List.mem_range.mpr hi,rfl⟩)⟩
theorem zFR {M:Nat} {ws cs:List Int} {q t:Rat} (hW:Wt ws cs) (hc:Cl cs) (tl:Lvl M ws cs q t):Dl M cs q (fQ (cR cs) (cR ws) t):=
 ⟨fun i hi=>⟨(xN hW hc tl.nn hi).1,(xN hW hc tl.nn hi).2,tl.sz i hi⟩,tl.sum⟩
theorem zCq {M:Nat} {cs:List Int} {q t:Rat} (hc:Cl cs) (tl:Lvl M (ones cs) cs (q+q) t):Dl (M+2) cs q (fun i=>fQ (cR cs) (cR (ones cs)) t i * hf):=by
 refine ⟨fun i h=>?_,?_⟩
 ·obtain ⟨b1,b2⟩:=xN (rM cs) hc tl.nn h
  exact ⟨by rw [zEO];grind,by rw [zEO];grind,(tl.sz i h).mul zGD⟩
 ·have e:=tl.sum
  have e2:=gG (w:=fQ (cR cs) (cR (ones cs)) t) (t:=hf) (l:=List.range cs.length)
  unfold evs at e
  unfold lQ at e2
  rw [e2,e,zEO]
  grind
theorem zGy {a b s:Rat} (hs:s≠0) (h:a * s=b * s):a=b:=by
 have e1:a * s / s=a:=by grind
 have e2:b * s / s=b:=by grind
 rw [<-e1,<-e2,h]
theorem zFC {a b s:Rat} (hs:0 < s) (h:a * s<=b * s):a<=b:=Rat.le_of_mul_le_mul_right h hs
theorem zId {m:Nat} {cs:List Int} {q:Rat} (hc:Cl cs) (hq:Sz m q) (h0:0<=q) (h1:q<=(cs.sum:Rat)):Dl (m+370) cs q (nN cs q):=by
 have sm:=hc.sum
 have cn:∀ i,i < cs.length->0<=cR cs i:=fun i hi=>(zIC hc hi).1
 have sc:lQ (fun i=>nN cs q i * (cs.sum:Rat)) (List.range cs.length)=q * (cs.sum:Rat):=by
  rw [rB (g:=fun i=>cR cs i * q) fun i hi=>by rw [(oP hc (List.mem_range.mp hi)).1];grind]
  rw [gG,show lQ (cR cs) (List.range cs.length)=(cs.sum:Rat) from zCW cs]
 rw [gG] at sc
 by_cases z:cs.sum=0
 ·have p0:∀ i,i < cs.length->nN cs q i=cR cs i:=fun i hi=>by
   have c0:=oD hc.nn z _ (List.mem_of_getElem? (aX hi))
   rw [(oP hc hi).2 z]
   unfold cR
   rw [c0]
   rfl
  refine ⟨fun i hi=>⟨by rw [p0 i hi];exact cn i hi,by rw [p0 i hi];exact Rat.le_refl,zBn hc hq hi⟩,?_⟩
  rw [uQ p0,zCW]
  have:(cs.sum:Rat)=0:=by rw [z];rfl
  grind
 ·have W:(0:Rat) < (cs.sum:Rat):=by exact_mod_cast (show 0 < cs.sum by omega)
  refine ⟨fun i hi=>?_,?_⟩
  ·have e:=(oP (q:=q) hc hi).1
   have c0:=cn i hi
   refine ⟨zFC W (by rw [e];have:=Rat.mul_nonneg h0 c0;grind),zFC W ?_,zBn hc hq hi⟩
   rw [e]
   have:=Rat.mul_le_mul_of_nonneg_right h1 c0
   grind
  ·exact zGy (s:=(cs.sum:Rat)) (by grind) (by rw [Rat.mul_comm];exact sc)
theorem zKy {m:Nat} {w:Wy} {ws cs:List Int} {q:Rat} {f:Nat->Rat} (hw:w.due ws cs) (hc:Cl cs) (hq:Haul m q cs.sum) (al:Al (m+263) ws cs q f w):Dl (m+370) cs q f:=by
 have sm:=hc.sum
 have zW:Sz 105 (cs.sum:Rat):=bZ (by omega) (by decide)
 have z:=hq.sz
 have z':Sz (m+106) ((cs.sum:Rat) - q):=(zW.sub hq.sz).mono (by omega)
 have n:=hq.nn
 have u:=hq.up
 cases w with
 | row=>exact ((zFE hc z n u).mono (by omega)).congr al
 | back=>exact ((Dl.dual hc (zFE hc z' (by grind) (by grind)) rfl).mono (by omega)).congr al
 | even=>
  obtain ⟨t,tl,e⟩:=al
  exact ((zFR hw hc tl).mono (by omega)).congr e
 | lack=>
  obtain ⟨t,tl,e⟩:=al
  exact ((Dl.dual hc (zFR hw hc tl) rfl).mono (by omega)).congr e
 | part=>exact (zId hc z n u).congr al
 | half=>
  obtain ⟨t,⟨c,tl,e⟩ | ⟨c,tl,e⟩⟩:=al
  ·exact ((zCq hc tl).mono (by omega)).congr e
  ·exact ((Dl.dual hc (zCq hc tl) rfl).mono (by omega)).congr e
theorem zDf:∀ (cs:List Int) (a:Int) (q:Rat) (i:Nat),i < cs.length->(fG cs a q).getD i 0=mn (ps0 (q - ((a+(cs.take i).sum:Int):Rat))) (cR cs i)
 | c::r,a,q,0,_=>by simp [fG,cR]
 | c::r,a,q,i+1,h=>by
  have ih:=zDf r (a+c) q i (by simpa using h)
  rw [List.take_succ_cons,List.sum_cons,<-Int.add_assoc]
  show (fG r (a+c) q).getD i 0=_
  rw [ih]
  rfl
def Dn (B:Int) (x:Rat):Prop:=∃ k:Int,x * (B:Rat)=(k:Rat)
theorem Dn.add {B:Int} {x y:Rat} (hx:Dn B x) (hy:Dn B y):Dn B (x+y):=by
 obtain ⟨a,ha⟩:=hx
 obtain ⟨b,hb⟩:=hy
 exact ⟨a+b,by rw [Rat.intCast_add,<-ha,<-hb];grind⟩
theorem Dn.sub {B:Int} {x y:Rat} (hx:Dn B x) (hy:Dn B y):Dn B (x - y):=by
 obtain ⟨a,ha⟩:=hx
 obtain ⟨b,hb⟩:=hy
 exact ⟨a - b,by rw [Rat.intCast_sub,<-ha,<-hb];grind⟩
theorem Dn.int (B c:Int):Dn B (c:Rat):=⟨c * B,by rw [Rat.intCast_mul]⟩
theorem Dn.zero (B:Int):Dn B 0:=Dn.int B 0
theorem Dn.mul {B:Int} {x:Rat} (h:Dn B x) (E:Int):Dn (B * E) x:=by
 obtain ⟨a,ha⟩:=h
 exact ⟨a * E,by rw [Rat.intCast_mul,Rat.intCast_mul,<-ha];grind⟩
theorem Dn.mn {B:Int} {x y:Rat} (hx:Dn B x) (hy:Dn B y):Dn B (Lw.mn x y):=by
 unfold Lw.mn
 split
 ·exact hx
 ·exact hy
theorem Dn.ps {B:Int} {x:Rat} (hx:Dn B x):Dn B (ps0 x):=by
 unfold ps0
 split
 ·exact Dn.zero B
 ·exact hx
theorem Dn.den (x:Rat):Dn (x.den:Int) x:=⟨x.num,(tY x).symm⟩
theorem Dn.le {B:Int} {x:Rat} (h:Dn B x) (hB:0 < B):(x.den:Int)<=B:=by
 obtain ⟨a,ha⟩:=h
 have nB:(B:Rat)≠0:=fun z=>by
  have:B=0:=by exact_mod_cast z
  omega
 have e:x=Rat.divInt a B:=by
  rw [Rat.divInt_eq_div,<-ha]
  grind
 rw [e]
 exact zC hB
theorem Dn.sz {B c:Int} {x:Rat} {a b:Nat} (h:Dn B x) (hB:0 < B) (hb:B < 2^b) (h0:0<=x) (h1:x<=(c:Rat)) (hc:c < 2^a):Sz (a+b) x:=by
 have le:=h.le hB
 have d0:=bI x
 have n0:0<=x.num:=Rat.num_nonneg.mpr h0
 have c0:0<=c:=by
  have:((0:Int):Rat)<=(c:Rat):=Rat.le_trans (by rw [show ((0:Int):Rat)=0 from rfl];exact h0) h1
  exact Rat.intCast_le_intCast.mp this
 have n1:x.num<=c * x.den:=by
  have:((x.num:Int):Rat)<=((c * x.den:Int):Rat):=by
   rw [Rat.intCast_mul,tY]
   exact Rat.mul_le_mul_of_nonneg_right h1 (by have z:(0:Int)<=x.den:=(by omega);exact_mod_cast z)
  exact Rat.intCast_le_intCast.mp this
 have hb':(x.den:Int).natAbs < 2^b:=by
  have:((2:Nat)^b:Nat)=((2:Int)^b):=by rw [Int.natCast_pow];rfl
  omega
 have ha':c.natAbs < 2^a:=by
  have:((2:Nat)^a:Nat)=((2:Int)^a):=by rw [Int.natCast_pow];rfl
  omega
 have m:=eM ha' hb'
 refine ⟨by omega,?_⟩
 have:2^b<=2^(a+b):=Nat.pow_le_pow_right (by decide) (by omega)
 omega
theorem uN {c w:Nat->Rat} {ci wi:Nat->Int} {t:Rat} (hc:∀ i,c i=(ci i:Rat)) (hw:∀ i,w i=(wi i:Rat)):∀ l:List Nat,(∀ i∈l,1<=wi i/\wi i<=10^6)->∃ F W:Int,lQ (fQ c w t) l=(W:Rat) * t+(F:Rat)/\0<=W/\W<=l.length * 10^6/\(W=0->∀ i∈l,fQ c w t i=c i)
 | [],_=>⟨0,0,by rw [nZ,show ((0:Int):Rat)=0 from rfl];grind,by decide,by decide,fun _ i h=>by cases h⟩
 | i::l,h=>by
  obtain ⟨F,W,e,w0,w1,f⟩:=uN (t:=t) hc hw l fun j hj=>h j (List.mem_cons_of_mem _ hj)
  have hi:=h i List.mem_cons_self
  have ek:((l.length+1:Nat):Int) * 10^6=(l.length:Int) * 10^6+10^6:=by rw [Int.natCast_add,Int.add_mul];rfl
  rw [bC,List.length_cons]
  by_cases z:w i * t < c i
  ·have g:fQ c w t i=w i * t:=if_pos z
   refine ⟨F,W+wi i,?_,by omega,by omega,fun z=>by omega⟩
   rw [g,e,Rat.intCast_add,hw]
   grind
  ·have g:fQ c w t i=c i:=if_neg z
   refine ⟨F+ci i,W,?_,w0,by omega,fun z j hj=>?_⟩
   ·rw [g,e,Rat.intCast_add,hc]
    grind
   ·rcases List.mem_cons.mp hj with rfl | hj
    ·exact g
    ·exact f z j hj
theorem zZ {M:Nat} {ws cs:List Int} {q t:Rat} {B:Int} (hW:Wt ws cs) (hl:cs.length<=12) (tl:Lvl M ws cs q t) (hq:Dn B q):∃ E:Int,0 < E/\E<=12 * 10^6/\∀ i,i < cs.length->Dn (B * E) (fQ (cR cs) (cR ws) t i):=by
 obtain ⟨F,W,e,w0,w1,f⟩:=uN (c:=cR cs) (w:=cR ws) (ci:=fun i=>cs.getD i 0) (wi:=fun i=>ws.getD i 0) (t:=t) (fun _=>rfl) (fun _=>rfl) (List.range cs.length) fun i hi=>hW.at (List.mem_range.mp hi)
 have s:lQ (fQ (cR cs) (cR ws) t) (List.range cs.length)=q:=tl.sum
 rw [List.length_range] at w1
 by_cases z:W=0
 ·refine ⟨1,by decide,by decide,fun i hi=>?_⟩
  rw [f z i (List.mem_range.mpr hi)]
  exact Dn.int _ _
 ·refine ⟨W,by omega,by omega,fun i hi=>?_⟩
  unfold fQ
  refine Dn.mn ?_ (Dn.int _ _)
  obtain ⟨k,hk⟩:=hq.sub (Dn.int B F)
  refine ⟨ws.getD i 0 * k,?_⟩
  rw [Rat.intCast_mul,Rat.intCast_mul,<-hk,<-s,e]
  show cR ws i * t * _=cR ws i * _
  grind
theorem zJs {B:Int} {x:Rat} (h:Dn B x):Dn (B * 2) (x * hf):=by
 obtain ⟨k,hk⟩:=h
 refine ⟨k,?_⟩
 rw [<-hk,Rat.intCast_mul,zEO,show ((2:Int):Rat)=2 from rfl]
 grind
theorem zFw {cs:List Int} {q:Rat} {B:Int} (h:Dn B q) {i:Nat} (hi:i < cs.length):Dn B (zGe cs q i):=by
 unfold zGe
 rw [zDf cs 0 q i hi]
 exact Dn.mn (Dn.ps (h.sub (Dn.int _ _))) (Dn.int _ _)
theorem zKp {M:Nat} {w:Wy} {ws cs:List Int} {q:Rat} {f:Nat->Rat} {B:Int} (hw:w.due ws cs) (hc:Cl cs) (hS:cs.sum < 2^34) (al:Al M ws cs q f w) (hq:Dn B q):∃ E:Int,0 < E/\E < 2^34/\∀ i,i < cs.length->Dn (B * E) (f i):=by
 have hi:=hc.hi
 have sm:=hc.sum
 have hq':Dn B ((cs.sum:Rat) - q):=(Dn.int B cs.sum).sub hq
 cases w with
 | row=>exact ⟨1,by decide,by decide,fun i hi=>by rw [al i hi,Int.mul_one];exact zFw hq hi⟩
 | back=>exact ⟨1,by decide,by decide,fun i hi=>by rw [al i hi,Int.mul_one];exact (Dn.int _ _).sub (zFw hq' hi)⟩
 | even=>
  obtain ⟨t,tl,e⟩:=al
  obtain ⟨E,e0,e1,e2⟩:=zZ hw hi tl hq
  exact ⟨E,e0,by omega,fun i hi=>by rw [e i hi];exact e2 i hi⟩
 | lack=>
  obtain ⟨t,tl,e⟩:=al
  obtain ⟨E,e0,e1,e2⟩:=zZ hw hi tl hq'
  exact ⟨E,e0,by omega,fun i hi=>by rw [e i hi];exact (Dn.int _ _).sub (e2 i hi)⟩
 | part=>
  by_cases z:cs.sum=0
  ·exact ⟨1,by decide,by decide,fun i hi=>by rw [al i hi,(oP hc hi).2 z];exact Dn.zero _⟩
  ·refine ⟨cs.sum,by omega,hS,fun i hi=>?_⟩
   have p:=(oP (q:=q) hc hi).1
   rw [<-al i hi] at p
   obtain ⟨k,hk⟩:=hq
   refine ⟨k * cs.getD i 0,?_⟩
   rw [Rat.intCast_mul,Rat.intCast_mul,<-hk]
   show f i * ((B:Rat) * (cs.sum:Rat))=q * (B:Rat) * cR cs i
   generalize (cs.sum:Rat)=S at *
   generalize cR cs i=x at *
   generalize f i=y at *
   grind
 | half=>
  obtain ⟨t,⟨c,tl,e⟩ | ⟨c,tl,e⟩⟩:=al
  ·obtain ⟨E,e0,e1,e2⟩:=zZ (rM cs) hi tl (hq.add hq)
   exact ⟨E * 2,by omega,by omega,fun i hi=>by rw [e i hi,<-Int.mul_assoc];exact zJs (e2 i hi)⟩
  ·obtain ⟨E,e0,e1,e2⟩:=zZ (rM cs) hi tl (hq'.add hq')
   exact ⟨E * 2,by omega,by omega,fun i hi=>by rw [e i hi,<-Int.mul_assoc];exact (Dn.int _ _).sub (zJs (e2 i hi))⟩
theorem Al.mono {M M':Nat} {w:Wy} {ws cs:List Int} {q:Rat} {f:Nat->Rat} (h:Al M ws cs q f w) (l:M<=M'):Al M' ws cs q f w:=by
 cases w with
 | row=>exact h
 | back=>exact h
 | part=>exact h
 | even=>obtain ⟨t,tl,e⟩:=h;exact ⟨t,tl.mono l,e⟩
 | lack=>obtain ⟨t,tl,e⟩:=h;exact ⟨t,tl.mono l,e⟩
 | half=>
  obtain ⟨t,⟨c,tl,e⟩ | ⟨c,tl,e⟩⟩:=h
  ·exact ⟨t,.inl ⟨c,tl.mono l,e⟩⟩
  ·exact ⟨t,.inr ⟨c,tl.mono l,e⟩⟩
theorem zLA (q:Rat):Sz (q.num.natAbs+q.den) q:=⟨Nat.lt_of_lt_of_le Nat.lt_two_pow_self (Nat.pow_le_pow_right (by decide) (by omega)),Nat.lt_of_lt_of_le Nat.lt_two_pow_self (Nat.pow_le_pow_right (by decide) (by omega))⟩
theorem zIp {M:Nat} {w:Wy} {ws cs:List Int} {q:Rat} {f:Nat->Rat} (hw:w.due ws cs) (hc:Cl cs) (q0:0<=q) (q1:q<=(cs.sum:Rat)) (al:Al M ws cs q f w):(∀ i,i < cs.length->0<=f i/\f i<=cR cs i)/\((List.range cs.length).map f).sum=q:=by
 have d:=zKy (m:=q.num.natAbs+q.den+M) hw hc ⟨q0,q1,(zLA q).mono (by omega)⟩ (al.mono (by omega))
 exact ⟨fun i hi=>⟨(d.bd i hi).1,(d.bd i hi).2.1⟩,d.sum⟩
theorem zLf {M M':Nat} {ws cs:List Int} {q q' t t':Rat} (hW:Wt ws cs) (a:Lvl M ws cs q t) (b:Lvl M' ws cs q' t') (h:q=q') {i:Nat} (hi:i < cs.length):fQ (cR cs) (cR ws) t i=fQ (cR cs) (cR ws) t' i:=by
 have pw:∀ j∈List.range cs.length,0 < cR ws j:=fun j hj=>by
  have:=(hW.at (List.mem_range.mp hj)).1
  unfold cR
  exact_mod_cast (show 0 < ws.getD j 0 by omega)
 exact zU (c:=cR cs) (w:=cR ws) pw (by show (evs ws cs t).sum=(evs ws cs t').sum;rw [a.sum,b.sum,h]) i (List.mem_range.mpr hi)
def wys:List Str:=["row", "back", "even", "lack", "part", "half"]
def wOK (w:Str) (ws:List Int) (m:Nat):Prop:=(w = "even" ∨ w = "lack")/\ws.length=m/\(∀ x∈ws,1<=x/\x<=10^6)∨¬ (w = "even" ∨ w = "lack")/\ws=[]
def IsC:Nat->D->Prop
 | 0,_=>False
 | n+1,d=>(∃ c:Int,d=.tup [.str "boat", .int c])∨∃ (w:Str) (ws:List Int) (ks:List D),d=.tup [.str w,.tup (ws.map D.int),.tup ks]/\(w == "boat")=false/\0 < ks.length/\ks.length<=100/\ws.length<=100/\(w∈wys/\wOK w ws ks.length)/\∀ k∈ks,IsC n k
def clm:Nat->D->List Int
 | 0,_=>[]
 | n+1,d=>match d with
  | .tup [_,.int c]=>[c]
  | .tup [_,_,.tup ks]=>ks.flatMap (clm n)
  | _=>[]
def dpt:Nat->D->Int
 | 0,_=>0
 | n+1,d=>match d with
  | .tup [_,_,.tup ks]=>1+mx0 (ks.map (dpt n))
  | _=>1
theorem mO {c:Int}:bV [.tup [.str "boat", .int c]]=.ok (.v (.bl true)):=by
 unfold bV
 walk_at "ev"
theorem lX {w:Str} {a b:D} (h:(w == "boat")=false):bV [.tup [.str w,a,b]]=.ok (.v (.bl false)):=by
 unfold bV
 walk_at "ev"
 rw [h]
theorem zAX {c:Int}:bH [.tup [.str "boat", .int c]]=.ok (.v (.tup [])):=by
 unfold bH
 walk_at "ev"
 rw [mO]
 walk_at "ev"
theorem jI {w:Str} {a b:D} (h:(w == "boat")=false):bH [.tup [.str w,a,b]]=.ok (.v b):=by
 unfold bH
 walk_at "ev"
 rw [lX h]
 walk_at "ev"
theorem zKD {ks:List D} {n i:Nat}:((ks.take i).flatMap (clm n)).length<=(ks.flatMap (clm n)).length:=by
 conv=>rhs;rw [<-List.take_append_drop i ks,List.flatMap_append,List.length_append]
 exact Nat.le_add_right _ _
theorem zHP {ks:List D} {n:Nat} {k:D} (h:k∈ks):(clm n k).length<=(ks.flatMap (clm n)).length:=by
 obtain ⟨a,b,rfl⟩:=List.append_of_mem h
 rw [List.flatMap_append,List.flatMap_cons,List.length_append,List.length_append]
 omega
theorem kE:∀ (n:Nat) (d:D),IsC n d->(clm n d).length<=1000->cH n [d]=.ok (.f ((clm n d).map D.int))
 | 0,d,h,_=>h.elim
 | n+1,d,h,hl=>by
  show gY (cH n) [d]=_
  unfold gY
  walk_at "ev"
  rcases h with ⟨c,rfl⟩ | ⟨w,ws,ks,rfl,hw,k0,k1,w1,hy,hk⟩
  ·rw [mO]
   walk_at "ev"
   rfl
  ·rw [lX hw]
   walk_at "ev"
   rw [jI hw]
   walk_at "ev"
   refine kH (Q:=fun r=>r.bind fin=.ok (.f ((ks.flatMap (clm n)).map D.int))) (fun i ρ=>∃ a,ρ=[.val (.tup [.str w,.tup (ws.map D.int),.tup ks]),.own (((ks.take i).flatMap (clm n)).map D.int),a]) ⟨_,rfl⟩ ?_ ?_
   ·rintro i e ρ he ⟨a,rfl⟩
    have hm:=List.mem_of_getElem? he
    have hl':(ks.flatMap (clm n)).length<=1000:=hl
    have l1:=zHP (n:=n) hm
    have l2:=zKD (ks:=ks) (n:=n) (i:=i)
    walk_at "ev"
    rw [kE n e (hk e hm) (by omega)]
    walk_at "ev"
    rw [if_pos (by omega)]
    refine ⟨_,rfl,.val e,?_⟩
    rw [rC he,List.flatMap_append,List.map_append]
    simp [List.flatMap]
   ·rintro ρ' ⟨a,rfl⟩
    walk_at "ev"
    rw [List.take_length]
theorem vN:∀ (n:Nat) (d:D),IsC n d->fH n [d]=.ok (.v (.int (dpt n d)))
 | 0,d,h=>h.elim
 | n+1,d,h=>by
  show kN (fH n) [d]=_
  unfold kN
  walk_at "ev"
  rcases h with ⟨c,rfl⟩ | ⟨w,ws,ks,rfl,hw,k0,k1,w1,hy,hk⟩
  ·rw [zAX]
   walk_at "ev"
   rfl
  ·rw [jI hw]
   walk_at "ev"
   have e:=jK (u:=fun k=>k) (g:=fun k=>.int (dpt n k)) (l:=ks) (f:=aV (fH n) (aB (aE 1) aNil)) (ρ:=[.val (.tup [.str w,.tup (ws.map D.int),.tup ks])]) (by omega) (fun k hm=>by
    walk_at "ev"
    rw [vN n k (hk k hm)]
    walk_at "ev")
   rw [List.map_id'] at e
   rw [e]
   walk_at "ev"
   rw [zDm]
   walk_at "ev"
   rfl
def dOK:Nat->D->Prop
 | 0,_=>False
 | n+1,d=>(∃ i,d=.int i)∨(∃ x,d=.str x)∨∃ ds,d=.tup ds/\ds.length<=1000/\∀ e∈ds,dOK n e
theorem zEQ:∀ {n m:Nat} {d:D},dOK n d->n<=m->dOK m d
 | 0,_,_,h,_=>h.elim
 | n+1,0,_,_,l=>absurd l (by omega)
 | n+1,m+1,d,h,l=>by
  rcases h with h | h | ⟨ds,rfl,hl,he⟩
  ·exact .inl h
  ·exact .inr (.inl h)
  ·exact .inr (.inr ⟨ds,rfl,hl,fun e h=>zEQ (he e h) (by omega)⟩)
theorem zAc:∀ (n:Nat) (d:D),IsC n d->dOK (2 * n+1) d
 | 0,d,h=>h.elim
 | n+1,d,h=>by
  rcases h with ⟨c,rfl⟩ | ⟨w,ws,ks,rfl,hw,k0,k1,w1,hy,hk⟩
  ·refine .inr (.inr ⟨_,rfl,by simp,fun e he=>?_⟩)
   rcases List.mem_cons.mp he with rfl | he
   ·exact .inr (.inl ⟨_,rfl⟩)
   ·rw [List.mem_singleton.mp he];exact .inl ⟨_,rfl⟩
  ·refine .inr (.inr ⟨_,rfl,by simp,fun e he=>?_⟩)
   rcases List.mem_cons.mp he with rfl | he
   ·exact .inr (.inl ⟨_,rfl⟩)
   ·rcases List.mem_cons.mp he with rfl | he
    ·refine .inr (.inr ⟨_,rfl,by rw [List.length_map];omega,fun x hx=>?_⟩)
     obtain ⟨i,_,rfl⟩:=List.mem_map.mp hx
     exact .inl ⟨_,rfl⟩
    ·rw [List.mem_singleton.mp he]
     exact .inr (.inr ⟨_,rfl,by omega,fun x hx=>zAc n x (hk x hx)⟩)
theorem sT:∀ (n:Nat) (d:D),dOK n d->noL d=true
 | 0,d,h=>h.elim
 | n+1,d,h=>by
  rcases h with ⟨i,rfl⟩ | ⟨x,rfl⟩ | ⟨ds,rfl,hl,he⟩
  ·simp [noL]
  ·simp [noL]
  ·rw [noL]
   clear hl
   induction ds with
   | nil=>rfl
   | cons a r ih=>rw [noLs,sT n a (he a List.mem_cons_self),ih fun e h=>he e (List.mem_cons_of_mem _ h)];rfl
theorem gO:∀ {n m:Nat} {d:D},IsC n d->n<=m->IsC m d
 | 0,_,_,h,_=>h.elim
 | n+1,0,_,_,l=>absurd l (by omega)
 | n+1,m+1,d,h,l=>by
  rcases h with h | ⟨w,ws,ks,rfl,hw,k0,k1,w1,hy,hk⟩
  ·exact .inl h
  ·exact .inr ⟨w,ws,ks,rfl,hw,k0,k1,w1,hy,fun k h=>gO (hk k h) (by omega)⟩
theorem jB:∀ {n m:Nat} {d:D},IsC n d->n<=m->clm m d=clm n d
 | 0,_,_,h,_=>h.elim
 | n+1,0,_,_,l=>absurd l (by omega)
 | n+1,m+1,d,h,l=>by
  rcases h with ⟨c,rfl⟩ | ⟨w,ws,ks,rfl,hw,k0,k1,w1,hy,hk⟩
  ·rfl
  ·show ks.flatMap (clm m)=ks.flatMap (clm n)
   rw [List.flatMap_def,List.flatMap_def]
   congr 1
   exact List.map_congr_left fun k h=>jB (hk k h) (by omega)
theorem zAs:∀ {n m:Nat} {d:D},IsC n d->n<=m->dpt m d=dpt n d
 | 0,_,_,h,_=>h.elim
 | n+1,0,_,_,l=>absurd l (by omega)
 | n+1,m+1,d,h,l=>by
  rcases h with ⟨c,rfl⟩ | ⟨w,ws,ks,rfl,hw,k0,k1,w1,hy,hk⟩
  ·rfl
  ·show 1+mx0 (ks.map (dpt m))=1+mx0 (ks.map (dpt n))
   rw [List.map_congr_left fun k h=>zAs (hk k h) (by omega)]
theorem zJW:∀ {l:List Int} {b:Int},0<=b->(∀ x∈l,x<=b)->mx0 l<=b
 | [],b,h,_=>h
 | a::r,b,_,h=>by
  have key:∀ (r:List Int) (a:Int),a<=b->(∀ x∈r,x<=b)->rQ a r<=b:=by
   intro r
   induction r with
   | nil=>intro a ha _;exact ha
   | cons c r ih=>
    intro a ha hr
    rw [rQ]
    refine ih _ ?_ fun x hx=>hr x (List.mem_cons_of_mem _ hx)
    split
    ·exact hr c List.mem_cons_self
    ·exact ha
  exact key r a (h a List.mem_cons_self) fun x hx=>h x (List.mem_cons_of_mem _ hx)
theorem zJc:∀ {l:List Int} {x:Int},x∈l->x<=mx0 l
 | [],_,h=>by cases h
 | a::r,x,h=>by
  have key:∀ (r:List Int) (a:Int),a<=rQ a r/\∀ x∈r,x<=rQ a r:=by
   intro r
   induction r with
   | nil=>intro a;exact ⟨Int.le_refl _,fun x h=>by cases h⟩
   | cons c r ih=>
    intro a
    rw [rQ]
    have h1:=ih (if c > a then c else a)
    refine ⟨Int.le_trans ?_ h1.1,fun x hx=>?_⟩
    ·split<;>omega
    ·rcases List.mem_cons.mp hx with rfl | hx
     ·refine Int.le_trans ?_ h1.1;split<;>omega
     ·exact h1.2 x hx
  rcases List.mem_cons.mp h with rfl | h
  ·exact (key r x).1
  ·exact (key r a).2 x h
theorem zCv:∀ {n:Nat} {d:D},IsC n d->1<=dpt n d/\dpt n d<=n
 | 0,_,h=>h.elim
 | n+1,d,h=>by
  rcases h with ⟨c,rfl⟩ | ⟨w,ws,ks,rfl,hw,k0,k1,w1,hy,hk⟩
  ·exact ⟨by show (1:Int)<=1;omega,by show (1:Int)<=_;omega⟩
  ·have h1:mx0 (ks.map (dpt n))<=n:=zJW (by omega) fun x hx=>by
    obtain ⟨k,hk',rfl⟩:=List.mem_map.mp hx
    exact (zCv (hk k hk')).2
   have h2:0<=mx0 (ks.map (dpt n)):=by
    cases ks with
    | nil=>cases k0
    | cons k r=>exact Int.le_trans (by have:=(zCv (hk k List.mem_cons_self)).1;omega) (zJc (x:=dpt n k) (by simp))
   exact ⟨by show 1<=1+mx0 (ks.map (dpt n));omega,by show 1+mx0 (ks.map (dpt n))<=((n+1:Nat):Int);omega⟩
theorem zDe {w:Str} (h:w∈wys):(aT.lookup w).isSome=true/\(w == "boat")=false:=by
 simp only [wys,List.mem_cons,List.not_mem_nil,or_false] at h
 rcases h with rfl | rfl | rfl | rfl | rfl | rfl<;>decide
theorem vG {w:Str} (h:w∈wys):bR [.str w]=.ok (.v .non):=by
 unfold bR
 walk_at "ev"
 rw [(zDe h).1]
 walk_at "ev"
theorem zKT {w:Str}:oIn (.str w) (.tup [.str "even", .str "lack"])=.ok (.bl (decide (w = "even" ∨ w = "lack"))):=by
 show (if depS [D.str "even", D.str "lack"]<=50 then Res.ok (D.bl (((Str.ofString "even")==w) || (((Str.ofString "lack")==w) || false))) else .no)=_
 rw [if_pos (by decide),Bool.or_false]
 congr 2
 by_cases h1:w = "even"
 ·subst h1;decide
 ·by_cases h2:w = "lack"
  ·subst h2;decide
  ·rw [decide_eq_false (fun h=>h.elim h1 h2),beq_eq_false_iff_ne.mpr (Ne.symm h1),beq_eq_false_iff_ne.mpr (Ne.symm h2)];rfl
theorem nX {w:Str} {ws:List Int} {m:Nat} {d:D} (hd:d=.lst (ws.map D.int)∨d=.tup (ws.map D.int)) (h:wOK w ws m):aR [.str w,d,.int m]=.ok (.v .non):=by
 have sq:zFQ d=.ok (ws.map D.int):=by rcases hd with rfl | rfl<;>rfl
 have ln:kQ [d]=.ok (.int (ws.length:Int)):=by rcases hd with rfl | rfl<;>simp [bLen_l,bLen_t]
 have fine:∀ x∈ws,1<=x/\x<=10^6:=by
  rcases h with ⟨_,_,h⟩ | ⟨_,rfl⟩
  ·exact h
  ·intro x hx;cases hx
 have rest:∀ a:Sl,(dC [.val (.str w),.val d,.val (.int m),a,.un]).bind fin=.ok (.v .non):=by
  intro a
  walk_at "ev"
  rw [sq]
  walk_at "ev"
  refine yP (Q:=fun r:Res Rt=>r=.ok (.v .non)) (fun ρ=>∃ b,ρ=[.val (.str w),.val d,.val (.int m),a,b]) ⟨_,rfl⟩ ?_ ?_
  ·rintro e ρ he ⟨b,rfl⟩
   obtain ⟨x,hx,rfl⟩:=List.mem_map.mp he
   have hf:=fine x hx
   walk_at "ev"
   rw [decide_eq_false (by omega)]
   walk_at "ev"
   rw [oPow_i (by decide)]
   walk_at "ev"
   rw [decide_eq_false (by omega)]
   walk_at "ev"
   exact ⟨_,rfl,_,rfl⟩
  ·rintro ρ' ⟨b,rfl⟩
   rfl
 unfold aR
 walk_at "ev"
 rw [zKT]
 unfold fT
 generalize (dC:Sv)=K at rest ⊢
 rcases h with ⟨hw,hl,_⟩ | ⟨hw,rfl⟩
 ·rw [decide_eq_true hw]
  walk_at "ev"
  rw [ln]
  walk_at "ev"
  rw [hl]
  walk_at "ev"
  exact rest _
 ·rw [decide_eq_false hw]
  walk_at "ev"
  rw [ln]
  walk_at "ev"
  rw [show decide (((0:Nat):Int)=0)=true from rfl]
  walk_at "ev"
  exact rest _
theorem zIm {c:Int} (h0:0<=c) (h1:c<=10^9):uZ [.int c]=.ok (.v (.tup [.str "boat", .int c])):=by
 unfold uZ
 walk_at "ev"
 rw [decide_eq_false (by omega)]
 walk_at "ev"
 rw [decide_eq_false (by omega)]
 walk_at "ev"
theorem zJE {w:Str} {ws:List Int} {ks:List D} {n:Nat} {wd:D} (hd:wd=.lst (ws.map D.int)∨wd=.tup (ws.map D.int)) (hw:w∈wys) (hs:wOK w ws ks.length) (l1:ws.length<=100) (k0:0 < ks.length) (k1:ks.length<=100) (hn:n<=7) (hk:∀ k∈ks,IsC n k) (hc:(ks.flatMap (clm n)).length<=12):
  qW [.str w,wd,.lst ks]=.ok (.v (.tup [.str w,.tup (ws.map D.int),.tup ks]))/\IsC (n+1) (.tup [.str w,.tup (ws.map D.int),.tup ks]):=by
 have bt:zFY [wd]=.ok (.tup (ws.map D.int)):=by rcases hd with rfl | rfl<;>rfl
 have ic:IsC (n+1) (.tup [.str w,.tup (ws.map D.int),.tup ks]):=.inr ⟨w,ws,ks,rfl,(zDe hw).2,k0,k1,l1,⟨hw,hs⟩,hk⟩
 have ic':=gO ic (show n+1<=10 by omega)
 have ec:=jB ic (show n+1<=10 by omega)
 have lc:(clm 10 (.tup [.str w,.tup (ws.map D.int),.tup ks])).length<=12:=by rw [ec];exact hc
 have dd:dpt 10 (.tup [.str w,.tup (ws.map D.int),.tup ks])<=8:=by
  rw [zAs ic (show n+1<=10 by omega)]
  have:=(zCv ic).2
  omega
 refine ⟨?_,ic⟩
 unfold qW
 walk_at "ev"
 rw [vG hw]
 walk_at "ev"
 rw [nX hd hs]
 walk_at "ev"
 rw [bt]
 walk_at "ev"
 rw [decide_eq_false (by omega)]
 walk_at "ev"
 rw [kE 10 _ ic' (by omega)]
 walk_at "ev"
 rw [decide_eq_false (by omega)]
 walk_at "ev"
 rw [vN 10 _ ic']
 walk_at "ev"
 rw [decide_eq_false (by omega)]
 walk_at "ev"
structure Pl (L:List (D×Int)) (boats:Int):Prop where
 each:∀ p∈L,1<=p.2/\p.2<=7/\IsC p.2.toNat p.1
 few:((L.flatMap fun p=>clm 7 p.1).length:Int)<=boats
 most:boats<=12
 rng:∀ c∈(L.flatMap fun p=>clm 7 p.1),0<=c/\c<=10^9
theorem xS:∀ {l:List D},(∀ d∈l,noL d=true)->noLs l=true
 | [],_=>rfl
 | a::r,h=>by rw [noLs,h a List.mem_cons_self,xS fun d hd=>h d (List.mem_cons_of_mem _ hd)];rfl
theorem zGf:∀ {n:Nat} {d:D},dOK n d->dep d<=n
 | 0,_,h=>h.elim
 | n+1,d,h=>by
  rcases h with ⟨i,rfl⟩ | ⟨x,rfl⟩ | ⟨ds,rfl,hl,he⟩
  ·simp [dep]
  ·simp [dep]
  ·rw [dep]
   clear hl
   have:depS ds<=n:=by
    induction ds with
    | nil=>simp [depS]
    | cons a r ih=>
     rw [depS]
     exact Nat.max_le.mpr ⟨zGf (he a List.mem_cons_self),ih fun e h=>he e (List.mem_cons_of_mem _ h)⟩
   omega
theorem zHg {n:Nat}:∀ {ds:List D},(∀ d∈ds,dOK n d)->depS ds<=n
 | [],_=>by simp [depS]
 | a::r,h=>by rw [depS];exact Nat.max_le.mpr ⟨zGf (h a List.mem_cons_self),zHg fun e he=>h e (List.mem_cons_of_mem _ he)⟩
theorem zLs {w:Str} (h:w∈wys):∃ v:Wy,v.s=w:=by
 unfold wys at h
 rcases List.mem_cons.mp h with rfl | h
 ·exact ⟨.row,rfl⟩
 rcases List.mem_cons.mp h with rfl | h
 ·exact ⟨.back,rfl⟩
 rcases List.mem_cons.mp h with rfl | h
 ·exact ⟨.even,rfl⟩
 rcases List.mem_cons.mp h with rfl | h
 ·exact ⟨.lack,rfl⟩
 rcases List.mem_cons.mp h with rfl | h
 ·exact ⟨.part,rfl⟩
 ·rw [List.mem_singleton.mp h];exact ⟨.half,rfl⟩
theorem zJy {v:Wy} {ws cs:List Int} (h:wOK v.s ws cs.length):v.due ws cs:=by
 have k:¬ (v.s = "even" ∨ v.s = "lack")->ws=[]:=fun hn=>by
  rcases h with ⟨a,_⟩ | ⟨_,b⟩
  ·exact absurd a hn
  ·exact b
 have k2:(v.s = "even" ∨ v.s = "lack")->Wt ws cs:=fun hy=>by
  rcases h with ⟨_,b,c⟩ | ⟨a,_⟩
  ·exact ⟨b,fun x hx=>(c x hx).1,fun x hx=>(c x hx).2⟩
  ·exact absurd hy a
 cases v with
 | even=>exact k2 (.inl rfl)
 | lack=>exact k2 (.inr rfl)
 | row=>exact k (by decide)
 | back=>exact k (by decide)
 | part=>exact k (by decide)
 | half=>exact k (by decide)
def Gc (n:Nat) (d:D):Prop:=IsC n d/\(clm n d).length<=12/\∀ c∈clm n d,0<=c/\c<=10^9
theorem zGb:∀ {l:List Int},(∀ c∈l,0<=c/\c<=10^9)->0<=l.sum/\l.sum<=l.length * 10^9
 | [],_=>by decide
 | c::r,h=>by
  have ih:=zGb fun x hx=>h x (List.mem_cons_of_mem _ hx)
  have a:=h c List.mem_cons_self
  rw [List.sum_cons,List.length_cons]
  have:((r.length+1:Nat):Int) * 10^9=(r.length:Int) * 10^9+10^9:=by rw [Int.natCast_add,Int.add_mul];rfl
  omega
theorem Gc.sum {n:Nat} {d:D} (h:Gc n d):0<=(clm n d).sum/\(clm n d).sum<=12 * 10^9:=by
 have:=zGb h.2.2
 have:=h.2.1
 omega
theorem zAl {n:Nat}:∀ ks:List D,(ks.map fun k=>(clm n k).sum).sum=(ks.flatMap (clm n)).sum
 | []=>rfl
 | k::r=>by rw [List.map_cons,List.sum_cons,zAl r,List.flatMap_cons,List.sum_append]
theorem zDO:∀ {n:Nat} {d:D},IsC n d->1<=(clm n d).length
 | 0,_,h=>h.elim
 | n+1,d,h=>by
  rcases h with ⟨c,rfl⟩ | ⟨w,ws,ks,rfl,hw,k0,k1,w1,hy,hk⟩
  ·exact Nat.le_refl 1
  ·cases ks with
   | nil=>simp at k0
   | cons k r=>
    have:=zDO (hk k List.mem_cons_self)
    show 1<=((k::r).flatMap (clm n)).length
    rw [List.flatMap_cons,List.length_append]
    omega
theorem rG {n:Nat}:∀ {ks:List D},(∀ k∈ks,IsC n k)->ks.length<=(ks.flatMap (clm n)).length
 | [],_=>Nat.zero_le _
 | k::r,h=>by
  have a:=zDO (h k List.mem_cons_self)
  have b:=rG fun x hx=>h x (List.mem_cons_of_mem _ hx)
  rw [List.length_cons,List.flatMap_cons,List.length_append]
  omega
theorem zJr {n:Nat} {ks:List D} {k:D} (hk:k∈ks) {c:Int} (hc:c∈clm n k):c∈ks.flatMap (clm n):=List.mem_flatMap.mpr ⟨k,hk,hc⟩
theorem Gc.kid {n:Nat} {w:D} {a ks:List D} (h:Gc (n+1) (.tup [w,.tup a,.tup ks])) (hi:∀ k∈ks,IsC n k) {k:D} (hk:k∈ks):Gc n k:=
 ⟨hi k hk,Nat.le_trans (zHP hk) h.2.1,fun c hc=>h.2.2 c (zJr hk hc)⟩
def kcl (n:Nat) (ks:List D):List Int:=ks.map fun k=>(clm n k).sum
theorem gX (n:Nat) (ks:List D):(kcl n ks).length=ks.length:=List.length_map ..
theorem Gc.cl {n:Nat} {w:D} {a ks:List D} (h:Gc (n+1) (.tup [w,.tup a,.tup ks])) (hi:∀ k∈ks,IsC n k) (h0:0 < ks.length):Cl (kcl n ks):=by
 have b:∀ c∈kcl n ks,0<=c/\c<=12 * 10^9:=fun c hc=>by
  obtain ⟨k,hk,rfl⟩:=List.mem_map.mp hc
  exact (h.kid hi hk).sum
 have l:(ks.flatMap (clm n)).length<=12:=h.2.1
 have:=rG hi
 exact ⟨fun c hc=>(b c hc).1,fun c hc=>by have:=(b c hc).2;omega,by rw [gX];omega,by rw [gX];omega⟩
def ShL (P:D->Rat->List Rat->Prop):List D->(Nat->Rat)->Nat->List Rat->Prop
 | [],_,_,xs=>xs=[]
 | k::ks,f,i,xs=>∃ a b,xs=a++b/\P k (f i) a/\ShL P ks f (i+1) b
def Sh:Nat->D->Rat->List Rat->Prop
 | 0,_,_,_=>False
 | n+1,d,q,xs=>(∃ c:Int,d=.tup [.str "boat", .int c]/\xs=[q])∨∃ (v:Wy) (ws:List Int) (ks:List D) (f:Nat->Rat),d=.tup [.str v.s,.tup (ws.map D.int),.tup ks]/\v.due ws (kcl n ks)/\Al 3000 ws (kcl n ks) q f v/\ShL (Sh n) ks f 0 xs
theorem zDL {P:D->Rat->List Rat->Prop} {n:Nat} {f:Nat->Rat}:∀ {ks:List D} {i:Nat} {xs:List Rat},(∀ k∈ks,∀ q xs,P k q xs->xs.length=(clm n k).length)->ShL P ks f i xs->xs.length=(ks.flatMap (clm n)).length
 | [],i,xs,_,h=>by rw [show xs=[] from h];rfl
 | k::r,i,xs,hp,h=>by
  obtain ⟨a,b,rfl,ha,hb⟩:=h
  rw [List.length_append,hp k List.mem_cons_self _ _ ha,zDL (fun x hx=>hp x (List.mem_cons_of_mem _ hx)) hb,List.flatMap_cons,List.length_append]
theorem zB:∀ {n:Nat} {d:D} {q:Rat} {xs:List Rat},Sh n d q xs->xs.length=(clm n d).length
 | 0,_,_,_,h=>h.elim
 | n+1,d,q,xs,h=>by
  rcases h with ⟨c,rfl,rfl⟩ | ⟨v,ws,ks,f,rfl,hd,al,hs⟩
  ·rfl
  ·exact zDL (fun k _ q xs h=>zB h) hs
theorem zEJ {a:D} {l:List D}:jD [.tup (a::l)]=.ok (.v a):=by
 unfold jD
 walk_at "ev"
theorem uI {a b:D} {l:List D}:cX [.tup (a::b::l)]=.ok (.v b):=by
 unfold cX
 walk_at "ev"
theorem qL {n:Nat} {d:D} (h:IsC n d) (hn:n<=10) (hl:(clm n d).length<=1000):dO [d]=.ok (.v (.int (clm n d).sum)):=by
 have e:=jB h hn
 unfold dO
 walk_at "ev"
 rw [kE 10 d (gO h hn) (by rw [e];exact hl)]
 walk_at "ev"
 rw [e]
theorem vI {n:Nat} {w:Str} {a:D} {ks:List D} (hw:(w == "boat")=false) (hi:∀ k∈ks,IsC n k) (hn:n<=10) (hl:(ks.flatMap (clm n)).length<=1000):cZ [.tup [.str w,a,.tup ks]]=.ok (.f ((kcl n ks).map D.int)):=by
 unfold cZ
 walk_at "ev"
 rw [jI hw]
 walk_at "ev"
 rw [zCy (h:=fun k=>D.int (clm n k).sum) (by have:=rG hi;omega) (fun k hk=>by
  walk_at "ev"
  rw [qL (hi k hk) hn (Nat.le_trans (zHP hk) hl)]
  walk_at "ev")]
 walk_at "ev"
 unfold kcl
 rw [List.map_map]
 rfl
theorem zKJ (cs:List Int):Sq (.lst (cs.map D.int)) cs:=.inl rfl
theorem rJ:∀ (n N m:Nat) (d:D) (q:Rat),Gc n d->n<=N->n<=9->0<=q->q<=((clm n d).sum:Rat)->(q.den:Int) < 2^m->m+34 * n<=2000->∃ xs,dB N [d,dq q]=.ok (.f (xs.map dq))/\Sh n d q xs
 | 0,_,_,_,_,h,_,_,_,_,_,_=>h.1.elim
 | n+1,0,_,_,_,_,hN,_,_,_,_,_=>by omega
 | n+1,N+1,m,d,q,g,hN,hn,q0,q1,qd,hm=>by
  rcases g.1 with ⟨c,rfl⟩ | ⟨w,ws,ks,rfl,hw,k0,k1,w1,hy,hk⟩
  ·refine ⟨[q],?_,.inl ⟨c,rfl,rfl⟩⟩
   show eY (dB N) _=_
   unfold eY
   walk_at "ev"
   rw [mO]
   walk_at "ev"
  ·obtain ⟨v,rfl⟩:=zLs hy.1
   have cl:=g.cl hk k0
   have l12:(ks.flatMap (clm n)).length<=12:=g.2.1
   have hs:(kcl n ks).sum=(clm (n+1) (.tup [.str v.s,.tup (ws.map D.int),.tup ks])).sum:=zAl ks
   have gs:=g.sum
   have due:v.due ws (kcl n ks):=zJy (by rw [gX];exact hy.2)
   have sq:Sz (34+m) q:=(Dn.den q).sz (bI q) qd q0 q1 (by omega)
   have hl:Haul (34+m) q (kcl n ks).sum:=⟨q0,by rw [hs];exact q1,sq⟩
   obtain ⟨f,ef,af⟩:=zGp (wd:=.tup (ws.map D.int)) (.inr rfl) (zKJ (kcl n ks)) (by omega) due cl hl
   have df:=zKy due cl hl af
   have hS:(kcl n ks).sum < 2^34:=by rw [hs];omega
   obtain ⟨E,e0,e1,e2⟩:=zKp due cl hS af (Dn.den q)
   have dk:∀ i,i < ks.length->((f i).den:Int) < 2^(m+34):=fun i hi=>by
    have a:=(e2 i (by rw [gX];exact hi)).le (Int.mul_pos (bI q) e0)
    have b:(q.den:Int) * E < 2^m * 2^34:=Int.mul_lt_mul qd (Int.le_of_lt e1) e0 (Int.le_of_lt (Int.pow_pos (by decide)))
    rw [Int.pow_add]
    omega
   have loopOk:∀ (js:List D) (i:Nat) (acc:List Rat) (s t:Sl),(∀ k∈js,k∈ks)->i+js.length=ks.length->ks.drop i=js->acc.length+(js.flatMap (clm n)).length<=12->∃ xs s' t',ShL (Sh n) js f i xs/\
     loop (zBE (iZ (gName 4) (iZ (gName 5) zBK))) (nJ (dB N)) (iI js ((List.range' i js.length).map fun j=>dq (f j))) [.val (.tup [.str v.s,.tup (ws.map D.int),.tup ks]),.val (dq q),.val (.lst (((List.range (kcl n ks).length).map f).map dq)),.own (acc.map dq),s,t]=
      .ok (.nx [.val (.tup [.str v.s,.tup (ws.map D.int),.tup ks]),.val (dq q),.val (.lst (((List.range (kcl n ks).length).map f).map dq)),.own ((acc++xs).map dq),s',t']):=by
    intro js
    induction js with
    | nil=>intro i acc s t _ _ _ _;exact ⟨[],s,t,rfl,by rw [List.append_nil];rfl⟩
    | cons k r ih=>
     intro i acc s t hm' hl' hd' ha
     have hik:i < ks.length:=by rw [List.length_cons] at hl';omega
     have ik:k∈ks:=hm' k List.mem_cons_self
     have gk:=g.kid hk ik
     have fk:=df.bd i (by rw [gX];exact hik)
     have ck:cR (kcl n ks) i=((clm n k).sum:Rat):=by
      unfold cR kcl
      have:ks[i]?=some k:=by
       have:=List.getElem?_drop (xs:=ks) (i:=i) (j:=0)
       rw [hd'] at this
       simpa using this.symm
      rw [List.getD_eq_getElem?_getD,List.getElem?_map,this]
      rfl
     obtain ⟨xs,ex,sx⟩:=rJ n N (m+34) k (f i) gk (by omega) (by omega) fk.1 (by rw [<-ck];exact fk.2.1) (dk i hik) (by omega)
     have lx:=zB sx
     rw [List.flatMap_cons,List.length_append] at ha
     obtain ⟨ys,s',t',sy,ey⟩:=ih (i+1) (acc++xs) (.val k) (.val (dq (f i))) (fun x hx=>hm' x (List.mem_cons_of_mem _ hx)) (by rw [List.length_cons] at hl';omega) (by rw [<-List.drop_drop,hd'];rfl) (by rw [List.length_append];omega)
     refine ⟨xs++ys,s',t',⟨xs,ys,rfl,sx,sy⟩,?_⟩
     rw [List.length_cons,List.range'_succ,List.map_cons,show iI (k::r) (dq (f i)::(List.range' (i+1) r.length).map fun j=>dq (f j))=.tup [k,dq (f i)]::iI r ((List.range' (i+1) r.length).map fun j=>dq (f j)) from rfl]
     rw [fA (ρ1:=[.val (.tup [.str v.s,.tup (ws.map D.int),.tup ks]),.val (dq q),.val (.lst (((List.range (kcl n ks).length).map f).map dq)),.own (acc.map dq),.val k,.val (dq (f i))]) (ρ2:=[.val (.tup [.str v.s,.tup (ws.map D.int),.tup ks]),.val (dq q),.val (.lst (((List.range (kcl n ks).length).map f).map dq)),.own ((acc++xs).map dq),.val k,.val (dq (f i))]) (by walk_at "ev") (by
      walk_at "ev"
      rw [ex]
      walk_at "ev"
      rw [if_pos (by omega),List.map_append]),ey,List.append_assoc]
   obtain ⟨xs,s',t',sx,ex⟩:=loopOk ks 0 [] .un .un (fun k h=>h) (by omega) rfl (by rw [List.length_nil];omega)
   refine ⟨xs,?_,.inr ⟨v,ws,ks,f,rfl,due,af.mono (by omega),sx⟩⟩
   show eY (dB N) _=_
   unfold eY
   walk_at "ev"
   rw [lX hw]
   walk_at "ev"
   rw [zEJ]
   walk_at "ev"
   rw [uI]
   walk_at "ev"
   rw [vI hw hk (by omega) (by omega)]
   walk_at "ev"
   rw [ef]
   walk_at "ev"
   rw [jI hw]
   walk_at "ev"
   rw [mW rfl rfl,show ((List.range (kcl n ks).length).map f).map dq=(List.range' 0 ks.length).map fun j=>dq (f j) by rw [List.map_map,gX,List.range_eq_range'];rfl]
   walk_at "ev"
   rw [show ((List.range (kcl n ks).length).map f).map dq=(List.range' 0 ks.length).map fun j=>dq (f j) by rw [List.map_map,gX,List.range_eq_range'];rfl] at ex
   rw [List.map_nil] at ex
   rw [ex]
   rfl
theorem zEj {n m:Nat} {d:D} {q:Rat} (g:Gc n d) (hn:n<=9) (q0:0<=q) (q1:q<=((clm n d).sum:Rat)) (qd:(q.den:Int) < 2^m) (hm:m+34 * n<=2000):∃ xs,dS [d,dq q]=.ok (.f (xs.map dq))/\Sh n d q xs:=by
 have gs:=g.sum
 obtain ⟨xs,ex,sx⟩:=rJ n 10 m d q g (by omega) hn q0 q1 qd hm
 refine ⟨xs,?_,sx⟩
 have sq:Sz (34+m) q:=(Dn.den q).sz (bI q) qd q0 q1 (by omega)
 unfold dS
 walk_at "ev"
 rw [qL g.1 (by omega) (by have:=g.2.1;omega)]
 walk_at "ev"
 rw [bX]
 walk_at "ev"
 rw [iG (by omega) ⟨q0,q1,sq⟩ (by omega)]
 walk_at "ev"
 rw [ex]
 walk_at "ev"
def A2 {α β:Type} (R:α->β->Prop):List α->List β->Prop
 | [],[]=>True
 | a::l,b::k=>R a b/\A2 R l k
 | _,_=>False
theorem A2.app {α β:Type} {R:α->β->Prop}:∀ {l l':List α} {k k':List β},A2 R l k->A2 R l' k'->A2 R (l++l') (k++k')
 | [],_,[],_,_,h=>h
 | _::l,_,_::k,_,h,h'=>⟨h.1,A2.app h.2 h'⟩
theorem A2.len {α β:Type} {R:α->β->Prop}:∀ {l:List α} {k:List β},A2 R l k->l.length=k.length
 | [],[],_=>rfl
 | _::l,_::k,h=>by rw [List.length_cons,List.length_cons,A2.len h.2]
theorem A2.at {α β:Type} {R:α->β->Prop} {a:α} {b:β}:∀ {l:List α} {k:List β} {i:Nat},A2 R l k->i < l.length->R (l.getD i a) (k.getD i b)
 | _::l,_::k,0,h,_=>h.1
 | _::l,_::k,i+1,h,hi=>A2.at (i:=i) h.2 (by simpa using hi)
theorem A2.mem {α β:Type} {R:α->β->Prop}:∀ {l:List α} {k:List β} {x:α},A2 R l k->x∈l->∃ y∈k,R x y
 | a::l,b::k,x,h,hx=>by
  rcases List.mem_cons.mp hx with rfl | hx
  ·exact ⟨b,List.mem_cons_self,h.1⟩
  ·obtain ⟨y,hy,r⟩:=A2.mem h.2 hx
   exact ⟨y,List.mem_cons_of_mem _ hy,r⟩
def Bc (x:Rat) (c:Int):Prop:=0<=x/\x<=(c:Rat)
theorem xW (l k:List Rat):(l++k).sum=l.sum+k.sum:=by
 induction l with
 | nil=>rw [List.nil_append,List.sum_nil,Rat.zero_add]
 | cons a l ih=>rw [List.cons_append,List.sum_cons,List.sum_cons,ih];grind
theorem zFV {P:D->Rat->List Rat->Prop} {n:Nat} {f:Nat->Rat}:∀ {ks:List D} {i:Nat} {xs:List Rat},(∀ k∈ks,∀ q xs,P k q xs->0<=q->q<=((clm n k).sum:Rat)->A2 Bc xs (clm n k)/\xs.sum=q)->(∀ j k,ks[j]?=some k->0<=f (i+j)/\f (i+j)<=((clm n k).sum:Rat))->ShL P ks f i xs->A2 Bc xs (ks.flatMap (clm n))/\xs.sum=((List.range' i ks.length).map f).sum
 | [],i,xs,_,_,h=>by rw [show xs=[] from h];exact ⟨trivial,rfl⟩
 | k::r,i,xs,hp,hf,h=>by
  obtain ⟨a,b,rfl,ha,hb⟩:=h
  have f0:=hf 0 k rfl
  obtain ⟨a1,a2⟩:=hp k List.mem_cons_self _ _ ha f0.1 f0.2
  obtain ⟨b1,b2⟩:=zFV (fun x hx=>hp x (List.mem_cons_of_mem _ hx)) (fun j k' hj=>by
   have:=hf (j+1) k' (by simpa using hj)
   rw [show i+1+j=i+(j+1) by omega];exact this) hb
  refine ⟨by rw [List.flatMap_cons];exact a1.app b1,?_⟩
  rw [xW,a2,b2,List.length_cons,List.range'_succ,List.map_cons,List.sum_cons]
theorem zDu {n:Nat} {ks:List D} {j:Nat} {k:D} (h:ks[j]?=some k):j < (kcl n ks).length/\cR (kcl n ks) j=((clm n k).sum:Rat):=by
 refine ⟨by rw [gX];exact (List.getElem?_eq_some_iff.mp h).1,?_⟩
 unfold cR kcl
 rw [List.getD_eq_getElem?_getD,List.getElem?_map,h]
 rfl
theorem zKa:∀ {n:Nat} {d:D} {q:Rat} {xs:List Rat},Gc n d->Sh n d q xs->0<=q->q<=((clm n d).sum:Rat)->A2 Bc xs (clm n d)/\xs.sum=q
 | 0,_,_,_,g,_,_,_=>g.1.elim
 | n+1,d,q,xs,g,h,q0,q1=>by
  rcases h with ⟨c,rfl,rfl⟩ | ⟨v,ws,ks,f,rfl,hd,al,hs⟩
  ·refine ⟨⟨⟨q0,?_⟩,trivial⟩,by rw [List.sum_cons,List.sum_nil,Rat.add_zero]⟩
   have e:((clm (n+1) (.tup [.str "boat", .int c])).sum:Int)=c:=by show ([c]:List Int).sum=c;simp
   rw [e] at q1;exact q1
  ·rcases g.1 with ⟨c,e⟩ | ⟨w,ws',ks',e,hw,k0,k1,w1,hy,hk⟩
   ·simp at e
   ·simp only [D.tup.injEq,List.cons.injEq,and_true] at e
    obtain ⟨e1,e2,rfl⟩:=e
    have cl:=g.cl hk k0
    have e:(kcl n ks).sum=(clm (n+1) (.tup [.str v.s,.tup (ws.map D.int),.tup ks])).sum:=zAl ks
    obtain ⟨b,s⟩:=zIp hd cl q0 (by rw [e];exact q1) al
    obtain ⟨r1,r2⟩:=zFV (P:=Sh n) (n:=n) (f:=f) (i:=0) (fun k hk' q xs h0 h1 h2=>zKa (g.kid hk hk') h0 h1 h2) (fun j k hj=>by
     obtain ⟨j1,j2⟩:=zDu (n:=n) hj
     rw [Nat.zero_add,<-j2]
     exact b j j1) hs
    refine ⟨r1,?_⟩
    rw [r2,<-List.range_eq_range',<-gX n ks]
    exact s
def kn:Nat->D->Nat
 | 0,_=>0
 | n+1,d=>match d with
  | .tup [_,_,.tup ks]=>1+(ks.map (kn n)).sum
  | _=>0
theorem zJz {n:Nat}:∀ {ks:List D},(∀ k∈ks,kn n k<=(n - 1) * (clm n k).length)->(ks.map (kn n)).sum<=(n - 1) * (ks.flatMap (clm n)).length
 | [],_=>Nat.zero_le _
 | k::r,h=>by
  have a:=h k List.mem_cons_self
  have b:=zJz fun x hx=>h x (List.mem_cons_of_mem _ hx)
  rw [List.map_cons,List.sum_cons,List.flatMap_cons,List.length_append,Nat.mul_add]
  omega
theorem zJM:∀ {n:Nat} {d:D},IsC n d->kn n d<=(n - 1) * (clm n d).length
 | 0,_,h=>h.elim
 | n+1,d,h=>by
  rcases h with ⟨c,rfl⟩ | ⟨w,ws,ks,rfl,hw,k0,k1,w1,hy,hk⟩
  ·exact Nat.zero_le _
  ·have a:=zJz fun k h=>zJM (hk k h)
   have b:=rG hk
   show 1+(ks.map (kn n)).sum<=(n+1 - 1) * (ks.flatMap (clm n)).length
   rw [Nat.add_sub_cancel]
   cases n with
   | zero=>obtain ⟨k,r,rfl⟩:=List.exists_cons_of_length_pos k0;exact (hk k List.mem_cons_self).elim
   | succ n=>
    rw [Nat.add_sub_cancel] at a
    rw [Nat.add_mul,Nat.one_mul]
    omega
theorem qO {a b:Int} {m n:Nat} (a0:0 < a) (b0:0 < b) (ha:a<=2^m) (hb:b<=2^n):a * b<=2^(m+n):=by
 rw [Int.pow_add]
 exact Int.mul_le_mul ha hb (by omega) (Int.le_of_lt (Int.pow_pos (by decide)))
theorem zFv {P:D->Rat->List Rat->Prop} {n:Nat} {f:Nat->Rat} {B:Int}:∀ {ks:List D} {i:Nat} {xs:List Rat},(∀ k∈ks,∀ q xs B,P k q xs->0<=q->q<=((clm n k).sum:Rat)->Dn B q->∃ E:Int,0 < E/\E<=2^(34 * kn n k)/\∀ x∈xs,Dn (B * E) x)->(∀ j k,ks[j]?=some k->Dn B (f (i+j))/\0<=f (i+j)/\f (i+j)<=((clm n k).sum:Rat))->ShL P ks f i xs->∃ E:Int,0 < E/\E<=2^(34 * (ks.map (kn n)).sum)/\∀ x∈xs,Dn (B * E) x
 | [],i,xs,_,_,h=>⟨1,by decide,by show (1:Int)<=2^(34 * 0);decide,fun x hx=>by rw [show xs=[] from h] at hx;cases hx⟩
 | k::r,i,xs,hp,hf,h=>by
  obtain ⟨a,b,rfl,ha,hb⟩:=h
  have f0:=hf 0 k rfl
  obtain ⟨E,e0,e1,e2⟩:=hp k List.mem_cons_self _ _ B ha f0.2.1 f0.2.2 f0.1
  obtain ⟨E',e0',e1',e2'⟩:=zFv (B:=B) (fun x hx=>hp x (List.mem_cons_of_mem _ hx)) (fun j k' hj=>by
   have:=hf (j+1) k' (by simpa using hj)
   rw [show i+1+j=i+(j+1) by omega];exact this) hb
  refine ⟨E * E',Int.mul_pos e0 e0',?_,fun x hx=>?_⟩
  ·rw [List.map_cons,List.sum_cons,Nat.mul_add]
   exact qO e0 e0' e1 e1'
  ·rcases List.mem_append.mp hx with hx | hx
   ·rw [<-Int.mul_assoc];exact (e2 x hx).mul E'
   ·rw [Int.mul_comm E,<-Int.mul_assoc];exact (e2' x hx).mul E
theorem zJv:∀ {n:Nat} {d:D} {q:Rat} {xs:List Rat} {B:Int},Gc n d->Sh n d q xs->0<=q->q<=((clm n d).sum:Rat)->Dn B q->∃ E:Int,0 < E/\E<=2^(34 * kn n d)/\∀ x∈xs,Dn (B * E) x
 | 0,_,_,_,_,g,_,_,_,_=>g.1.elim
 | n+1,d,q,xs,B,g,h,q0,q1,hB=>by
  rcases h with ⟨c,rfl,rfl⟩ | ⟨v,ws,ks,f,rfl,hd,al,hs⟩
  ·exact ⟨1,by decide,by show (1:Int)<=2^(34 * 0);decide,fun x hx=>by rw [List.mem_singleton.mp hx,Int.mul_one];exact hB⟩
  ·rcases g.1 with ⟨c,e⟩ | ⟨w,ws',ks',e,hw,k0,k1,w1,hy,hk⟩
   ·simp at e
   ·simp only [D.tup.injEq,List.cons.injEq,and_true] at e
    obtain ⟨e1,e2,rfl⟩:=e
    have cl:=g.cl hk k0
    have gs:=g.sum
    have e:(kcl n ks).sum=(clm (n+1) (.tup [.str v.s,.tup (ws.map D.int),.tup ks])).sum:=zAl ks
    obtain ⟨b,s⟩:=zIp hd cl q0 (by rw [e];exact q1) al
    obtain ⟨E,e0,e1,e2⟩:=zKp hd cl (by rw [e];omega) al hB
    obtain ⟨E',e0',e1',e2'⟩:=zFv (P:=Sh n) (n:=n) (f:=f) (i:=0) (B:=B * E) (fun k hk' q xs B h0 h1 h2 h3=>zJv (g.kid hk hk') h0 h1 h2 h3) (fun j k hj=>by
     obtain ⟨j1,j2⟩:=zDu (n:=n) hj
     rw [Nat.zero_add,<-j2]
     exact ⟨e2 j j1,b j j1⟩) hs
    refine ⟨E * E',Int.mul_pos e0 e0',?_,fun x hx=>by rw [<-Int.mul_assoc];exact e2' x hx⟩
    show E * E'<=2^(34 * (1+(ks.map (kn n)).sum))
    rw [Nat.mul_add]
    exact qO e0 e0' (Int.le_of_lt e1) e1'
theorem eP (ns:List Int) (k:Int) (h:0<=k):bJ [.lst (ns.map D.int),.int k]=.ok (.v (.int (ns.getD k.toNat 0))):=by
 unfold bJ
 walk_at "ev"
 by_cases c:k < (ns.length:Int)
 ·rw [decide_eq_true c]
  walk_at "ev"
  have hk:k.toNat < ns.length:=by omega
  rw [oK h (List.getElem?_eq_getElem hk),List.getD_eq_getElem?_getD,List.getElem?_eq_getElem hk]
  rfl
 ·rw [decide_eq_false c]
  walk_at "ev"
  rw [List.getD_eq_getElem?_getD,List.getElem?_eq_none (by omega)]
  rfl
abbrev zMu:D:=.lst [.str "row", .str "back", .str "even", .str "lack", .str "part", .str "half"]
theorem zIb (k:Int) (h0:0<=k) (h1:k < 6):∃ w∈wys,oIx zMu (.int k)=.ok (.str w):=by
 have hk:k=0∨k=1∨k=2∨k=3∨k=4∨k=5:=by omega
 rcases hk with rfl | rfl | rfl | rfl | rfl | rfl
 all_goals exact ⟨_,by simp [wys],rfl⟩
theorem zM:∀ {ds:List D} {n i:Nat} {d:D},(lI n ds)[i]?=some d->∃ a,ds[i]?=some a/\d=.tup [.int ((n+i:Nat):Int),a]
 | a::r,n,0,d,h=>by cases h;exact ⟨a,rfl,rfl⟩
 | a::r,n,i+1,d,h=>by
  obtain ⟨b,h1,h2⟩:=zM (ds:=r) (n:=n+1) (i:=i) h
  exact ⟨b,h1,by rw [h2];congr 4;omega⟩
 | [],n,i,d,h=>by cases i<;>cases h
theorem zP:∀ (ds:List D) (n:Nat),(lI n ds).length=ds.length
 | a::r,n=>by simp only [lI,List.length_cons,zP r (n+1)]
 | [],n=>rfl
def Nms (ns:List Str):Prop:=ns.length<=100/\∀ x∈ns,x.length<=1000
theorem yW {ds:List D} {a:Int} (h:a < 0):dY ds (some a) none=ds.drop (ds.length - (-a).toNat):=by
 unfold dY cut
 simp only [if_neg (show ¬ 0<=a by omega)]
 rw [show ((ds.length:Int)+a).toNat=ds.length - (-a).toNat by omega]
 exact List.take_of_length_le (by rw [List.length_drop];omega)
theorem zCs {ds:List D} {a:Int} (h:a < 0):dY ds none (some a)=ds.take (ds.length - (-a).toNat):=by
 unfold dY cut
 simp only [if_neg (show ¬ 0<=a by omega),List.drop_zero,Nat.sub_zero]
 rw [show ((ds.length:Int)+a).toNat=ds.length - (-a).toNat by omega]
theorem zDz (ns:List Int) (a most:Int) (a0:0<=a) (m1:1<=most) (m2:most<=100):∃ cs:List Int,dW [.lst (ns.map D.int),.int a,.int most]=.ok (.f (cs.map D.int))/\1<=cs.length/\(cs.length:Int)<=most/\∀ c∈cs,0<=c/\c<=10^9:=by
 unfold dW
 walk_at "ev"
 rw [eP ns a a0]
 generalize ns.getD a.toNat 0=x
 have q0:=Int.emod_nonneg x (show most≠0 by omega)
 have q1:=Int.emod_lt_of_pos x (show 0 < most by omega)
 walk_at "ev"
 rw [oMod_i (by omega),fmod_pos _ (by omega)]
 walk_at "ev"
 generalize x % most=q at q0 q1
 rw [rT (by omega) (by omega)]
 walk_at "ev"
 refine kH (Q:=fun r=>∃ cs:List Int,r.bind fin=.ok (.f (cs.map D.int))/\1<=cs.length/\(cs.length:Int)<=most/\∀ c∈cs,0<=c/\c<=10^9) (k:=zDW jP) (fun i ρ=>∃ (cs:List Int) (s t:Sl),ρ=[.val (.lst (ns.map D.int)),.val (.int a),.val (.int most),.own (cs.map D.int),s,t]/\cs.length=i/\∀ c∈cs,0<=c/\c<=10^9) ⟨[],_,_,rfl,rfl,fun c h=>by cases h⟩ ?_ ?_
 ·rintro i e ρ he ⟨cs,s,t,rfl,hl,hc⟩
  obtain ⟨hi,rfl⟩:=zBj he
  rw [show (0:Int)+(i:Int) * 1=(i:Int) by omega]
  walk_at "ev"
  rw [eP ns _ (by omega)]
  generalize ns.getD (a+1+(i:Int)).toNat 0=y
  walk_at "ev"
  have c0:=Int.emod_nonneg y (b:=10^30) (by decide)
  generalize y % 10^30=cell at c0
  have p1:(0:Int)<=cell / 3 % 13/\cell / 3 % 13 < 13:=⟨Int.emod_nonneg _ (by decide),Int.emod_lt_of_pos _ (by decide)⟩
  have p2:(0:Int)<=cell / 3 % 3/\cell / 3 % 3 < 3:=⟨Int.emod_nonneg _ (by decide),Int.emod_lt_of_pos _ (by decide)⟩
  have p3:(0:Int)<=cell / 3 % (10^9+1)/\cell / 3 % (10^9+1) < 10^9+1:=⟨Int.emod_nonneg _ (by decide),Int.emod_lt_of_pos _ (by decide)⟩
  have p4:(0:Int)<=cell % 3/\cell % 3 < 3:=⟨Int.emod_nonneg _ (by decide),Int.emod_lt_of_pos _ (by decide)⟩
  obtain ⟨u,hu,e⟩:∃ u:Int,(0<=u/\u<=10^9)/\oIx (.lst [.int (cell / 3 % 13),.int (cell / 3 % 3),.int (cell / 3 % (10^9+1))]) (.int (cell % 3))=.ok (.int u):=by
   generalize cell % 3=k at p4
   have hk:k=0∨k=1∨k=2:=by omega
   rcases hk with rfl | rfl | rfl
   ·exact ⟨_,by omega,rfl⟩
   ·exact ⟨_,by omega,rfl⟩
   ·exact ⟨_,by omega,rfl⟩
  rw [oMod_i (by omega),fmod_pos _ (by omega)]
  walk_at "ev"
  rw [e]
  walk_at "ev"
  rw [if_pos (by omega)]
  refine ⟨_,rfl,cs++[u],_,_,by rw [List.map_append];rfl,by rw [List.length_append,hl];rfl,fun c hc'=>?_⟩
  rcases List.mem_append.mp hc' with h | h
  ·exact hc c h
  ·rw [List.mem_singleton.mp h];exact hu
 ·rintro ρ ⟨cs,s,t,rfl,hl,hc⟩
  have ll:(rng 0 (1+q).toNat 1).length=(1+q).toNat:=by unfold rng;simp
  exact ⟨cs,rfl,by omega,by omega,hc⟩
theorem zBP {ks:List D} {cell:Int} {n:Nat} (c0:0<=cell) (k0:0 < ks.length) (hn:n<=7) (hk:∀ k∈ks,IsC n k) (hc:(ks.flatMap (clm n)).length<=12):∃ (w:Str) (ws:List Int),eV [.lst ks,.int cell]=.ok (.v (.tup [.str w,.tup (ws.map D.int),.tup ks]))/\IsC (n+1) (.tup [.str w,.tup (ws.map D.int),.tup ks]):=by
 have kl:=rG hk
 have q6:0<=cell % 6/\cell % 6 < 6:=⟨Int.emod_nonneg _ (by decide),Int.emod_lt_of_pos _ (by decide)⟩
 obtain ⟨w,hw,ew⟩:=zIb _ q6.1 q6.2
 have key:∀ (ws:List Int),wOK w ws ks.length->ws.length<=100->qW [.str w,.lst (ws.map D.int),.lst ks]=.ok (.v (.tup [.str w,.tup (ws.map D.int),.tup ks]))/\IsC (n+1) (.tup [.str w,.tup (ws.map D.int),.tup ks]):=fun ws hs hl=>zJE (.inl rfl) hw hs hl k0 (by omega) hn hk hc
 have nl:noLs ks=true:=xS fun d hd=>sT _ _ (zAc _ _ (hk d hd))
 unfold eV
 walk_at "ev"
 rw [ew]
 walk_at "ev"
 have even:(w = "even" ∨ w = "lack")->∃ (w':Str) (ws:List Int),(((fL 3 (eF (jU (pO (aB (eB kQ (aB (aE 0) aNil)) aNil)) jN (eOp oU (eC (.int 1)) (eOp rK (eOp yJ (aE 1) (eOp oU (eC (.int 6)) (eOp oC (eC (.int 13)) (aE 4)))) (eC (.int 4))))))) [.val (.lst ks),.val (.int cell),.val (.str w),.val (.lst [])]).bind (zDW nI)).bind fin=.ok (.v (.tup [.str w',.tup (ws.map D.int),.tup ks]))/\IsC (n+1) (.tup [.str w',.tup (ws.map D.int),.tup ks]):=fun hw2=>by
  walk_at "ev"
  rw [rT (by omega) (by omega)]
  walk_at "ev"
  rw [show rng 0 ((ks.length:Int)).toNat 1=(List.range ks.length).map fun j:Nat=>D.int (j:Int) by unfold rng;rw [Int.toNat_natCast];exact List.map_congr_left fun j _=>by rw [show (0:Int)+(j:Int) * 1=(j:Int) by omega]]
  rw [jK (u:=fun j:Nat=>D.int (j:Int)) (g:=fun j:Nat=>D.int (1+cell / (6+13 * (j:Int)) % 4)) (by rw [List.length_range];omega) (fun j hj=>by
   walk_at "ev"
   rw [oDiv_i (i:=cell) (j:=6+13 * (j:Int)) (okDiv_lit (by omega) (by have:=List.mem_range.mp hj;omega)),fdiv_pos _ (by omega)]
   walk_at "ev")]
  walk_at "ev"
  obtain ⟨k1,k2⟩:=key ((List.range ks.length).map fun j:Nat=>1+cell / (6+13 * (j:Int)) % 4) (.inl ⟨hw2,by rw [List.length_map,List.length_range],fun x hx=>by
   obtain ⟨j,_,rfl⟩:=List.mem_map.mp hx
   have a:=Int.emod_nonneg (cell / (6+13 * (j:Int))) (b:=4) (by decide)
   have b:=Int.emod_lt_of_pos (cell / (6+13 * (j:Int))) (b:=4) (by decide)
   omega⟩) (by rw [List.length_map,List.length_range];omega)
  rw [List.map_map] at k1
  rw [show ((List.range ks.length).map fun j:Nat=>D.int (1+cell / (6+13 * (j:Int)) % 4))=(List.range ks.length).map (D.int ∘ fun j:Nat=>1+cell / (6+13 * (j:Int)) % 4) from rfl,k1]
  walk_at "ev"
  exact ⟨w,_,by rw [List.map_map],k2⟩
 have bq:∀ x:Str,(w==x)=decide (w=x):=fun x=>by
  by_cases h:w=x
  ·subst h;simp
  ·simp [h]
 generalize hA:(fL 3 (eF (jU (pO (aB (eB kQ (aB (aE 0) aNil)) aNil)) jN (eOp oU (eC (.int 1)) (eOp rK (eOp yJ (aE 1) (eOp oU (eC (.int 6)) (eOp oC (eC (.int 13)) (aE 4)))) (eC (.int 4)))))):Sv)=A at even ⊢
 rw [bq]
 by_cases h1:w = "even"
 ·rw [decide_eq_true h1]
  walk_at "ev"
  exact even (.inl h1)
 ·rw [decide_eq_false h1]
  walk_at "ev"
  rw [bq]
  by_cases h2:w = "lack"
  ·rw [decide_eq_true h2]
   walk_at "ev"
   exact even (.inr h2)
  ·rw [decide_eq_false h2]
   walk_at "ev"
   obtain ⟨k1,k2⟩:=key [] (.inr ⟨fun z=>z.elim h1 h2,rfl⟩) (by decide)
   rw [show D.lst []=.lst (([]:List Int).map D.int) from rfl,k1]
   exact ⟨w,[],rfl,k2⟩
structure Pt2 (cs:List Int) (i:Nat) (L:List D):Prop where
 each:∀ p∈L,IsC (i+1) p
 all:L.flatMap (clm 7)=cs.take i
 pos:0 < i->0 < L.length
theorem zGJ {cs ns:List Int} {a:Int} (a0:0<=a) (l1:1<=cs.length) (l5:cs.length<=6) (hc:∀ c∈cs,0<=c/\c<=10^9):∃ (w:Str) (ws:List Int) (ks:List D),gF [.lst (cs.map D.int),.lst (ns.map D.int),.int a]=.ok (.v (.tup [.str w,.tup (ws.map D.int),.tup ks]))/\Gc 8 (.tup [.str w,.tup (ws.map D.int),.tup ks])/\clm 8 (.tup [.str w,.tup (ws.map D.int),.tup ks])=cs:=by
 have fm:∀ {L:List D} {n:Nat},n<=7->(∀ p∈L,IsC n p)->L.flatMap (clm n)=L.flatMap (clm 7):=fun {L n} hn h=>by
  rw [List.flatMap_def,List.flatMap_def]
  congr 1
  exact List.map_congr_left fun d hd=>(jB (h d hd) hn).symm
 unfold gF
 walk_at "ev"
 refine kH (Q:=fun r=>∃ (w:Str) (ws:List Int) (ks:List D),r.bind fin=.ok (.v (.tup [.str w,.tup (ws.map D.int),.tup ks]))/\Gc 8 (.tup [.str w,.tup (ws.map D.int),.tup ks])/\clm 8 (.tup [.str w,.tup (ws.map D.int),.tup ks])=cs) (k:=zDW nD) (fun i ρ=>∃ (L:List D) (s4 s5 s6 s7:Sl),ρ=[.val (.lst (cs.map D.int)),.val (.lst (ns.map D.int)),.val (.int a),.own L,s4,s5,s6,s7]/\Pt2 cs i L) ⟨[],_,_,_,_,rfl,⟨fun p h=>(by cases h),by simp,fun h=>absurd h (by decide)⟩⟩ ?_ ?_
 ·rintro i e ρ he ⟨L,s4,s5,s6,s7,rfl,pt⟩
  obtain ⟨x,hx,rfl⟩:=zM he
  rw [List.getElem?_map] at hx
  obtain ⟨c,hcx,rfl⟩:∃ c,cs[i]?=some c/\x=.int c:=by
   cases q:cs[i]? with
   | none=>rw [q] at hx;cases hx
   | some c=>rw [q] at hx;cases hx;exact ⟨c,rfl,rfl⟩
  have hi:=(List.getElem?_eq_some_iff.mp hcx).1
  have cb:=hc c (List.mem_of_getElem? hcx)
  have tk:cs.take (i+1)=cs.take i++[c]:=rC hcx
  have allL:(L++[D.tup [.str "boat", .int c]]).flatMap (clm 7)=cs.take (i+1):=by
   rw [List.flatMap_append,pt.all,tk]
   rfl
  have eachL:∀ p∈L++[D.tup [.str "boat", .int c]],IsC (i+1) p:=fun p hp=>by
   rcases List.mem_append.mp hp with h | h
   ·exact pt.each p h
   ·rw [List.mem_singleton.mp h];exact .inl ⟨c,rfl⟩
  have lenL:(L++[D.tup [.str "boat", .int c]]).length<=6:=by
   have:=rG eachL
   rw [fm (by omega) eachL,allL,List.length_take] at this
   omega
  have posL:0 < (L++[D.tup [.str "boat", .int c]]).length:=by rw [List.length_append];exact Nat.succ_pos _
  have lenL':L.length<=5:=by rw [List.length_append] at lenL;exact Nat.le_of_succ_le_succ lenL
  generalize hM:L++[D.tup [.str "boat", .int c]]=M at allL eachL lenL posL
  walk_at "ev"
  rw [zIm cb.1 cb.2]
  walk_at "ev"
  rw [if_pos (by omega),hM]
  walk_at "ev"
  rw [eP ns _ (by omega)]
  walk_at "ev"
  have q0:=Int.emod_nonneg (ns.getD (a+(i:Int)).toNat 0) (b:=10^30) (by decide)
  generalize ns.getD (a+(i:Int)).toNat 0 % 10^30=cell at q0
  by_cases c2:cell % 2=1
  ·rw [decide_eq_true c2]
   walk_at "ev"
   have u0:=Int.emod_nonneg (cell / 2) (show min 3 (M.length:Int)≠0 by omega)
   have u1:=Int.emod_lt_of_pos (cell / 2) (show 0 < min 3 (M.length:Int) by omega)
   rw [oMod_i (by omega),fmod_pos _ (by omega)]
   generalize cell / 2 % min 3 (M.length:Int)=q at u0 u1
   walk_at "ev"
   rw [zCs (by omega),yW (by omega)]
   have lp:0 < (M.drop (M.length - (- -(1+q)).toNat)).length:=by rw [List.length_drop];omega
   generalize hk:M.length - (- -(1+q)).toNat=k at lp
   have sub:∀ d∈M.drop k,d∈M:=fun d hd=>List.mem_of_mem_drop hd
   obtain ⟨w,ws,ew,kc⟩:=zBP (ks:=M.drop k) (cell:=cell / 6) (n:=i+1) (by omega) lp (by omega) (fun d hd=>eachL d (sub d hd)) (by
    have:((M.take k).flatMap (clm (i+1))++(M.drop k).flatMap (clm (i+1))).length<=12:=by
     rw [<-List.flatMap_append,List.take_append_drop,fm (by omega) eachL,allL,List.length_take]
     omega
    rw [List.length_append] at this
    omega)
   rw [ew]
   walk_at "ev"
   rw [if_pos (by rw [List.length_take];omega)]
   have nl:noLs (M.take k++[.tup [.str w,.tup (ws.map D.int),.tup (M.drop k)]])=true:=xS fun d hd=>by
    rcases List.mem_append.mp hd with h | h
    ·exact sT _ _ (zAc _ _ (eachL d (List.mem_of_mem_take h)))
    ·rw [List.mem_singleton.mp h];exact sT _ _ (zAc _ _ kc)
   walk_at "ev"
   rw [if_pos nl]
   refine ⟨_,rfl,_,_,_,_,_,rfl,⟨fun p hp=>?_,?_,fun _=>by rw [List.length_append];exact Nat.succ_pos _⟩⟩
   ·rcases List.mem_append.mp hp with h | h
    ·exact gO (eachL p (List.mem_of_mem_take h)) (by omega)
    ·rw [List.mem_singleton.mp h];exact kc
   ·rw [List.flatMap_append,List.flatMap_cons,List.flatMap_nil,List.append_nil,jB (m:=7) kc (by omega),show clm (i+1+1) (D.tup [.str w,.tup (ws.map D.int),.tup (M.drop k)])=(M.drop k).flatMap (clm (i+1)) from rfl,fm (L:=M.drop k) (by omega) (fun d hd=>eachL d (sub d hd)),<-List.flatMap_append,List.take_append_drop,allL]
  ·rw [decide_eq_false c2]
   walk_at "ev"
   exact ⟨_,rfl,_,_,_,_,_,rfl,⟨fun p hp=>gO (eachL p hp) (by omega),allL,fun _=>posL⟩⟩
 ·rintro ρ ⟨L,s4,s5,s6,s7,rfl,pt⟩
  rw [zP,List.length_map] at pt
  have q0:=Int.emod_nonneg (ns.getD (a+(cs.length:Int)).toNat 0) (b:=10^30) (by decide)
  have al:L.flatMap (clm 7)=cs:=by rw [pt.all,List.take_length]
  have e7:∀ p∈L,IsC 7 p:=fun p hp=>gO (pt.each p hp) (by omega)
  obtain ⟨w,ws,ew,kc⟩:=zBP (ks:=L) (cell:=ns.getD (a+(cs.length:Int)).toNat 0 % 10^30) (n:=cs.length+1) q0 (pt.pos l1) (by omega) pt.each (by rw [fm (by omega) pt.each,al];omega)
  have e8:clm 8 (.tup [.str w,.tup (ws.map D.int),.tup L])=cs:=by
   rw [jB (m:=8) kc (by omega)]
   show L.flatMap (clm (cs.length+1))=cs
   rw [fm (by omega) pt.each,al]
  walk_at "ev"
  rw [eP ns _ (by omega)]
  walk_at "ev"
  rw [ew]
  walk_at "ev"
  exact ⟨w,ws,L,rfl,⟨gO kc (by omega),by rw [e8];omega,by rw [e8];exact hc⟩,e8⟩
theorem zFq {α:Type} {u:α->D} {t:Tv} {f:Ev} {ρ:Rho} {p:α->Bool}:∀ {l:List α},(∀ a∈l,t (ρ++[.val (u a)])=.ok (p a)/\f (ρ++[.val (u a)])=.ok (u a))->dN t f ρ (l.map u)=.ok ((l.filter p).map u)
 | [],_=>rfl
 | a::l,h=>by
  have ⟨h1,h2⟩:=h a List.mem_cons_self
  have ih:=zFq (u:=u) (t:=t) (f:=f) (ρ:=ρ) (p:=p) fun x hx=>h x (List.mem_cons_of_mem _ hx)
  rw [List.map_cons,dN,h1]
  cases z:p a with
  | true=>rw [List.filter_cons_of_pos z];simp only [noErr,Res.bind,if_true,h2,ih];rfl
  | false=>rw [List.filter_cons_of_neg (by rw [z];decide)];simp only [noErr,Res.bind,ih];rfl
theorem qR {a:Sl} {b:Nat}:∀ (l:List Rat) (B:Int) (s:Sl) (m:Nat),(∀ x∈l,x.den < 2^b)->B.natAbs < 2^m->m+b * l.length<=90000000->
  ∃ s',loop (gName 2) lT (l.map dq) [a,.val (.int B),s]=.ok (.nx [a,.val (.int (B * jF l)),s'])/\(B * jF l).natAbs < 2^(m+b * l.length)
 | [],B,s,m,_,h2,_=>⟨s,by rw [List.map_nil,loop,jF,Int.mul_one],by rw [jF,Int.mul_one];exact h2⟩
 | x::r,B,s,m,h1,h2,h3=>by
  rw [List.length_cons,Nat.mul_add,Nat.mul_one] at h3
  have hx:((x.den:Int)).natAbs < 2^b:=h1 x List.mem_cons_self
  obtain ⟨s',e,hb⟩:=qR r (B * x.den) (.val (dq x)) (m+b) (fun y hy=>h1 y (List.mem_cons_of_mem _ hy)) (eM h2 hx) (by omega)
  have ed:B * jF (x::r)=B * x.den * jF r:=by rw [jF,Int.mul_assoc]
  refine ⟨s',?_,by rw [ed,List.length_cons,Nat.mul_add,Nat.mul_one,show m+(b * r.length+b)=m+b+b * r.length by omega];exact hb⟩
  rw [ed,<-e,List.map_cons]
  refine fA (ρ1:=[a,.val (.int B),.val (dq x)]) rfl ?_
  walk_at "ev"
  rw [oMul_i (bE (m:=m) (n:=b) h2 hx (by omega))]
  walk_at "ev"
theorem zCw {B:Int} {N b:Nat} (hB:B.natAbs < 2^N) (hN:N+b<=90000000) (hb:b<=8999):∀ {l:List Rat},(∀ x∈l,Sz b x)->hZ B (l.map dq)=.ok (l.map (zAC B))
 | [],_=>rfl
 | x::r,h=>by
  have z:=h x List.mem_cons_self
  have d0:=bI x
  have e1:iL (x.den:Int)=true:=kL (m:=b) (by omega) z.2 hb
  have q:(B.fdiv x.den).natAbs < 2^N:=by
   rw [fdiv_pos _ d0]
   exact Nat.lt_of_le_of_lt (Int.natAbs_ediv_le_natAbs _ _) hB
  have e2:fM x.num (B.fdiv x.den)=true:=bE (m:=b) (n:=N) z.1 q (by omega)
  rw [List.map_cons,hZ,show zDk B (dq x)=.ok (zAC B x) from if_pos (by rw [e1,e2];rfl)]
  show (hZ B (r.map dq)).bind _=_
  rw [zCw hB hN hb fun y hy=>h y (List.mem_cons_of_mem _ hy)]
  rfl
theorem zDB {l:List Rat} {b:Nat} (h:∀ x∈l,Sz b x) (hb:b<=8999) (hl:l.length<=12):dF [.lst (l.map dq)]=.ok (l.map (zAC (jF l))):=by
 have hm:b * l.length<=8999 * 12:=Nat.mul_le_mul hb hl
 obtain ⟨s',e,hB⟩:=qR (a:=.val (.lst (l.map dq))) l 1 .un 1 (fun x hx=>(h x hx).2) (by decide) (by omega)
 rw [Int.one_mul] at e hB
 have r1:oY (start 3 [.lst (l.map dq)])=.ok (.nx [.val (.lst (l.map dq)),.val (.int 1),.un]):=rfl
 have r2:iQ [.val (.lst (l.map dq)),.val (.int 1),.un]=.ok (.nx [.val (.lst (l.map dq)),.val (.int (jF l)),s']):=by
  walk_at "ev"
  exact e
 unfold dF pS
 rw [if_pos (show [D.lst (l.map dq)].length=1 from rfl),r1]
 show (match iQ [.val (.lst (l.map dq)),.val (.int 1),.un] with | .ok (.nx ρ')=>uP ρ' | _=>.no)=_
 rw [r2]
 show (if (l.map dq).length < 64 then hZ (jF l) (l.map dq) else .no)=_
 rw [if_pos (by rw [List.length_map];omega)]
 exact zCw hB (by omega) hb h
def ahd (kz:List Int) (j i:Nat):Bool:=decide (kz.getD j 0 < kz.getD i 0) || decide (kz.getD j 0=kz.getD i 0) && decide (j < i)
theorem lR {kz:List Int} {i j:Nat}:ahd kz j i=true ↔ kz.getD j 0 < kz.getD i 0∨kz.getD j 0=kz.getD i 0/\j < i:=by
 unfold ahd
 rw [Bool.or_eq_true,Bool.and_eq_true,decide_eq_true_eq,decide_eq_true_eq,decide_eq_true_eq]
theorem zEc {kz:List Int} {pre post:List Nat} {i:Nat} (h:aZ kz=pre++i::post):((List.range kz.length).filter fun j=>ahd kz j i).length=pre.length:=by
 have r:=gJ kz
 have p:((List.range kz.length).filter fun j=>ahd kz j i).Perm ((aZ kz).filter fun j=>ahd kz j i):=(r.1.symm).filter _
 rw [p.length_eq,h,List.filter_append,List.filter_cons]
 have w:(pre++i::post).Pairwise fun a b=>ahd kz a b=true:=by
  rw [<-h]
  refine (List.Pairwise.and r.2.1 r.2.2).imp fun z=>?_
  obtain ⟨z1,z2⟩:=z
  rw [lR]
  rcases Int.lt_or_eq_of_le z1 with y | y
  ·exact .inl y
  ·exact .inr ⟨y,z2 y⟩
 rw [List.pairwise_append,List.pairwise_cons] at w
 obtain ⟨_,⟨w2,_⟩,w3⟩:=w
 have e1:pre.filter (fun j=>ahd kz j i)=pre:=List.filter_eq_self.mpr fun a ha=>w3 a ha i List.mem_cons_self
 have e2:post.filter (fun j=>ahd kz j i)=[]:=List.filter_eq_nil_iff.mpr fun a ha z=>by
  have y:=w2 a ha
  rw [lR] at y z
  omega
 have e3:ahd kz i i=false:=by
  rw [Bool.eq_false_iff]
  intro z
  rw [lR] at z
  omega
 rw [e1,e2,e3]
 simp
theorem zBO {kz:List Int} {i m:Nat} (hi:i < kz.length):i∈(aZ kz).take m ↔ ((List.range kz.length).filter fun j=>ahd kz j i).length < m:=by
 have r:=gJ kz
 have hm:i∈aZ kz:=r.1.mem_iff.mpr (List.mem_range.mpr hi)
 obtain ⟨pre,post,e⟩:=List.append_of_mem hm
 rw [zEc e]
 have nd:(aZ kz).Nodup:=r.1.nodup_iff.mpr List.nodup_range
 rw [e] at nd ⊢
 rw [List.nodup_append,List.nodup_cons] at nd
 obtain ⟨_,⟨n2,_⟩,n3⟩:=nd
 rw [List.take_append]
 constructor
 ·intro h
  rcases List.mem_append.mp h with h | h
  ·exact absurd rfl (n3 i (List.mem_of_mem_take h) i List.mem_cons_self)
  ·by_cases c:pre.length < m
   ·exact c
   ·rw [show m - pre.length=0 by omega,List.take_zero] at h
    cases h
 ·intro h
  refine List.mem_append_right _ ?_
  rw [show m - pre.length=(m - pre.length - 1)+1 by omega,List.take_succ_cons]
  exact List.mem_cons_self
def fsh (xs:List Rat) (kz:List Int) (m:Nat):List Int:=(List.range xs.length).map fun i=>(xs.getD i 0).num / (xs.getD i 0).den+if i∈(aZ kz).take m then 1 else 0
theorem zEa (l:List Rat):noLs (l.map dq)=true:=zK.mpr fun d h=>by
 obtain ⟨q,_,rfl⟩:=List.mem_map.mp h
 exact noL_dq q
def flo (x:Rat):Int:=x.num / x.den
def brk (xs:List Rat):List Rat:=xs.map fun x=>((flo x:Int):Rat) - x
def kzs (xs:List Rat):List Int:=(brk xs).map (zAC (jF (brk xs)))
theorem zGx {x:Rat} {b:Nat} (z:Sz b x) (hb:b<=8999):gH [dq x]=.ok (.v (.int (flo x))):=by
 unfold gH
 walk_at "ev"
 rw [oDiv_i (kL (m:=b) (by have:=bI x;omega) z.d hb),fdiv_pos _ (bI x)]
 walk_at "ev"
 rfl
def zFi:List Nat->List Int->List Int
 | [],ts=>ts
 | i::σ,ts=>zFi σ (ts.set i (ts.getD i 0+1))
theorem rS:∀ (σ:List Nat) (ts:List Int),(zFi σ ts).length=ts.length
 | [],ts=>rfl
 | i::σ,ts=>by rw [zFi,rS σ,List.length_set]
theorem zEr {ts:List Int} {i j:Nat} {a:Int} (hi:i < ts.length):(ts.set i a).getD j 0=if j=i then a else ts.getD j 0:=by
 rw [List.getD_eq_getElem?_getD,List.getD_eq_getElem?_getD]
 by_cases c:j=i
 ·rw [if_pos c,c,List.getElem?_set_self hi];rfl
 ·rw [if_neg c,List.getElem?_set_ne (fun z=>c z.symm)]
theorem zBp:∀ (σ:List Nat) (ts:List Int) (j:Nat),σ.Nodup->(∀ i∈σ,i < ts.length)->(zFi σ ts).getD j 0=ts.getD j 0+if j∈σ then 1 else 0
 | [],ts,j,_,_=>by rw [zFi,if_neg List.not_mem_nil,Int.add_zero]
 | i::σ,ts,j,nd,h=>by
  rw [List.nodup_cons] at nd
  have hi:=h i List.mem_cons_self
  rw [zFi,zBp σ _ j nd.2 (fun k hk=>by rw [List.length_set];exact h k (List.mem_cons_of_mem _ hk)),zEr hi]
  by_cases c:j=i
  ·subst c
   rw [if_pos rfl,if_neg nd.1,if_pos List.mem_cons_self,Int.add_zero]
  ·rw [if_neg c]
   by_cases c2:j∈σ
   ·rw [if_pos c2,if_pos (List.mem_cons_of_mem _ c2)]
   ·rw [if_neg c2,if_neg (fun z=>by rcases List.mem_cons.mp z with y | y;exact c y;exact c2 y)]
theorem zIM {i:Nat} {k e:Ev} {ρ:Rho} {ds:List D} {j:Nat} {x y:Int} (h1:e ρ=.ok (.int y)) (h2:ρ[i]?=some (.own ds)) (h3:k ρ=.ok (.int (j:Int))) (hj:j < 1000) (h4:ds[j]?=some (.int x)):zBX i k e ρ=.ok (.nx (ρ.set i (.own (ds.set j (.int (x+y)))))):=by
 have c:zIj (j:Int)=true:=zAu.mpr ⟨Int.natCast_nonneg j,Int.ofNat_lt.mpr hj⟩
 unfold zBX
 rw [h2]
 simp only [h3,Res.ok_bind]
 rw [if_pos c,Int.toNat_natCast,h4]
 simp only [h1,Res.ok_bind]
theorem vY {a0 a1 a2 a4 a5:Sl}:∀ (σ:List Nat) (ts:List Int) (s:Sl),(∀ i∈σ,i < ts.length)->ts.length<=100->
  ∃ s',loop (gName 6) zF (dZ σ) [a0,a1,a2,.own (ts.map D.int),a4,a5,s]=.ok (.nx [a0,a1,a2,.own ((zFi σ ts).map D.int),a4,a5,s'])
 | [],ts,s,_,_=>⟨s,rfl⟩
 | i::σ,ts,s,h,hl=>by
  have hi:=h i List.mem_cons_self
  obtain ⟨s',e⟩:=vY σ (ts.set i (ts.getD i 0+1)) (.val (.int (i:Int))) (fun k hk=>by rw [List.length_set];exact h k (List.mem_cons_of_mem _ hk)) (by rw [List.length_set];exact hl)
  refine ⟨s',?_⟩
  rw [zFi,<-e]
  show loop _ _ (.int (i:Nat)::dZ σ) _=_
  refine fA (ρ1:=[a0,a1,a2,.own (ts.map D.int),a4,a5,.val (.int (i:Int))]) rfl ?_
  have g:(ts.map D.int)[i]?=some (.int (ts.getD i 0)):=by rw [List.getElem?_map,aX hi];rfl
  rw [List.map_set]
  exact zIM (y:=1) rfl rfl rfl (by omega) g
theorem zCO:∀ xs:List Rat,((xs.zip xs).map fun p=>dq (((flo p.1:Int):Rat) - p.2))=(brk xs).map dq
 | []=>rfl
 | x::r=>by rw [List.zip_cons_cons,List.map_cons,zCO r];rfl
theorem zA {xs:List Rat} {kz:List Int} {m i:Nat} (hi:i < xs.length):(fsh xs kz m).getD i 0=flo (xs.getD i 0)+if i∈(aZ kz).take m then 1 else 0:=by
 unfold fsh
 rw [List.getD_eq_getElem?_getD,List.getElem?_map,List.getElem?_range hi]
 rfl
theorem zGw {xs:List Rat} {kz:List Int} {m:Nat}:(fsh xs kz m).length=xs.length:=by unfold fsh;rw [List.length_map,List.length_range]
theorem zIx {d:D} {c:Int} {xs:List Rat} {b:Nat} (e:dS [d,dq (c:Rat)]=.ok (.f (xs.map dq))) (z:∀ x∈xs,Sz b x) (hb:b<=4000) (hf:∀ x∈xs,(flo x).natAbs < 2^40) (hl:xs.length<=12) (h0:0<=c - (xs.map flo).sum):
  qV [d,.int c]=.ok (.f ((fsh xs (kzs xs) (c - (xs.map flo).sum).toNat).map D.int)):=by
 have zf:∀ x∈xs,Sz 40 ((flo x:Int):Rat):=fun x hx=>⟨hf x hx,by show 1 < 2^40;decide⟩
 have zb:∀ y∈brk xs,Sz (40+b+1) y:=fun y hy=>by
  obtain ⟨x,hx,rfl⟩:=List.mem_map.mp hy
  exact (zf x hx).sub (z x hx)
 have hk:=zDB zb (by omega) (by unfold brk;rw [List.length_map];exact hl)
 have lk:(kzs xs).length=xs.length:=by unfold kzs brk;rw [List.length_map,List.length_map]
 have r1:(aZ (kzs xs)).Perm (List.range xs.length):=by rw [<-lk];exact (gJ _).1
 have nd:(aZ (kzs xs)).Nodup:=r1.nodup_iff.mpr List.nodup_range
 unfold qV
 walk_at "ev"
 rw [bX]
 walk_at "ev"
 rw [e]
 walk_at "ev"
 rw [jK (u:=dq) (g:=fun x=>.int (flo x)) (by omega) (fun x hx=>by walk_at "ev"; rw [zGx (z x hx) (by omega)];walk_at "ev")]
 walk_at "ev"
 rw [mW (xs:=xs.map fun x=>D.int (flo x)) (ys:=xs.map dq) rfl rfl]
 walk_at "ev"
 rw [iV (u:=fun x=>D.int (flo x)) (v:=dq) (g:=fun a b=>dq (((flo a:Int):Rat) - b)) (l:=xs) (m:=xs) (by omega) (fun p hp=>by
  obtain ⟨a,b'⟩:=p
  have hz:=List.of_mem_zip hp
  walk_at "ev"
  rw [bX]
  walk_at "ev"
  rw [gP (zf a hz.1) (z b' hz.2) (by omega)]
  walk_at "ev")]
 walk_at "ev"
 rw [zCO,if_pos (zEa _)]
 walk_at "ev"
 rw [show (xs.map fun x=>D.int (flo x))=(xs.map flo).map D.int by rw [List.map_map];rfl]
 walk_at "ev"
 rw [show zAD dF (aB (aE 4) aNil) [.val d,.val (.int c),.val (.lst (xs.map dq)),.own ((xs.map flo).map D.int),.val (.lst ((brk xs).map dq)),.val (.int (c - (xs.map flo).sum)),.un]=.ok (dZ (aZ (kzs xs))) by
  unfold zAD
  walk_at "ev"
  rw [hk]
  rfl]
 walk_at "ev"
 rw [zEL h0]
 have tk:(dZ (aZ (kzs xs))).take (c - (xs.map flo).sum).toNat=dZ ((aZ (kzs xs)).take (c - (xs.map flo).sum).toNat):=by unfold dZ;rw [List.map_take]
 rw [tk]
 have mem:∀ i∈(aZ (kzs xs)).take (c - (xs.map flo).sum).toNat,i < xs.length:=fun i hi=>List.mem_range.mp (r1.mem_iff.mp (List.mem_of_mem_take hi))
 obtain ⟨s',el⟩:=vY (a0:=.val d) (a1:=.val (.int c)) (a2:=.val (.lst (xs.map dq))) (a4:=.val (.lst ((brk xs).map dq))) (a5:=.val (.int (c - (xs.map flo).sum))) ((aZ (kzs xs)).take (c - (xs.map flo).sum).toNat) (xs.map flo) .un (fun i hi=>by rw [List.length_map];exact mem i hi) (by rw [List.length_map];omega)
 rw [el]
 walk_at "ev"
 have fin:zFi ((aZ (kzs xs)).take (c - (xs.map flo).sum).toNat) (xs.map flo)=fsh xs (kzs xs) (c - (xs.map flo).sum).toNat:=by
  refine List.ext_getElem (by rw [rS,List.length_map];unfold fsh;rw [List.length_map,List.length_range]) fun i h1 h2=>?_
  have hi:i < xs.length:=by rw [rS,List.length_map] at h1;exact h1
  have ga:∀ (l:List Int) (h:i < l.length),l[i]=l.getD i 0:=fun l h=>by rw [List.getD_eq_getElem?_getD,List.getElem?_eq_getElem h];rfl
  rw [ga _ h1,zBp _ _ _ ((List.take_sublist _ _).nodup nd) (fun k hk=>by rw [List.length_map];exact mem k hk)]
  rw [ga _ h2,zA hi,List.getD_eq_getElem?_getD,List.getElem?_map,List.getD_eq_getElem?_getD,List.getElem?_eq_getElem hi]
  rfl
 rw [fin]
theorem jL {l:List Rat} {i:Nat} (h:i < l.length):l.getD i 0∈l/\l[i]?=some (l.getD i 0):=by
 have e:l[i]?=some (l.getD i 0):=by rw [List.getD_eq_getElem?_getD,List.getElem?_eq_getElem h];rfl
 exact ⟨List.mem_of_getElem? e,e⟩
theorem zFz (x:Rat):((x.num % x.den:Int):Rat)=(x - ((flo x:Int):Rat)) * ((x.den:Int):Rat):=by
 rw [Int.emod_def,Rat.intCast_sub,Rat.intCast_mul,tY]
 show x * ((x.den:Int):Rat) - ((x.den:Int):Rat) * ((flo x:Int):Rat)=_
 grind
theorem zJt {xs:List Rat} {i:Nat} (hi:i < xs.length):(((kzs xs).getD i 0:Int):Rat)=(((flo (xs.getD i 0):Int):Rat) - xs.getD i 0) * ((jF (brk xs):Int):Rat):=by
 have e:=(jL hi).2
 have eb:(brk xs)[i]?=some (((flo (xs.getD i 0):Int):Rat) - xs.getD i 0):=by unfold brk;rw [List.getElem?_map,e];rfl
 have ek:(kzs xs).getD i 0=zAC (jF (brk xs)) (((flo (xs.getD i 0):Int):Rat) - xs.getD i 0):=by
  unfold kzs
  rw [List.getD_eq_getElem?_getD,List.getElem?_map,eb]
  rfl
 rw [ek,zFD (List.mem_of_getElem? eb)]
theorem zFH (x:Rat):((flo x:Int):Rat)<=x:=by
 have m:=zFz x
 have p:(0:Rat) < ((x.den:Int):Rat):=by exact_mod_cast bI x
 have n:(0:Rat)<=((x.num % x.den:Int):Rat):=by exact_mod_cast Int.emod_nonneg x.num (show (x.den:Int)≠0 by have:=bI x;omega)
 rw [m] at n
 have h:0<=x - ((flo x:Int):Rat):=Rat.not_lt.mp fun h=>by
  have:=Rat.mul_lt_mul_right p |>.mpr h
  grind
 grind
theorem zDa:∀ xs:List Rat,(((xs.map flo).sum:Int):Rat)<=xs.sum
 | []=>by simp
 | x::r=>by
  rw [List.map_cons,List.sum_cons,List.sum_cons,Rat.intCast_add]
  have:=zFH x
  have:=zDa r
  grind
theorem zCn {d:D} {c:Int} (g:Gc 8 d) (c0:0<=c) (c1:c<=(clm 8 d).sum):∃ xs:List Rat,Sh 8 d (c:Rat) xs/\xs.sum=(c:Rat)/\(A2 Bc xs (clm 8 d))/\(∀ x∈xs,Sz 2920 x)/\0<=c - (xs.map flo).sum/\qV [d,.int c]=.ok (.f ((fsh xs (kzs xs) (c - (xs.map flo).sum).toNat).map D.int))/\dS [d,dq (c:Rat)]=.ok (.f (xs.map dq)):=by
 have q0:(0:Rat)<=(c:Rat):=by exact_mod_cast c0
 have q1:(c:Rat)<=((clm 8 d).sum:Rat):=by exact_mod_cast c1
 obtain ⟨xs,ex,sx⟩:=zEj (m:=1) g (by decide) q0 q1 (by show (1:Int) < 2^1;decide) (by decide)
 obtain ⟨bd,sm⟩:=zKa g sx q0 q1
 obtain ⟨E,e0,e1,e2⟩:=zJv g sx q0 q1 (Dn.den (c:Rat))
 have kb:kn 8 d<=84:=by have:=zJM g.1;have:=g.2.1;omega
 have C0:0 < (((c:Rat).den:Nat):Int) * E:=Int.mul_pos (bI _) e0
 have C1:(((c:Rat).den:Nat):Int) * E < 2^2886:=by
  have a:E<=2^(34 * 84):=Int.le_trans e1 (by
   rw [show 34 * 84=34 * kn 8 d+(34 * 84 - 34 * kn 8 d) by omega,Int.pow_add]
   have u:(0:Int) < 2^(34 * kn 8 d):=Int.pow_pos (by decide)
   have v:(0:Int) < 2^(34 * 84 - 34 * kn 8 d):=Int.pow_pos (by decide)
   have w:=Int.mul_le_mul_of_nonneg_left (show (1:Int)<=2^(34 * 84 - 34 * kn 8 d) by omega) (Int.le_of_lt u)
   rw [Int.mul_one] at w
   exact w)
  have b:(((c:Rat).den:Nat):Int) * E < 2^30 * 2^(34 * 84):=Int.mul_lt_mul (show (1:Int) < 2^30 by decide) a e0 (by decide)
  rw [<-Int.pow_add] at b
  exact b
 have z:∀ x∈xs,Sz 2920 x:=fun x hx=>by
  obtain ⟨y,hy,w⟩:=bd.mem hx
  have:=(g.2.2 y hy).2
  exact (e2 x hx).sz (a:=34) (b:=2886) C0 C1 w.1 (c:=y) w.2 (by omega)
 have hf:∀ x∈xs,(flo x).natAbs < 2^40:=fun x hx=>by
  obtain ⟨y,hy,w⟩:=bd.mem hx
  have u:=(g.2.2 y hy).2
  have n0:0<=flo x:=Int.ediv_nonneg (Rat.num_nonneg.mpr w.1) (by have:=bI x;omega)
  have l:((flo x:Int):Rat)<=(y:Rat):=Rat.le_trans (zFH x) w.2
  have l':flo x<=y:=Rat.intCast_le_intCast.mp l
  omega
 have ln:=zB sx
 have l12:=g.2.1
 have h0:0<=c - (xs.map flo).sum:=by
  have s:=zDa xs
  rw [sm] at s
  have:=Rat.intCast_le_intCast.mp s
  omega
 exact ⟨xs,sx,sm,bd,z,h0,zIx ex z (by decide) hf (by omega) h0,ex⟩
def frc (x:Rat):Rat:=x - ((flo x:Int):Rat)
theorem zN (x:Rat):0<=frc x/\frc x < 1:=by
 have m:=zFz x
 have p:(0:Rat) < ((x.den:Int):Rat):=by exact_mod_cast bI x
 have n:(0:Rat)<=((x.num % x.den:Int):Rat):=by exact_mod_cast Int.emod_nonneg x.num (show (x.den:Int)≠0 by have:=bI x;omega)
 have u:((x.num % x.den:Int):Rat) < ((x.den:Int):Rat):=by exact_mod_cast Int.emod_lt_of_pos x.num (bI x)
 have e:frc x=x - ((flo x:Int):Rat):=rfl
 rw [m,<-e] at n u
 refine ⟨Rat.not_lt.mp fun h=>?_,Rat.not_le.mp fun h=>?_⟩
 ·have:=Rat.mul_lt_mul_right p |>.mpr h
  grind
 ·have:=Rat.mul_le_mul_of_nonneg_right h (Rat.le_of_lt p)
  grind
theorem zBl {xs:List Rat} {i j:Nat} (hi:i < xs.length) (hj:j < xs.length):(kzs xs).getD j 0 < (kzs xs).getD i 0 ↔ frc (xs.getD i 0) < frc (xs.getD j 0):=by
 rw [<-Rat.intCast_lt_intCast,zJt hi,zJt hj]
 have pd:(0:Rat) < ((jF (brk xs):Int):Rat):=by exact_mod_cast rW _
 rw [Rat.mul_lt_mul_right pd]
 unfold frc
 constructor<;>intro h<;>grind
def ahn (kz:List Int) (n i:Nat):Nat:=((List.range n).filter fun j=>ahd kz j i).length
theorem zBw {p q:Nat->Bool}:∀ {l:List Nat},(∀ j∈l,p j=true->q j=true)->(l.filter p).length<=(l.filter q).length
 | [],_=>Nat.le_refl _
 | a::l,h=>by
  have ih:=zBw (l:=l) fun j hj=>h j (List.mem_cons_of_mem _ hj)
  have ha:=h a List.mem_cons_self
  rw [List.filter_cons,List.filter_cons]
  cases hp:p a<;>cases hq:q a
  ·exact ih
  ·exact Nat.le_succ_of_le ih
  ·rw [ha hp] at hq;cases hq
  ·exact Nat.succ_le_succ ih
theorem zCM:∀ xs:List Rat,(xs.map frc).sum<=(((xs.filter fun x=>decide (0 < frc x)).length:Int):Rat)
 | []=>by simp
 | x::r=>by
  have ih:=zCM r
  have b:=zN x
  rw [List.map_cons,List.sum_cons,List.filter_cons]
  by_cases h:0 < frc x
  ·rw [if_pos (decide_eq_true h),List.length_cons,Int.natCast_succ,Rat.intCast_add]
   have:((1:Int):Rat)=1:=rfl
   grind
  ·rw [if_neg (by rw [decide_eq_true_iff];exact h)]
   grind
theorem zCe:∀ xs:List Rat,(xs.map frc).sum=xs.sum - (((xs.map flo).sum:Int):Rat)
 | []=>by simp;grind
 | x::r=>by
  rw [List.map_cons,List.sum_cons,List.map_cons,List.sum_cons,List.sum_cons,zCe r,Rat.intCast_add]
  unfold frc
  grind
theorem zBq (xs:List Rat) (p:Rat->Bool):(xs.filter p).length=((List.range xs.length).filter fun j=>p (xs.getD j 0)).length:=by
 have e:=sR (l:=xs) rfl
 have:xs.filter p=((List.range xs.length).map fun i=>xs.getD i 0).filter p:=by rw [<-e]
 rw [this,List.filter_map,List.length_map]
 rfl
structure Fi (xs:List Rat) (m:Nat):Prop where
 sum:((m:Int):Rat)=(xs.map frc).sum
theorem Fi.cnt {xs:List Rat} {m:Nat} (h:Fi xs m):m<=((List.range xs.length).filter fun j=>decide (0 < frc (xs.getD j 0))).length:=by
 have e:=zCM xs
 rw [<-h.sum,zBq] at e
 have:=Rat.intCast_le_intCast.mp e
 exact Int.ofNat_le.mp this
theorem Fi.le {xs:List Rat} {m:Nat} (h:Fi xs m):m<=xs.length:=Nat.le_trans h.cnt (Nat.le_trans (List.length_filter_le _ _) (by rw [List.length_range];exact Nat.le_refl _))
theorem yU (xs:List Rat):(kzs xs).length=xs.length:=by unfold kzs brk;rw [List.length_map,List.length_map]
theorem yV {xs:List Rat} {m i:Nat} (hi:i < xs.length):i∈(aZ (kzs xs)).take m ↔ ahn (kzs xs) xs.length i < m:=by
 rw [zBO (by rw [yU];exact hi),yU]
 rfl
theorem Fi.pos {xs:List Rat} {m i:Nat} (h:Fi xs m) (hi:i < xs.length) (g:i∈(aZ (kzs xs)).take m):0 < frc (xs.getD i 0):=by
 refine Rat.not_le.mp fun z=>?_
 have lt:=(yV hi).mp g
 have:=zBw (l:=List.range xs.length) (p:=fun j=>decide (0 < frc (xs.getD j 0))) (q:=fun j=>ahd (kzs xs) j i) fun j hj hp=>by
  rw [lR]
  refine .inl ((zBl hi (List.mem_range.mp hj)).mpr ?_)
  exact Std.lt_of_le_of_lt z (of_decide_eq_true hp)
 have c:=h.cnt
 unfold ahn at lt
 omega
theorem zEi {xs:List Rat} {m i j:Nat} (hi:i < xs.length) (hj:j < xs.length) (hij:i≠j) (g:i∈(aZ (kzs xs)).take m) (g':j∉(aZ (kzs xs)).take m):ahd (kzs xs) i j=true:=by
 have a:=(yV hi).mp g
 have b:¬ ahn (kzs xs) xs.length j < m:=fun z=>g' ((yV hj).mpr z)
 by_cases c:ahd (kzs xs) i j=true
 ·exact c
 ·have:=zBw (l:=List.range xs.length) (p:=fun l=>ahd (kzs xs) l j) (q:=fun l=>ahd (kzs xs) l i) fun l _ hl=>by
   rw [lR] at c hl ⊢
   omega
  unfold ahn at a b
  omega
theorem zBF (σ:List Nat):∀ l:List Nat,(l.map fun i=>if i∈σ then (1:Int) else 0).sum=((l.filter fun i=>decide (i∈σ)).length:Int)
 | []=>rfl
 | a::l=>by
  rw [List.map_cons,List.sum_cons,zBF σ l,List.filter_cons]
  by_cases h:a∈σ
  ·rw [if_pos h,if_pos (decide_eq_true h),List.length_cons];omega
  ·rw [if_neg h,if_neg (by rw [decide_eq_true_iff];exact h)];omega
theorem zCx (f g:Nat->Int):∀ l:List Nat,(l.map fun i=>f i+g i).sum=(l.map f).sum+(l.map g).sum
 | []=>rfl
 | a::l=>by
  rw [List.map_cons,List.sum_cons,zCx f g l,List.map_cons,List.sum_cons,List.map_cons,List.sum_cons]
  omega
theorem Fi.total {xs:List Rat} {m:Nat} (h:Fi xs m):(fsh xs (kzs xs) m).sum=(xs.map flo).sum+(m:Int):=by
 have e:fsh xs (kzs xs) m=(List.range xs.length).map fun i=>flo (xs.getD i 0)+if i∈(aZ (kzs xs)).take m then 1 else 0:=rfl
 rw [e,zCx,zBF]
 have e1:(List.range xs.length).map (fun i=>flo (xs.getD i 0))=xs.map flo:=by
  have e:=sR (l:=xs) rfl
  have:xs.map flo=((List.range xs.length).map fun i=>xs.getD i 0).map flo:=by rw [<-e]
  rw [this,List.map_map];rfl
 have r1:(aZ (kzs xs)).Perm (List.range xs.length):=by rw [<-yU];exact (gJ _).1
 have nd:(aZ (kzs xs)).Nodup:=r1.nodup_iff.mpr List.nodup_range
 have p:=(r1.symm.filter fun i=>decide (i∈(aZ (kzs xs)).take m)).length_eq
 have ll:(aZ (kzs xs)).length=xs.length:=by rw [r1.length_eq,List.length_range]
 rw [e1,p]
 congr 2
 have sp:=List.take_append_drop m (aZ (kzs xs))
 generalize aZ (kzs xs)=σ at *
 have nd':=nd
 rw [<-sp,List.nodup_append] at nd'
 have:(σ.filter fun i=>decide (i∈σ.take m))=σ.take m:=by
  conv=>lhs;arg 2;rw [<-sp]
  rw [List.filter_append,List.filter_eq_self.mpr fun a ha=>decide_eq_true ha,List.filter_eq_nil_iff.mpr fun a ha z=>nd'.2.2 a (of_decide_eq_true z) a ha rfl,List.append_nil]
 rw [this,List.length_take]
 have:=h.le
 omega
def Lf (a:Int) (x y:Rat):Int:=(a * x.den - x.num) * y.den
theorem vZ (a:Int) (x y:Rat):((Lf a x y:Int):Rat)=((a:Rat) - x) * (((x.den:Int):Rat) * ((y.den:Int):Rat)):=by
 unfold Lf
 rw [Rat.intCast_mul,Rat.intCast_sub,Rat.intCast_mul,tY]
 grind
theorem zLi {a:Int} {x:Rat} (ha:a.natAbs < 2^50) (zx:Sz 2920 x):(a * x.den - x.num).natAbs < 2^2971:=by
 have h1:(a * x.den).natAbs < 2^(50+2920):=by
  rw [Int.natAbs_mul,Nat.pow_add]
  exact Nat.mul_lt_mul'' ha zx.d
 have h2:x.num.natAbs < 2^2970:=Nat.lt_of_lt_of_le zx.1 (Nat.pow_le_pow_right (by decide) (by decide))
 have h3:(2:Nat)^2971=2^2970+2^2970:=by rw [show 2971=2970+1 from rfl,Nat.pow_succ]
 rw [show 50+2920=2970 from rfl] at h1
 rw [h3]
 generalize (2:Nat)^2970=B at h1 h2
 omega
theorem zEu {a:Int} {x y:Rat} (ha:a.natAbs < 2^50) (zx:Sz 2920 x) (zy:Sz 2920 y):eA [.int a,dq x,dq y]=.ok (.v (.int (Lf a x y * Lf a x y))):=by
 have z1:=zLi ha zx
 have z2:(Lf a x y).natAbs < 2^(2971+2920):=by
  unfold Lf
  rw [Int.natAbs_mul,Nat.pow_add]
  exact Nat.mul_lt_mul'' z1 zy.d
 unfold eA
 walk_at "ev"
 rw [oMul_i (bE ha zx.d (by decide))]
 walk_at "ev"
 rw [oMul_i (bE z1 zy.d (by decide))]
 walk_at "ev"
 rw [show (a * x.den - x.num) * y.den=Lf a x y from rfl,oMul_i (bE z2 z2 (by decide))]
 walk_at "ev"
theorem zJV {t c:Int} {x:Rat} (t0:0<=t) (t1:t<=c) (ht:t.natAbs < 2^50) (zx:Sz 2920 x) (h1:(t:Rat) - x < 1) (h2:-1 < (t:Rat) - x):gI [.int t,dq x,.int c]=.ok (.v (.bl true)):=by
 have pd:(0:Rat) < ((x.den:Int):Rat):=by exact_mod_cast bI x
 have e:((t * x.den - x.num:Int):Rat)=((t:Rat) - x) * ((x.den:Int):Rat):=by
  rw [Rat.intCast_sub,Rat.intCast_mul,tY]
  grind
 have u1:t * x.den - x.num < x.den:=by
  rw [<-Rat.intCast_lt_intCast,e]
  have:=Rat.mul_lt_mul_right pd |>.mpr h1
  grind
 have u2:-(x.den:Int) < t * x.den - x.num:=by
  rw [<-Rat.intCast_lt_intCast,e,Rat.intCast_neg]
  have:=Rat.mul_lt_mul_right pd |>.mpr h2
  grind
 unfold gI
 walk_at "ev"
 rw [decide_eq_false (by omega)]
 walk_at "ev"
 rw [decide_eq_false (by omega)]
 walk_at "ev"
 rw [oMul_i (bE ht zx.d (by decide))]
 walk_at "ev"
 rw [decide_eq_true (by omega)]
theorem zJd {a b:Int} {x y:Rat} (h:((a:Rat) - x) - ((b:Rat) - y) < 1):Lf a x y * Lf a x y+Lf b y x * Lf b y x < Lf (a - 1) x y * Lf (a - 1) x y+Lf (b+1) y x * Lf (b+1) y x:=by
 have px:(0:Rat) < ((x.den:Int):Rat):=by exact_mod_cast bI x
 have py:(0:Rat) < ((y.den:Int):Rat):=by exact_mod_cast bI y
 have pp:=Rat.mul_pos px py
 rw [<-Rat.intCast_lt_intCast,Rat.intCast_add,Rat.intCast_add,Rat.intCast_mul,Rat.intCast_mul,Rat.intCast_mul,Rat.intCast_mul,vZ,vZ,vZ,vZ,Rat.intCast_sub,Rat.intCast_add]
 have o1:((1:Int):Rat)=1:=rfl
 rw [o1]
 generalize ((x.den:Int):Rat)=d at *
 generalize ((y.den:Int):Rat)=e at *
 have q:(0:Rat) < 1 - ((a:Rat) - x)+((b:Rat) - y):=by grind
 have w:=Rat.mul_pos (Rat.mul_pos pp pp) q
 grind
theorem zIW {a b:Int} {x y:Rat} (h:((a:Rat) - x) - ((b:Rat) - y)=1):Lf (a - 1) x y * Lf (a - 1) x y+Lf (b+1) y x * Lf (b+1) y x=Lf a x y * Lf a x y+Lf b y x * Lf b y x:=by
 refine Rat.intCast_inj.mp ?_
 rw [Rat.intCast_add,Rat.intCast_add,Rat.intCast_mul,Rat.intCast_mul,Rat.intCast_mul,Rat.intCast_mul,vZ,vZ,vZ,vZ,Rat.intCast_sub,Rat.intCast_add]
 have o1:((1:Int):Rat)=1:=rfl
 rw [o1]
 generalize ((x.den:Int):Rat)=d at *
 generalize ((y.den:Int):Rat)=e at *
 have:(b:Rat)=(a:Rat) - x+y - 1:=by grind
 rw [this]
 grind
theorem yS {ts:List Int} {xs:List Rat} {i j:Nat} (lt:ts.length=xs.length) (hi:i < xs.length) (hj:j < xs.length) (zt:∀ t∈ts,t.natAbs < 2^40) (zx:∀ x∈xs,Sz 2920 x)
  (h:((ts.getD i 0:Int):Rat) - xs.getD i 0 - (((ts.getD j 0:Int):Rat) - xs.getD j 0) < 1∨((ts.getD i 0:Int):Rat) - xs.getD i 0 - (((ts.getD j 0:Int):Rat) - xs.getD j 0)=1/\i < j):
  cJ [.lst (ts.map D.int),.lst (xs.map dq),.int (i:Int),.int (j:Int)]=.ok (.v (.bl true)):=by
 have it:∀ k:Nat,k < xs.length->oIx (.lst (ts.map D.int)) (.int (k:Int))=.ok (.int (ts.getD k 0)):=fun k hk=>oK (Int.natCast_nonneg k) (aX (by omega))
 have ix:∀ k:Nat,k < xs.length->oIx (.lst (xs.map dq)) (.int (k:Int))=.ok (dq (xs.getD k 0)):=fun k hk=>oK (Int.natCast_nonneg k) (jL hk).2
 have ti:(ts.getD i 0).natAbs < 2^40:=zt _ (List.mem_of_getElem? (aX (by omega)))
 have tj:(ts.getD j 0).natAbs < 2^40:=zt _ (List.mem_of_getElem? (aX (by omega)))
 have xi:=zx _ (jL hi).1
 have xj:=zx _ (jL hj).1
 have i1:=it i hi
 have i2:=it j hj
 have i3:=ix i hi
 have i4:=ix j hj
 generalize ts.getD i 0=a at *
 generalize ts.getD j 0=b at *
 generalize xs.getD i 0=x at *
 generalize xs.getD j 0=y at *
 unfold cJ
 walk_at "ev"
 rw [i1]
 walk_at "ev"
 rw [i3]
 walk_at "ev"
 rw [i4]
 walk_at "ev"
 rw [zEu (by omega) xi xj]
 walk_at "ev"
 rw [i2]
 walk_at "ev"
 rw [i4]
 walk_at "ev"
 rw [i3]
 walk_at "ev"
 rw [zEu (by omega) xj xi]
 walk_at "ev"
 rw [i1]
 walk_at "ev"
 rw [i3]
 walk_at "ev"
 rw [i4]
 walk_at "ev"
 rw [zEu (by omega) xi xj]
 walk_at "ev"
 rw [i2]
 walk_at "ev"
 rw [i4]
 walk_at "ev"
 rw [i3]
 walk_at "ev"
 rw [zEu (by omega) xj xi]
 walk_at "ev"
 rcases h with h | ⟨h,hij⟩
 ·rw [decide_eq_true (zJd h)]
  walk_at "ev"
 ·rw [zIW h,decide_eq_false (by omega)]
  walk_at "ev"
  rw [decide_eq_true (Int.ofNat_lt.mpr hij)]
theorem zFt {xs:List Rat} {cs:List Int} {m i:Nat} (fi:Fi xs m) (bd:A2 Bc xs cs) (hi:i < xs.length):
  0<=(fsh xs (kzs xs) m).getD i 0/\(fsh xs (kzs xs) m).getD i 0<=cs.getD i 0/\(((fsh xs (kzs xs) m).getD i 0:Int):Rat) - xs.getD i 0 < 1/\-1 < (((fsh xs (kzs xs) m).getD i 0:Int):Rat) - xs.getD i 0:=by
 obtain ⟨x0,x1⟩:Bc (xs.getD i 0) (cs.getD i 0):=bd.at hi
 have fb:=zN (xs.getD i 0)
 have po:=fi.pos hi
 rw [zA hi]
 generalize xs.getD i 0=x at *
 generalize cs.getD i 0=c at *
 have n0:0<=flo x:=Int.ediv_nonneg (Rat.num_nonneg.mpr x0) (by have:=bI x;omega)
 have fe:frc x=x - ((flo x:Int):Rat):=rfl
 by_cases h:i∈(aZ (kzs xs)).take m
 ·have p:=po h
  rw [if_pos h,Rat.intCast_add]
  have o1:((1:Int):Rat)=1:=rfl
  rw [o1]
  have l:flo x < c:=by
   rw [<-Rat.intCast_lt_intCast]
   grind
  refine ⟨by omega,by omega,by grind,by grind⟩
 ·rw [if_neg h,Int.add_zero]
  have l:flo x<=c:=by
   rw [<-Rat.intCast_le_intCast]
   grind
  refine ⟨n0,l,by grind,by grind⟩
theorem zJL {xs:List Rat} {m i j:Nat} (fi:Fi xs m) (hi:i < xs.length) (hj:j < xs.length) (hij:i≠j):
  (((fsh xs (kzs xs) m).getD i 0:Int):Rat) - xs.getD i 0 - ((((fsh xs (kzs xs) m).getD j 0:Int):Rat) - xs.getD j 0) < 1∨(((fsh xs (kzs xs) m).getD i 0:Int):Rat) - xs.getD i 0 - ((((fsh xs (kzs xs) m).getD j 0:Int):Rat) - xs.getD j 0)=1/\i < j:=by
 have bi:=zN (xs.getD i 0)
 have bj:=zN (xs.getD j 0)
 have pi:=fi.pos hi
 have pj:=fi.pos hj
 have ah:=zEi hi hj hij (m:=m)
 have k1:=zBl hj hi
 have k2:=zBl hi hj
 rw [lR] at ah
 have key:∀ (a b:Bool) (x y:Rat),frc x=x - ((flo x:Int):Rat):=fun _ _ x _=>rfl
 rw [zA hi,zA hj]
 have ei:frc (xs.getD i 0)=xs.getD i 0 - ((flo (xs.getD i 0):Int):Rat):=rfl
 have ej:frc (xs.getD j 0)=xs.getD j 0 - ((flo (xs.getD j 0):Int):Rat):=rfl
 have o1:((1:Int):Rat)=1:=rfl
 by_cases h:i∈(aZ (kzs xs)).take m<;>by_cases h':j∈(aZ (kzs xs)).take m
 ·rw [if_pos h,if_pos h',Rat.intCast_add,Rat.intCast_add,o1]
  have:=pi h
  exact .inl (by grind)
 ·rw [if_pos h,if_neg h',Int.add_zero,Rat.intCast_add,o1]
  rcases ah h h' with a | ⟨a,b⟩
  ·have:=k1.mp a
   exact .inl (by grind)
  ·have n1:¬ frc (xs.getD j 0) < frc (xs.getD i 0):=fun z=>by have:=k1.mpr z;omega
   have n2:¬ frc (xs.getD i 0) < frc (xs.getD j 0):=fun z=>by have:=k2.mpr z;omega
   exact .inr ⟨by grind,b⟩
 ·rw [if_neg h,if_pos h',Int.add_zero,Rat.intCast_add,o1]
  exact .inl (by grind)
 ·rw [if_neg h,if_neg h',Int.add_zero,Int.add_zero]
  exact .inl (by grind)
theorem zHj (x:Res Fl):x.bind (fun r=>.ok r)=x:=by cases x<;>rfl
theorem zHu {d:D} {cs:List Int} {c:Int} (g:Gc 8 d) (e8:clm 8 d=cs) (c0:0<=c) (c1:c<=cs.sum):fJ [d,.lst (cs.map D.int),.int c]=.ok (.v (.bl true)):=by
 obtain ⟨xs,sx,sm,bd,zx,h0,ef,es⟩:=zCn g c0 (by rw [e8];exact c1)
 have ln:=zB sx
 have l12:=g.2.1
 have gc:=g.2.2
 rw [e8] at bd ln l12 gc
 have fi:Fi xs (c - (xs.map flo).sum).toNat:=⟨by rw [zCe,sm,Int.toNat_of_nonneg h0,Rat.intCast_sub]⟩
 have tot:=fi.total
 rw [Int.toNat_of_nonneg h0] at tot
 generalize hm:(c - (xs.map flo).sum).toNat=m at ef fi tot
 have near:=fun i (hi:i < xs.length)=>zFt fi bd hi
 have nb:=fun i j (hi:i < xs.length) (hj:j < xs.length) (hij:i≠j)=>zJL fi hi hj hij
 have lt:(fsh xs (kzs xs) m).length=xs.length:=zGw
 generalize fsh xs (kzs xs) m=ts at *
 have zt:∀ t∈ts,t.natAbs < 2^40:=fun t ht=>by
  obtain ⟨i,hi,rfl⟩:=List.mem_iff_getElem.mp ht
  have hx:i < xs.length:=by omega
  have n:=near i hx
  have e:ts.getD i 0=ts[i]:=by rw [List.getD_eq_getElem?_getD,List.getElem?_eq_getElem hi];rfl
  rw [e] at n
  have:=(gc _ (List.mem_of_getElem? (aX (show i < cs.length by omega)))).2
  omega
 unfold fJ
 walk_at "ev"
 rw [ef]
 walk_at "ev"
 rw [show dS [d,.tup [.int c,.int 1]]=.ok (.f (xs.map dq)) from es]
 walk_at "ev"
 rw [lt,ln]
 walk_at "ev"
 rw [zEs (xs:=ts.map D.int) (ys:=xs.map dq) (zs:=cs.map D.int) rfl rfl rfl]
 walk_at "ev"
 refine kH (Q:=fun r=>r.bind fin=.ok (.v (.bl true))) (k:=zDW gU) (fun i ρ=>∃ (a5 a6 a7:Sl),ρ=[.val d,.val (.lst (cs.map D.int)),.val (.int c),.val (.lst (ts.map D.int)),.val (.lst (xs.map dq)),a5,a6,a7,.un,.un]) ⟨_,_,_,rfl⟩ ?_ ?_
 ·rintro i e ρ he ⟨a5,a6,a7,rfl⟩
  obtain ⟨a,b,c',h1,h2,h3,rfl⟩:=rZ _ _ _ _ _ he
  have hi:i < xs.length:=by have:=(List.getElem?_eq_some_iff.mp h2).1;rwa [List.length_map] at this
  rw [List.getElem?_map,aX (show i < ts.length by omega)] at h1
  rw [List.getElem?_map,(jL hi).2] at h2
  rw [List.getElem?_map,aX (show i < cs.length by omega)] at h3
  cases h1;cases h2;cases h3
  have n:=near i hi
  refine ⟨[.val d,.val (.lst (cs.map D.int)),.val (.int c),.val (.lst (ts.map D.int)),.val (.lst (xs.map dq)),.val (.int (ts.getD i 0)),.val (dq (xs.getD i 0)),.val (.int (cs.getD i 0)),.un,.un],?_,_,_,_,rfl⟩
  walk_at "ev"
  rw [zJV n.1 n.2.1 (by have:=zt _ (List.mem_of_getElem? (aX (show i < ts.length by omega)));omega) (zx _ (jL hi).1) n.2.2.1 n.2.2.2]
  walk_at "ev"
 ·rintro ρ ⟨a5,a6,a7,rfl⟩
  show (gU _).bind fin=_
  walk_at "ev"
  rw [show ts.sum=c by omega]
  walk_at "ev"
  rw [rT (by omega) (by omega)]
  walk_at "ev"
  refine kH (Q:=fun r=>r.bind fin=.ok (.v (.bl true))) (k:=zDW jQ) (fun i ρ=>∃ (a8 a9:Sl),ρ=[.val d,.val (.lst (cs.map D.int)),.val (.int c),.val (.lst (ts.map D.int)),.val (.lst (xs.map dq)),a5,a6,a7,a8,a9]) ⟨_,_,rfl⟩ ?_ ?_
  ·rintro i e ρ he ⟨a8,a9,rfl⟩
   obtain ⟨hi,rfl⟩:=zBj he
   rw [Int.toNat_natCast] at hi
   rw [show (0:Int)+(i:Int) * 1=(i:Int) by omega]
   walk_at "ev"
   rw [rT (by omega) (by omega)]
   walk_at "ev"
   rw [<-zHj (loop (gName 9) jS _ _)]
   refine kH (Q:=fun r=>∃ ρ2,r=.ok (.nx ρ2)/\∃ (a8 a9:Sl),ρ2=[.val d,.val (.lst (cs.map D.int)),.val (.int c),.val (.lst (ts.map D.int)),.val (.lst (xs.map dq)),a5,a6,a7,a8,a9]) (k:=fun r=>.ok r) (fun j ρ=>∃ a9:Sl,ρ=[.val d,.val (.lst (cs.map D.int)),.val (.int c),.val (.lst (ts.map D.int)),.val (.lst (xs.map dq)),a5,a6,a7,.val (.int (i:Int)),a9]) ⟨_,rfl⟩ ?_ ?_
   ·rintro j e ρ he ⟨a9,rfl⟩
    obtain ⟨hj,rfl⟩:=zBj he
    rw [Int.toNat_natCast] at hj
    rw [show (0:Int)+(j:Int) * 1=(j:Int) by omega]
    have it:∀ k:Nat,k < xs.length->oIx (.lst (ts.map D.int)) (.int (k:Int))=.ok (.int (ts.getD k 0)):=fun k hk=>oK (Int.natCast_nonneg k) (aX (by omega))
    have ic:oIx (.lst (cs.map D.int)) (.int (j:Int))=.ok (.int (cs.getD j 0)):=oK (Int.natCast_nonneg j) (aX (by omega))
    refine ⟨[.val d,.val (.lst (cs.map D.int)),.val (.int c),.val (.lst (ts.map D.int)),.val (.lst (xs.map dq)),a5,a6,a7,.val (.int (i:Int)),.val (.int (j:Int))],?_,_,rfl⟩
    walk_at "ev"
    by_cases q:(i:Int)=(j:Int)
    ·rw [decide_eq_true q]
     walk_at "ev"
    rw [decide_eq_false q]
    walk_at "ev"
    rw [it i (by omega)]
    walk_at "ev"
    by_cases q1:0 < ts.getD i 0
    rotate_left
    ·rw [decide_eq_false q1]
     walk_at "ev"
    rw [decide_eq_true q1]
    walk_at "ev"
    rw [it j (by omega)]
    walk_at "ev"
    rw [ic]
    walk_at "ev"
    by_cases q2:ts.getD j 0 < cs.getD j 0
    rotate_left
    ·rw [decide_eq_false q2]
     walk_at "ev"
    rw [decide_eq_true q2]
    walk_at "ev"
    rw [yS lt (by omega) (by omega) zt zx (nb i j (by omega) (by omega) (by omega))]
    walk_at "ev"
   ·rintro ρ ⟨a9,rfl⟩
    exact ⟨_,rfl,_,_,rfl⟩
  ·rintro ρ ⟨a8,a9,rfl⟩
   rfl
theorem law_true:∀ ns:List Int,ns.length<=63->zGV [.lst (ns.map D.int)]=.ok (.v (.bl true)):=by
 intro ns hl
 obtain ⟨cs,ec,l1,l6,hc⟩:=zDz ns 0 6 (by decide) (by decide) (by decide)
 obtain ⟨w,ws,ks,et,g,e8⟩:=zGJ (ns:=ns) (a:=7) (by decide) l1 (by omega) hc
 generalize hd:D.tup [.str w,.tup (ws.map D.int),.tup ks]=d at et g e8
 have gs:=g.sum
 rw [e8] at gs
 unfold zGV
 walk_at "ev"
 rw [ec]
 walk_at "ev"
 rw [et]
 walk_at "ev"
 generalize hs:dY (ns.map D.int) (some 14) (some 24)=sl
 have hsl:∃ ms:List Int,sl=ms.map D.int/\ms.length<=63:=
  ⟨(ns.drop 14).take 10,by rw [<-hs,zBZ (by decide) (by decide),<-List.map_drop,<-List.map_take];rfl,by rw [List.length_take,List.length_drop];omega⟩
 obtain ⟨ms,rfl,lm⟩:=hsl
 rw [show [D.int 0,D.int cs.sum]=[0,cs.sum].map D.int from rfl]
 refine kH (Q:=fun r=>r.bind fin=.ok (.v (.bl true))) (k:=zDW yQ) (fun i ρ=>∃ (hs:List Int) (a4:Sl),ρ=[.val (.lst (ns.map D.int)),.val (.lst (cs.map D.int)),.val d,.own (hs.map D.int),a4]/\hs.length=2+i/\∀ c∈hs,0<=c/\c<=cs.sum) ⟨[0,cs.sum],_,rfl,rfl,fun c h=>?_⟩ ?_ ?_
 ·rcases List.mem_cons.mp h with rfl | h
  ·exact ⟨Int.le_refl _,gs.1⟩
  ·rw [List.mem_singleton.mp h];exact ⟨gs.1,Int.le_refl _⟩
 ·rintro i el ρ he ⟨hs,a4,rfl,lh,hh⟩
  have hi:i < ms.length:=by have:=(List.getElem?_eq_some_iff.mp he).1;rwa [List.length_map] at this
  obtain ⟨x,_,rfl⟩:=List.mem_map.mp (List.mem_of_getElem? he)
  have n0:=Int.emod_nonneg x (show cs.sum+1≠0 by omega)
  have n1:=Int.emod_lt_of_pos x (show 0 < cs.sum+1 by omega)
  refine ⟨[.val (.lst (ns.map D.int)),.val (.lst (cs.map D.int)),.val d,.own ((hs++[x % (cs.sum+1)]).map D.int),.val (.int x)],?_,_,_,rfl,by rw [List.length_append,lh];rfl,fun c h=>?_⟩
  ·walk_at "ev"
   rw [oMod_i (show cs.sum+1≠0 by omega),fmod_pos _ (show 0 < cs.sum+1 by omega)]
   walk_at "ev"
   rw [if_pos (by omega),List.map_append]
   rfl
  ·rcases List.mem_append.mp h with h | h
   ·exact hh c h
   ·rw [List.mem_singleton.mp h];exact ⟨n0,by omega⟩
 ·rintro ρ ⟨hs,a4,rfl,lh,hh⟩
  rw [List.length_map] at lh
  show (yQ _).bind fin=_
  walk_at "ev"
  rw [jK (u:=D.int) (g:=fun _=>.bl true) (by omega) (fun x hx=>by
   walk_at "ev"
   rw [zHu g e8 (hh x hx).1 (hh x hx).2]
   walk_at "ev")]
  walk_at "ev"
  rw [zEN (p:=fun _=>true),List.all_eq_true.mpr fun _ _=>rfl]
  walk_at "ev"
end Lw
namespace Lw
open PySem PySem.Spec PyProof.Rows L2 L3
def top (i:Nat):Stmt:=PySem.Challenge.pw_catchhall_k54_whole_no_fish_better_elsew.main.body.getD i (.Pass ⟨0,0,0,0⟩)
abbrev eJ:Stmt:=top 10
theorem bL:FnScope ["one", "two", "rest"] ["one", "two"] (aD eJ):=⟨rfl,rfl,rfl,by decide +kernel,rfl,by decide +kernel,by decide +kernel⟩
abbrev zCl:Stmt:=top 11
theorem xY:FnScope ["top", "bottom", "divisor"] ["top", "bottom"] (aD zCl):=⟨rfl,rfl,rfl,by decide +kernel,rfl,by decide +kernel,by decide +kernel⟩
abbrev xB:Stmt:=top 12
theorem zEx:FnScope ["number"] ["number"] (aD xB):=⟨rfl,rfl,rfl,by decide +kernel,rfl,by decide +kernel,by decide +kernel⟩
abbrev zCK:Stmt:=top 13
theorem zGC:FnScope ["one", "two"] ["one", "two"] (aD zCK):=⟨rfl,rfl,rfl,by decide +kernel,rfl,by decide +kernel,by decide +kernel⟩
abbrev yI:Stmt:=top 14
theorem zEf:FnScope ["one", "two"] ["one", "two"] (aD yI):=⟨rfl,rfl,rfl,by decide +kernel,rfl,by decide +kernel,by decide +kernel⟩
abbrev yE:Stmt:=top 15
theorem zEB:FnScope ["one", "two"] ["one", "two"] (aD yE):=⟨rfl,rfl,rfl,by decide +kernel,rfl,by decide +kernel,by decide +kernel⟩
abbrev zDr:Stmt:=top 16
theorem zHl:FnScope ["one", "two"] ["one", "two"] (aD zDr):=⟨rfl,rfl,rfl,by decide +kernel,rfl,by decide +kernel,by decide +kernel⟩
abbrev zCj:Stmt:=top 17
theorem zGv:FnScope ["one", "two"] ["one", "two"] (aD zCj):=⟨rfl,rfl,rfl,by decide +kernel,rfl,by decide +kernel,by decide +kernel⟩
abbrev sC:Stmt:=top 18
theorem zCa:FnScope ["one", "two"] ["one", "two"] (aD sC):=⟨rfl,rfl,rfl,by decide +kernel,rfl,by decide +kernel,by decide +kernel⟩
abbrev jA:Stmt:=top 19
theorem rN:FnScope ["amount", "most"] ["amount", "most"] (aD jA):=⟨rfl,rfl,rfl,by decide +kernel,rfl,by decide +kernel,by decide +kernel⟩
abbrev eG:Stmt:=top 20
theorem mY:FnScope ["amount", "most"] ["amount", "most"] (aD eG):=⟨rfl,rfl,rfl,by decide +kernel,rfl,by decide +kernel,by decide +kernel⟩
abbrev lW:Stmt:=top 21
theorem yA:FnScope ["one"] ["one"] (aD lW):=⟨rfl,rfl,rfl,by decide +kernel,rfl,by decide +kernel,by decide +kernel⟩
abbrev eS:Stmt:=top 22
theorem lA:FnScope ["some", "bottom", "each"] ["some"] (aD eS):=⟨rfl,rfl,rfl,by decide +kernel,rfl,by decide +kernel,by decide +kernel⟩
abbrev sP:Stmt:=top 27
theorem zCp:FnScope ["way", "weights", "claims"] ["way", "weights", "claims"] (aD sP):=⟨rfl,rfl,rfl,by decide +kernel,rfl,by decide +kernel,by decide +kernel⟩
abbrev iR:Stmt:=top 28
theorem tU:FnScope ["way"] ["way"] (aD iR):=⟨rfl,rfl,rfl,by decide +kernel,rfl,by decide +kernel,by decide +kernel⟩
abbrev fB:Stmt:=top 29
theorem iD:FnScope ["claims", "claim"] ["claims"] (aD fB):=⟨rfl,rfl,rfl,by decide +kernel,rfl,by decide +kernel,by decide +kernel⟩
abbrev eI:Stmt:=top 30
theorem dP:FnScope ["way", "weights", "many", "due", "weight"] ["way", "weights", "many"] (aD eI):=⟨rfl,rfl,rfl,by decide +kernel,rfl,by decide +kernel,by decide +kernel⟩
abbrev xC:Stmt:=top 31
theorem zFm:FnScope ["way", "weights", "claims", "catch"] ["way", "weights", "claims", "catch"] (aD xC):=⟨rfl,rfl,rfl,by decide +kernel,rfl,by decide +kernel,by decide +kernel⟩
abbrev cI:Stmt:=top 32
theorem cP:FnScope ["way", "weights", "claims", "catch", "most", "lacking"] ["way", "weights", "claims", "catch"] (aD cI):=⟨rfl,rfl,rfl,by decide +kernel,rfl,by decide +kernel,by decide +kernel⟩
abbrev jY:Stmt:=top 33
theorem dA:FnScope ["claims", "catch", "left", "amounts", "claim", "amount"] ["claims", "catch"] (aD jY):=⟨rfl,rfl,rfl,by decide +kernel,rfl,by decide +kernel,by decide +kernel⟩
abbrev iX:Stmt:=top 34
theorem bT:FnScope ["weights", "claims", "catch", "left", "weight", "amounts", "spot", "by_weight"] ["weights", "claims", "catch"] (aD iX):=⟨rfl,rfl,rfl,by decide +kernel,rfl,by decide +kernel,by decide +kernel⟩
abbrev gM:Stmt:=top 35
theorem uK:FnScope ["weights", "claims"] ["weights", "claims"] (aD gM):=⟨rfl,rfl,rfl,by decide +kernel,rfl,by decide +kernel,by decide +kernel⟩
abbrev fW:Stmt:=top 36
theorem eU:FnScope ["claims", "catch", "most", "part"] ["claims", "catch"] (aD fW):=⟨rfl,rfl,rfl,by decide +kernel,rfl,by decide +kernel,by decide +kernel⟩
abbrev fO:Stmt:=top 37
theorem gW:FnScope ["claims", "catch", "ones"] ["claims", "catch"] (aD fO):=⟨rfl,rfl,rfl,by decide +kernel,rfl,by decide +kernel,by decide +kernel⟩
abbrev zBG:Stmt:=top 42
theorem zHN:FnScope ["claim"] ["claim"] (aD zBG):=⟨rfl,rfl,rfl,by decide +kernel,rfl,by decide +kernel,by decide +kernel⟩
abbrev zDq:Stmt:=top 43
theorem zBS:FnScope ["way", "weights", "kids", "custom"] ["way", "weights", "kids"] (aD zDq):=⟨rfl,rfl,rfl,by decide +kernel,rfl,by decide +kernel,by decide +kernel⟩
abbrev pC:Stmt:=top 44
theorem zBe:FnScope ["custom"] ["custom"] (aD pC):=⟨rfl,rfl,rfl,by decide +kernel,rfl,by decide +kernel,by decide +kernel⟩
abbrev tL:Stmt:=top 45
theorem zCN:FnScope ["custom"] ["custom"] (aD tL):=⟨rfl,rfl,rfl,by decide +kernel,rfl,by decide +kernel,by decide +kernel⟩
abbrev iU:Stmt:=top 46
theorem tJ:FnScope ["custom"] ["custom"] (aD iU):=⟨rfl,rfl,rfl,by decide +kernel,rfl,by decide +kernel,by decide +kernel⟩
abbrev oI:Stmt:=top 47
theorem zAY:FnScope ["custom"] ["custom"] (aD oI):=⟨rfl,rfl,rfl,by decide +kernel,rfl,by decide +kernel,by decide +kernel⟩
abbrev hJ:Stmt:=top 48
theorem fR:FnScope ["custom", "claims", "kid"] ["custom"] (aD hJ):=⟨rfl,rfl,rfl,by decide +kernel,rfl,by decide +kernel,by decide +kernel⟩
abbrev mF:Stmt:=top 49
theorem xQ:FnScope ["custom"] ["custom"] (aD mF):=⟨rfl,rfl,rfl,by decide +kernel,rfl,by decide +kernel,by decide +kernel⟩
abbrev fP:Stmt:=top 50
theorem kU:FnScope ["custom"] ["custom"] (aD fP):=⟨rfl,rfl,rfl,by decide +kernel,rfl,by decide +kernel,by decide +kernel⟩
abbrev iO:Stmt:=top 51
theorem mC:FnScope ["custom"] ["custom"] (aD iO):=⟨rfl,rfl,rfl,by decide +kernel,rfl,by decide +kernel,by decide +kernel⟩
abbrev sK:Stmt:=top 52
theorem zDs:FnScope ["custom", "catch"] ["custom", "catch"] (aD sK):=⟨rfl,rfl,rfl,by decide +kernel,rfl,by decide +kernel,by decide +kernel⟩
abbrev jE:Stmt:=top 53
theorem dM:FnScope ["custom", "catch", "amounts", "told", "kid", "amount"] ["custom", "catch"] (aD jE):=⟨rfl,rfl,rfl,by decide +kernel,rfl,by decide +kernel,by decide +kernel⟩
abbrev vD:Stmt:=top 55
theorem kB:FnScope ["custom", "catch", "exact", "told", "broken", "left", "number"] ["custom", "catch"] (aD vD):=⟨rfl,rfl,rfl,by decide +kernel,rfl,by decide +kernel,by decide +kernel⟩
abbrev gZ:Stmt:=top 57
theorem pT:FnScope ["script", "k"] ["script", "k"] (aD gZ):=⟨rfl,rfl,rfl,by decide +kernel,rfl,by decide +kernel,by decide +kernel⟩
abbrev iW:Stmt:=top 58
theorem eT:FnScope ["script", "at", "most", "claims", "k", "cell"] ["script", "at", "most"] (aD iW):=⟨rfl,rfl,rfl,by decide +kernel,rfl,by decide +kernel,by decide +kernel⟩
abbrev jJ:Stmt:=top 59
theorem fE:FnScope ["kids", "cell", "way", "weights"] ["kids", "cell"] (aD jJ):=⟨rfl,rfl,rfl,by decide +kernel,rfl,by decide +kernel,by decide +kernel⟩
abbrev mK:Stmt:=top 60
theorem cQ:FnScope ["claims", "script", "at", "pile", "k", "claim", "cell", "many"] ["claims", "script", "at"] (aD mK):=⟨rfl,rfl,rfl,by decide +kernel,rfl,by decide +kernel,by decide +kernel⟩
abbrev pL:Stmt:=top 61
theorem qY:FnScope ["many", "share", "other_share", "number"] ["many", "share", "other_share"] (aD pL):=⟨rfl,rfl,rfl,by decide +kernel,rfl,by decide +kernel,by decide +kernel⟩
abbrev fK:Stmt:=top 62
theorem eH:FnScope ["found", "told", "one", "other", "now", "then"] ["found", "told", "one", "other"] (aD fK):=⟨rfl,rfl,rfl,by decide +kernel,rfl,by decide +kernel,by decide +kernel⟩
abbrev mD:Stmt:=top 63
theorem xJ:FnScope ["found", "share", "claim"] ["found", "share", "claim"] (aD mD):=⟨rfl,rfl,rfl,by decide +kernel,rfl,by decide +kernel,by decide +kernel⟩
abbrev kI:Stmt:=top 64
theorem cA:FnScope ["custom", "claims", "catch", "found", "told", "many", "share", "claim", "one", "other"] ["custom", "claims", "catch"] (aD kI):=⟨rfl,rfl,rfl,by decide +kernel,rfl,by decide +kernel,by decide +kernel⟩
abbrev nT:Stmt:=top 65
theorem rE:FnScope ["script", "claims", "custom", "hauls", "cell"] ["script"] (aD nT):=⟨rfl,rfl,rfl,by decide +kernel,rfl,by decide +kernel,by decide +kernel⟩
structure Bt (mg:Str->Option Value):Prop where
 abs:mg "abs" = none
 sorted:mg "sorted" = none
 range:mg "range" = none
 len:mg "len" = none
 sum:mg "sum" = none
 zip:mg "zip" = none
 tuple:mg "tuple" = none
 max:mg "max" = none
 enumerate:mg "enumerate" = none
 min:mg "min" = none
 isinstance:mg "isinstance" = none
 bool:mg "bool" = none
 int:mg "int" = none
 list:mg "list" = none
 all:mg "all" = none
structure Kt (K:PySem.W.Frag):Prop where
 bool:Kit K "bool"
 int:Kit K "int"
 list:Kit K "list"
structure Ct (K:PySem.W.Frag) (mg:Str->Option Value):Prop where
 BOAT:∃ v u,mg "BOAT" = some u/\bW v u/\IsD K (fun _=>none) v d_BOAT
 DEEPEST:∃ v u,mg "DEEPEST" = some u/\bW v u/\IsD K (fun _=>none) v d_DEEPEST
 HALF:∃ v u,mg "HALF" = some u/\bW v u/\IsD K (fun _=>none) v d_HALF
 MOST_BOATS:∃ v u,mg "MOST_BOATS" = some u/\bW v u/\IsD K (fun _=>none) v d_MOST_BOATS
 NOUGHT:∃ v u,mg "NOUGHT" = some u/\bW v u/\IsD K (fun _=>none) v lD
 WEIGHTED:∃ v u,mg "WEIGHTED" = some u/\bW v u/\IsD K (fun _=>none) v d_WEIGHTED
 CONTRARY:∃ a,IsTab K mg "CONTRARY" aT a
structure Rt (K:PySem.W.Frag) (mg:Str->Option Value):Prop where
 BadClaim:∃ C,Err K mg "BadClaim" C
 BadWay:∃ C,Err K mg "BadWay" C
 BadWeights:∃ C,Err K mg "BadWeights" C
 NoFraction:∃ C,Err K mg "NoFraction" C
 Outside:∃ C,Err K mg "Outside" C
 TooMany:∃ C,Err K mg "TooMany" C
structure Et (K:PySem.W.Frag) (mg:Str->Option Value):Prop where
theorem zLE {K:PySem.W.Frag} {h:Heap} {mg:Str->Option Value} {t0 t1 t2 t3 t4 t5 t6 t7 t8:Tok} {pHALF0:Addr} {o_pHALF0:Option Addr} {n_pHALF0:Nat} {s_pHALF0:Array (Option Value)} {pNOUGHT1:Addr} {o_pNOUGHT1:Option Addr} {n_pNOUGHT1:Nat} {s_pNOUGHT1:Array (Option Value)} {pWEIGHTED2:Addr} {o_pWEIGHTED2:Option Addr} {n_pWEIGHTED2:Nat} {s_pWEIGHTED2:Array (Option Value)} {a_CONTRARY:Addr} (X:K.In h) (G:h.Ns mainGlobals mg) (n_BOAT:PySem.W.nsIn K mainGlobals "BOAT" = some (some (.str "boat" t0))) (n_DEEPEST:PySem.W.nsIn K mainGlobals "DEEPEST" = some (some (.int (8) t1))) (n_HALF:PySem.W.nsIn K mainGlobals "HALF" = some (some (.ref pHALF0))) (pHALF0_l:K.lookup pHALF0=some ⟨.type "tuple", o_pHALF0,.seq #[.int (1) t2,.int (2) t3] n_pHALF0,s_pHALF0⟩) (n_MOST_BOATS:PySem.W.nsIn K mainGlobals "MOST_BOATS" = some (some (.int (12) t4))) (n_NOUGHT:PySem.W.nsIn K mainGlobals "NOUGHT" = some (some (.ref pNOUGHT1))) (pNOUGHT1_l:K.lookup pNOUGHT1=some ⟨.type "tuple", o_pNOUGHT1,.seq #[.int (0) t5,.int (1) t6] n_pNOUGHT1,s_pNOUGHT1⟩) (n_WEIGHTED:PySem.W.nsIn K mainGlobals "WEIGHTED" = some (some (.ref pWEIGHTED2))) (pWEIGHTED2_l:K.lookup pWEIGHTED2=some ⟨.type "tuple", o_pWEIGHTED2,.seq #[.str "even" t7,.str "lack" t8] n_pWEIGHTED2,s_pWEIGHTED2⟩) (n_CONTRARY:PySem.W.nsIn K mainGlobals "CONTRARY" = some (some (.ref a_CONTRARY))) (aT:PyProof.Rows.KTD.tabLook (PyProof.Rows.KTD.datLooks fun a=>K.lookup a) (fun a=>K.lookup a) a_CONTRARY (zEF Lw.aT)=true):Ct K mg:=⟨⟨.str "boat", _,PySem.W.mg_of X G n_BOAT,⟨_,rfl⟩,(.str _)⟩,⟨.int (8),_,PySem.W.mg_of X G n_DEEPEST,⟨_,rfl⟩,(.int _)⟩,⟨.ref pHALF0,_,PySem.W.mg_of X G n_HALF,rfl,(.tup (.inr ⟨_,_,_,pHALF0_l,rfl,rfl,Nat.le_of_ble_eq_true rfl,(.cons (show bW (.int (1)) _ from ⟨_,rfl⟩) (.cons (show bW (.int (2)) _ from ⟨_,rfl⟩) .nil))⟩) (.cons (.int _) (.cons (.int _) .nil)))⟩,⟨.int (12),_,PySem.W.mg_of X G n_MOST_BOATS,⟨_,rfl⟩,(.int _)⟩,⟨.ref pNOUGHT1,_,PySem.W.mg_of X G n_NOUGHT,rfl,(.tup (.inr ⟨_,_,_,pNOUGHT1_l,rfl,rfl,Nat.le_of_ble_eq_true rfl,(.cons (show bW (.int (0)) _ from ⟨_,rfl⟩) (.cons (show bW (.int (1)) _ from ⟨_,rfl⟩) .nil))⟩) (.cons (.int _) (.cons (.int _) .nil)))⟩,⟨.ref pWEIGHTED2,_,PySem.W.mg_of X G n_WEIGHTED,rfl,(.tup (.inr ⟨_,_,_,pWEIGHTED2_l,rfl,rfl,Nat.le_of_ble_eq_true rfl,(.cons (show bW (.str "even") _ from ⟨_,rfl⟩) (.cons (show bW (.str "lack") _ from ⟨_,rfl⟩) .nil))⟩) (.cons (.str _) (.cons (.str _) .nil)))⟩,⟨a_CONTRARY,PySem.W.mg_of X G n_CONTRARY,fun h X=>PyProof.Rows.KTD.text_of_look X aT⟩⟩
theorem zKV {K:PySem.W.Frag} {h:Heap} {mg:Str->Option Value} {C_BadClaim:Addr} {C_BadWay:Addr} {C_BadWeights:Addr} {C_NoFraction:Addr} {C_Outside:Addr} {C_TooMany:Addr} (X:K.In h) (G:h.Ns mainGlobals mg) (n_BadClaim:PySem.W.nsIn K mainGlobals "BadClaim" = some (some (.ref C_BadClaim))) (x_BadClaim:PySem.W.excIn K C_BadClaim [.type "ValueError", .type "Exception", .type "BaseException", .type "object"] "ValueError.__new__" = true) (n_BadWay:PySem.W.nsIn K mainGlobals "BadWay" = some (some (.ref C_BadWay))) (x_BadWay:PySem.W.excIn K C_BadWay [.type "ValueError", .type "Exception", .type "BaseException", .type "object"] "ValueError.__new__" = true) (n_BadWeights:PySem.W.nsIn K mainGlobals "BadWeights" = some (some (.ref C_BadWeights))) (x_BadWeights:PySem.W.excIn K C_BadWeights [.type "ValueError", .type "Exception", .type "BaseException", .type "object"] "ValueError.__new__" = true) (n_NoFraction:PySem.W.nsIn K mainGlobals "NoFraction" = some (some (.ref C_NoFraction))) (x_NoFraction:PySem.W.excIn K C_NoFraction [.type "ValueError", .type "Exception", .type "BaseException", .type "object"] "ValueError.__new__" = true) (n_Outside:PySem.W.nsIn K mainGlobals "Outside" = some (some (.ref C_Outside))) (x_Outside:PySem.W.excIn K C_Outside [.type "ValueError", .type "Exception", .type "BaseException", .type "object"] "ValueError.__new__" = true) (n_TooMany:PySem.W.nsIn K mainGlobals "TooMany" = some (some (.ref C_TooMany))) (x_TooMany:PySem.W.excIn K C_TooMany [.type "ValueError", .type "Exception", .type "BaseException", .type "object"] "ValueError.__new__" = true):Rt K mg:=⟨rF X G n_BadClaim x_BadClaim PySem.F.excBase_ValueError,rF X G n_BadWay x_BadWay PySem.F.excBase_ValueError,rF X G n_BadWeights x_BadWeights PySem.F.excBase_ValueError,rF X G n_NoFraction x_NoFraction PySem.F.excBase_ValueError,rF X G n_Outside x_Outside PySem.F.excBase_ValueError,rF X G n_TooMany x_TooMany PySem.F.excBase_ValueError⟩
theorem zLe {K:PySem.W.Frag} {h:Heap} {mg:Str->Option Value} (X:K.In h) (G:h.Ns mainGlobals mg):Et K mg:=⟨⟩
section
variable {P:Program} {w:World} {K:PySem.W.Frag} {mg:Str->Option Value} {base:Heap} {k:Nat} {f:Addr} {fd:FuncData}
theorem mJ (F:Fn K mg "common_divisor" eJ ["one", "two"] f fd) (B:Bt mg) (KT:Kt K) (C:Ct K mg) (R:Rt K mg) (ET:Et K mg)  : CanM P w K mg base (k+1) "common_divisor" ["one", "two"] cG:=
  fV F bL fun W WR=>(aF (s_z 0 bL.nd (aU sQ zCG rfl B.abs boot_abs (bQ 0)))
 (aF (s_z 1 bL.nd (aU sQ zCG rfl B.abs boot_abs (bQ 1)))
 (aF (zGs W.own (tst (neA W.u) zJG (aN 1) cU (bD _)) (aF (s_z 2 bL.nd (aW dG lC (aN 0) (aN 1)))
 (aF (s_z 0 bL.nd (aN 1))
 (aI (s_z 1 bL.nd (aN 2))))))
 (aI (cO (aN 0))))))
theorem zFn (F:Fn K mg "whole" xB ["number"] f fd) (B:Bt mg) (KT:Kt K) (C:Ct K mg) (R:Rt K mg) (ET:Et K mg)  : CanM P w K mg base (k+1) "whole" ["number"] bG:=
 fV F zEx fun W WR=>(aI (cO (rA (aA (aN 0) (aA cU aL fS) aH))))
theorem zHC (F:Fn K mg "less" zCj ["one", "two"] f fd) (B:Bt mg) (KT:Kt K) (C:Ct K mg) (R:Rt K mg) (ET:Et K mg)  : CanM P w K mg base (k+1) "less" ["one", "two"] iP:=
 fV F zGv fun W WR=>(aI (cO (qS pP zDU (aW cC iJ (iF 0) (iF 1)) (aW cC iJ (iF 1) (iF 0)) (bD _))))
theorem wU (F:Fn K mg "floor_of" lW ["one"] f fd) (B:Bt mg) (KT:Kt K) (C:Ct K mg) (R:Rt K mg) (ET:Et K mg)  : CanM P w K mg base (k+1) "floor_of" ["one"] gH:=
 fV F yA fun W WR=>(aI (cO (aW fZ sA (iF 0) (iF 0))))
theorem zBm:RankDef eS:=⟨rfl,rfl,rfl,rfl,rfl,fun _ _ _=>⟨_,_,rfl,rfl,rfl⟩⟩
theorem zDI (F:Fn K mg "ranked" eS ["some"] f fd) (B:Bt mg) (KT:Kt K) (C:Ct K mg) (R:Rt K mg) (ET:Et K mg) {T:Addr} (hT:lL K mg T) (hB:BMn base mg):CanR P w K mg base (k+1) dF:=
 zHK F lA zBm hT hB B.sorted B.range B.len rfl fun cdv A outer s H E G W WR=>⟨(s_z 1 lA.nd cU),(mX W.own W.calm (lU (aN 0)) (g_z 2 lA.nd) bO (aI (s_z 1 lA.nd (aW cC iJ (aN 1) (iF 2)))))⟩
theorem sE (F:Fn K mg "refuse_way" iR ["way"] f fd) (B:Bt mg) (KT:Kt K) (C:Ct K mg) (R:Rt K mg) (ET:Et K mg)  : CanM P w K mg base (k+1) "refuse_way" ["way"] bR:=
 fV F tU fun W WR=>(aI (nK (zEm C.CONTRARY.choose_spec rfl (aN 0) (by with_unfolding_all rfl)) (aI (iB W WR R.BadWay rfl zDV)) cB))
theorem nR (F:Fn K mg "refuse_claims" fB ["claims"] f fd) (B:Bt mg) (KT:Kt K) (C:Ct K mg) (R:Rt K mg) (ET:Et K mg)  : CanM P w K mg base (k+1) "refuse_claims" ["claims"] cK:=
  fV F iD fun W WR=>(aF (nK (tst (eqA W.u) zAI (aU aQ dU rfl B.len PySem.boot_len (bQ 0)) cU (bD _)) (aI (iB W WR R.BadClaim rfl zDV)) cB)
 (aI (mX W.own W.calm (lU (aN 0)) (g_z 1 iD.nd) bO (aI (nK (tst pP zDU (aN 1) cU (bD _)) (aI (iB W WR R.BadClaim rfl zDV)) cB)))))
theorem mM (F:Fn K mg "refuse_weights" eI ["way", "weights", "many"] f fd) (B:Bt mg) (KT:Kt K) (C:Ct K mg) (R:Rt K mg) (ET:Et K mg)  : CanM P w K mg base (k+1) "refuse_weights" ["way", "weights", "many"] aR:=
  fV F dP fun W WR=>(aF (s_z 3 dP.nd (zGl (tst (inA W.u) zMj (aN 0) (gK rfl C.WEIGHTED) (by with_unfolding_all rfl)) (aN 2) cU))
 (aF (nK (tst (neA W.u) zJG (aU aQ dU rfl B.len PySem.boot_len (bQ 1)) (aN 3) (bD _)) (aI (iB W WR R.BadWeights rfl zDV)) cB)
 (aI (mX W.own W.calm (lU (aN 1)) (g_z 4 dP.nd) bO (aI (nK (PWd.pt (zET (tst pP zDU (aN 4) cU (bD _)) (zAz (tst xR zHG (aN 4) (aW mV zBd cU cU) (bD _))))) (aI (iB W WR R.BadWeights rfl zDV)) cB))))))
theorem zIe (F:Fn K mg "boat" zBG ["claim"] f fd) (B:Bt mg) (KT:Kt K) (C:Ct K mg) (R:Rt K mg) (ET:Et K mg)  : CanM P w K mg base (k+1) "boat" ["claim"] uZ:=
  fV F zHN fun W WR=>(aF (nK (PWd.pt (zET (tst pP zDU (aN 0) cU (bD _)) (zAz (tst xR zHG (aN 0) (aW mV zBd cU cU) (bD _))))) (aI (iB W WR R.BadClaim rfl zDV)) cB)
 (aI (cO (rA (aA (gK rfl C.BOAT) (bQ 0) aH)))))
theorem zAF (F:Fn K mg "is_boat" pC ["custom"] f fd) (B:Bt mg) (KT:Kt K) (C:Ct K mg) (R:Rt K mg) (ET:Et K mg)  : CanM P w K mg base (k+1) "is_boat" ["custom"] bV:=
 fV F zBe fun W WR=>(aI (cO (qS (eqA W.u) zAI (iF 0) (gK rfl C.BOAT) (bD _))))
theorem zBk (F:Fn K mg "way_of" tL ["custom"] f fd) (B:Bt mg) (KT:Kt K) (C:Ct K mg) (R:Rt K mg) (ET:Et K mg)  : CanM P w K mg base (k+1) "way_of" ["custom"] jD:=
 fV F zCN fun W WR=>(aI (cO (iF 0)))
theorem rL (F:Fn K mg "weights_of" iU ["custom"] f fd) (B:Bt mg) (KT:Kt K) (C:Ct K mg) (R:Rt K mg) (ET:Et K mg)  : CanM P w K mg base (k+1) "weights_of" ["custom"] cX:=
 fV F tJ fun W WR=>(aI (cO (iF 0)))
theorem pY (F:Fn K mg "_law_cell_at" gZ ["script", "k"] f fd) (B:Bt mg) (KT:Kt K) (C:Ct K mg) (R:Rt K mg) (ET:Et K mg)  : CanM P w K mg base (k+1) "_law_cell_at" ["script", "k"] bJ:=
  fV F pT fun W WR=>(aF (nK (tst pP zDU (aN 1) (aU aQ dU rfl B.len PySem.boot_len (bQ 0)) (bD _)) (aI (cO (qZ (aN 0) 1))) cB)
 (aI (cO cU)))
theorem zAT (F:Fn K mg "_law_far" pL ["many", "share", "other_share"] f fd) (B:Bt mg) (KT:Kt K) (C:Ct K mg) (R:Rt K mg) (ET:Et K mg)  : CanM P w K mg base (k+1) "_law_far" ["many", "share", "other_share"] eA:=
  fV F qY fun W WR=>(aF (s_z 3 qY.nd (aW cC iJ (aW wD zDJ (aW cC iJ (aN 0) (iF 1)) (iF 1)) (iF 2)))
 (aI (cO (aW cC iJ (aN 3) (aN 3)))))
theorem xE (F:Fn K mg "_law_near" mD ["found", "share", "claim"] f fd) (B:Bt mg) (KT:Kt K) (C:Ct K mg) (R:Rt K mg) (ET:Et K mg)  : CanM P w K mg base (k+1) "_law_near" ["found", "share", "claim"] gI:=
  fV F xJ fun W WR=>(aF (nK (PWd.pt (zET (zJU (zCZ (zBu KT.int rfl B.isinstance (aN 0) (xG (v:=.ty "int") rfl B.int boot_int rfl)))) (zET (zCZ (zBu KT.bool rfl B.isinstance (aN 0) (xG (v:=.ty "bool") rfl B.bool boot_bool rfl))) (zET (tst pP zDU (aN 0) cU (bD _)) (zAz (tst xR zHG (aN 0) (aN 2) (bD _))))))) (aI (cO (qX zAL fun _=>.bl _))) cB)
 (aI (cO (qS pP zDU (aU sQ zCG rfl B.abs boot_abs (aA (aW wD zDJ (aW cC iJ (aN 0) (iF 1)) (iF 1)) aL aY)) (iF 1) (bD _)))))
theorem zHV (F:Fn K mg "made" zCl ["top", "bottom"] f fd) (B:Bt mg) (KT:Kt K) (C:Ct K mg) (R:Rt K mg) (ET:Et K mg) (c_common_divisor:CanM P w K mg base k "common_divisor" ["one", "two"] cG):CanM P w K mg base (k+1) "made" ["top", "bottom"] fI:=
  fV F xY fun W WR=>(aF (nK (tst (eqA W.u) zAI (aN 1) cU (bD _)) (aI (iB W WR R.NoFraction rfl zDV)) cB)
 (aF (s_z 2 xY.nd (aG W c_common_divisor rfl (aA (aN 0) (bQ 1) aH)))
 (aF (nK (tst pP zDU (aN 1) cU (bD _)) (aI (s_z 2 xY.nd (zCt (aN 2)))) cB)
 (aI (cO (rA (aA (aW fZ sA (aN 0) (aN 2)) (aA (aW fZ sA (aN 1) (aN 2)) aL aY) aY)))))))
theorem zBi (F:Fn K mg "lesser" sC ["one", "two"] f fd) (B:Bt mg) (KT:Kt K) (C:Ct K mg) (R:Rt K mg) (ET:Et K mg) (c_less:CanM P w K mg base k "less" ["one", "two"] iP):CanM P w K mg base (k+1) "lesser" ["one", "two"] gN:=
 fV F zCa fun W WR=>(aI (cO (zGl (zCZ (aG W c_less rfl (aA (aN 0) (bQ 1) aH))) (aN 0) (aN 1))))
theorem tP (F:Fn K mg "is_outside" jA ["amount", "most"] f fd) (B:Bt mg) (KT:Kt K) (C:Ct K mg) (R:Rt K mg) (ET:Et K mg) (c_less:CanM P w K mg base k "less" ["one", "two"] iP):CanM P w K mg base (k+1) "is_outside" ["amount", "most"] eD:=
 fV F rN fun W WR=>(aI (cO (zJa (aG W c_less rfl (aA (aN 0) (aA (gK rfl C.NOUGHT) aL aH) aH)) (zCF (aG W c_less rfl (aA (aN 1) (bQ 0) aH))))))
theorem zCI (F:Fn K mg "looked" sP ["way", "weights", "claims"] f fd) (B:Bt mg) (KT:Kt K) (C:Ct K mg) (R:Rt K mg) (ET:Et K mg) (c_refuse_way:CanM P w K mg base k "refuse_way" ["way"] bR) (c_refuse_claims:CanM P w K mg base k "refuse_claims" ["claims"] cK) (c_refuse_weights:CanM P w K mg base k "refuse_weights" ["way", "weights", "many"] aR):CanM P w K mg base (k+1) "looked" ["way", "weights", "claims"] lN:=
  fV F zCp fun W WR=>(aF (nF (aG W c_refuse_way rfl (bQ 0)))
 (aF (nF (aG W c_refuse_claims rfl (bQ 2)))
 (aI (nF (aG W c_refuse_weights rfl (aA (aN 0) (aA (aN 1) (aA (aU aQ dU rfl B.len PySem.boot_len (bQ 2)) aL aK) aH) aH))))))
theorem zAV (F:Fn K mg "kids_of" oI ["custom"] f fd) (B:Bt mg) (KT:Kt K) (C:Ct K mg) (R:Rt K mg) (ET:Et K mg) (c_is_boat:CanM P w K mg base k "is_boat" ["custom"] bV):CanM P w K mg base (k+1) "kids_of" ["custom"] bH:=
 fV F zAY fun W WR=>(aI (cO (zGl (zCZ (aG W c_is_boat rfl (bQ 0))) (rA aL) (iF 0))))
theorem sJ (F:Fn K mg "_law_claims" iW ["script", "at", "most"] f fd) (B:Bt mg) (KT:Kt K) (C:Ct K mg) (R:Rt K mg) (ET:Et K mg) (c_law_cell_at:CanM P w K mg base k "_law_cell_at" ["script", "k"] bJ):CanM P w K mg base (k+1) "_law_claims" ["script", "at", "most"] dW:=
  fV F eT fun W WR=>(aF (uJ (i:=3) eT.nd rfl (Or.inl rfl) (eZ aL))
 (aF (mX W.own W.calm (zAw rfl B.range (aA (aW cT jZ cU (aW dG lC (aG W c_law_cell_at rfl (aA (aN 0) (bQ 1) aH)) (aN 2))) aL aY)) (g_z 4 eT.nd) bO (aF (s_z 5 eT.nd (aW dG lC (aG W c_law_cell_at rfl (aA (aN 0) (aA (aW cT jZ (aW cT jZ (aN 1) cU) (aN 4)) aL aY) aH)) (aW mV zBd cU cU)))
 (aI (zFa (i:=3) (pv 3) (zEv iN zKQ (PEf.d (eZ (aA (aW dG lC (aW fZ sA (aN 5) cU) cU) (aA (aW dG lC (aW fZ sA (aN 5) cU) cU) (aA (aW dG lC (aW fZ sA (aN 5) cU) (aW cT jZ (aW mV zBd cU cU) cU)) aL aY) aY) aY))) (aW dG lC (aN 5) cU) (fun _ _=>rfl))))))
 (aI (jG 3 (pv 3)))))
theorem nS (F:Fn K mg "_law_no_better" fK ["found", "told", "one", "other"] f fd) (B:Bt mg) (KT:Kt K) (C:Ct K mg) (R:Rt K mg) (ET:Et K mg) (c_law_far:CanM P w K mg base k "_law_far" ["many", "share", "other_share"] eA):CanM P w K mg base (k+1) "_law_no_better" ["found", "told", "one", "other"] cJ:=
  fV F eH fun W WR=>(aF (s_z 4 eH.nd (aW cT jZ (aG W c_law_far rfl (aA (qZ (aN 0) 2) (aA (qZ (aN 1) 2) (aA (qZ (aN 1) 3) aL bU) bU) bU)) (aG W c_law_far rfl (aA (qZ (aN 0) 3) (aA (qZ (aN 1) 3) (aA (qZ (aN 1) 2) aL bU) bU) bU))))
 (aF (s_z 5 eH.nd (aW cT jZ (aG W c_law_far rfl (aA (aW wD zDJ (qZ (aN 0) 2) cU) (aA (qZ (aN 1) 2) (aA (qZ (aN 1) 3) aL bU) bU) aY)) (aG W c_law_far rfl (aA (aW cT jZ (qZ (aN 0) 3) cU) (aA (qZ (aN 1) 3) (aA (qZ (aN 1) 2) aL bU) bU) aY))))
 (aI (cO (zJa (qS xR zHG (aN 5) (aN 4) (bD _)) (zCF (zKl (qS (eqA W.u) zAI (aN 5) (aN 4) (bD _)) (zCF (qS pP zDU (aN 2) (aN 3) (bD _))))))))))
theorem zHi (F:Fn K mg "plus" zCK ["one", "two"] f fd) (B:Bt mg) (KT:Kt K) (C:Ct K mg) (R:Rt K mg) (ET:Et K mg) (c_made:CanM P w K mg base k "made" ["top", "bottom"] fI):CanM P w K mg base (k+1) "plus" ["one", "two"] nL:=
 fV F zGC fun W WR=>(aI (cO (aG W c_made rfl (aA (aW cT jZ (aW cC iJ (iF 0) (iF 1)) (aW cC iJ (iF 1) (iF 0))) (aA (aW cC iJ (iF 0) (iF 1)) aL aY) aY))))
theorem zFe (F:Fn K mg "minus" yI ["one", "two"] f fd) (B:Bt mg) (KT:Kt K) (C:Ct K mg) (R:Rt K mg) (ET:Et K mg) (c_made:CanM P w K mg base k "made" ["top", "bottom"] fI):CanM P w K mg base (k+1) "minus" ["one", "two"] dQ:=
 fV F zEf fun W WR=>(aI (cO (aG W c_made rfl (aA (aW wD zDJ (aW cC iJ (iF 0) (iF 1)) (aW cC iJ (iF 1) (iF 0))) (aA (aW cC iJ (iF 0) (iF 1)) aL aY) aY))))
theorem zEA (F:Fn K mg "times" yE ["one", "two"] f fd) (B:Bt mg) (KT:Kt K) (C:Ct K mg) (R:Rt K mg) (ET:Et K mg) (c_made:CanM P w K mg base k "made" ["top", "bottom"] fI):CanM P w K mg base (k+1) "times" ["one", "two"] gT:=
 fV F zEB fun W WR=>(aI (cO (aG W c_made rfl (aA (aW cC iJ (iF 0) (iF 1)) (aA (aW cC iJ (iF 0) (iF 1)) aL aY) aY))))
theorem zHR (F:Fn K mg "over" zDr ["one", "two"] f fd) (B:Bt mg) (KT:Kt K) (C:Ct K mg) (R:Rt K mg) (ET:Et K mg) (c_made:CanM P w K mg base k "made" ["top", "bottom"] fI):CanM P w K mg base (k+1) "over" ["one", "two"] oH:=
 fV F zHl fun W WR=>(aI (cO (aG W c_made rfl (aA (aW cC iJ (iF 0) (iF 1)) (aA (aW cC iJ (iF 0) (iF 1)) aL aY) aY))))
theorem mH (F:Fn K mg "refuse_outside" eG ["amount", "most"] f fd) (B:Bt mg) (KT:Kt K) (C:Ct K mg) (R:Rt K mg) (ET:Et K mg) (c_is_outside:CanM P w K mg base k "is_outside" ["amount", "most"] eD):CanM P w K mg base (k+1) "refuse_outside" ["amount", "most"] bF:=
 fV F mY fun W WR=>(aI (nK (zCZ (aG W c_is_outside rfl (aA (aN 0) (bQ 1) aH))) (aI (iB W WR R.Outside rfl zDV)) cB))
theorem vW (F:Fn K mg "levels_of" gM ["weights", "claims"] f fd) (B:Bt mg) (KT:Kt K) (C:Ct K mg) (R:Rt K mg) (ET:Et K mg) (c_made:CanM P w K mg base k "made" ["top", "bottom"] fI):CanM P w K mg base (k+1) "levels_of" ["weights", "claims"] dL:=
 fV F uK fun W WR=>(aI (fU (vU (N:=["weights", "claims"]) W (by decide +kernel) rfl (sc:=aD gM) rfl rfl (by decide +kernel) (zEl rfl B.zip (aA (aN 1) (bQ 0) aH)) (fun C2 s2 H2 fp2 G W=>(aG W c_made rfl (aA (aN 2) (bQ 3) aH))))))
theorem uX (F:Fn K mg "row_dealt" jY ["claims", "catch"] f fd) (B:Bt mg) (KT:Kt K) (C:Ct K mg) (R:Rt K mg) (ET:Et K mg) (c_lesser:CanM P w K mg base k "lesser" ["one", "two"] gN) (c_minus:CanM P w K mg base k "minus" ["one", "two"] dQ) (c_whole:CanM P w K mg base k "whole" ["number"] bG):CanM P w K mg base (k+1) "row_dealt" ["claims", "catch"] dR:=
  fV F dA fun W WR=>(aF (s_z 2 dA.nd (aN 1))
 (aF (uJ (i:=3) dA.nd rfl (Or.inl rfl) (eZ aL))
 (aF (mX W.own W.calm (lU (aN 0)) (g_z 4 dA.nd) bO (aF (s_z 5 dA.nd (aG W c_lesser rfl (aA (aN 2) (aA (aG W c_whole rfl (bQ 4)) aL aK) aH)))
 (aF (zFa (i:=3) (pv 3) (aN 5))
 (aI (s_z 2 dA.nd (aG W c_minus rfl (aA (aN 2) (bQ 5) aH)))))))
 (aI (jG 3 (pv 3))))))
theorem tG (F:Fn K mg "even_dealt" iX ["weights", "claims", "catch"] f fd) (B:Bt mg) (KT:Kt K) (C:Ct K mg) (R:Rt K mg) (ET:Et K mg) (c_ranked:CanR P w K mg base k dF) (c_levels_of:CanM P w K mg base k "levels_of" ["weights", "claims"] dL) (c_over:CanM P w K mg base k "over" ["one", "two"] oH) (c_lesser:CanM P w K mg base k "lesser" ["one", "two"] gN) (c_minus:CanM P w K mg base k "minus" ["one", "two"] dQ) (c_times:CanM P w K mg base k "times" ["one", "two"] gT) (c_whole:CanM P w K mg base k "whole" ["number"] bG):CanM P w K mg base (k+1) "even_dealt" ["weights", "claims", "catch"] bY:=
  fV F bT fun W WR=>(aF (s_z 3 bT.nd (aN 2))
 (aF (s_z 4 bT.nd (aU (eR W.calm) kO rfl B.sum dE (bQ 0)))
 (aF (uJ (i:=5) bT.nd rfl (Or.inl rfl) (zCL (eZ (aA (gK rfl C.NOUGHT) aL aH)) (aU aQ dU rfl B.len PySem.boot_len (bQ 1))))
 (zHd W c_ranked zIs zFK rfl (aA (PEf.d (cD W c_levels_of rfl (aA (aN 0) (bQ 1) aH))) aL aK) (g_z 6 bT.nd) bO (aF (s_z 7 bT.nd (aG W c_over rfl (aA (aG W c_times rfl (aA (aN 3) (aA (aG W c_whole rfl (aA (qZ (aN 0) 6) aL bU)) aL aK) aH)) (aA (aG W c_whole rfl (bQ 4)) aL aK) aK)))
 (aF (zLd (i:=5) (pv 5) (aN 6) (aG W c_lesser rfl (aA (aN 7) (aA (aG W c_whole rfl (aA (qZ (aN 1) 6) aL bU)) aL aK) aH)))
 (aF (s_z 3 bT.nd (PEd.frz (aG W c_minus rfl (aA (aN 3) (aA (qZ (aN 5) 6) aL bU) aH))))
 (aI (zLv (i:=4) bT.nd rfl (Or.inl rfl) (qZ (aN 0) 6) zIN zGQ zEz))))) (aI (jG 5 (pv 5)))))))
theorem tQ (F:Fn K mg "part_dealt" fW ["claims", "catch"] f fd) (B:Bt mg) (KT:Kt K) (C:Ct K mg) (R:Rt K mg) (ET:Et K mg) (c_over:CanM P w K mg base k "over" ["one", "two"] oH) (c_whole:CanM P w K mg base k "whole" ["number"] bG) (c_times:CanM P w K mg base k "times" ["one", "two"] gT):CanM P w K mg base (k+1) "part_dealt" ["claims", "catch"] cY:=
  fV F eU fun W WR=>(aF (s_z 2 eU.nd (aU (eR W.calm) kO rfl B.sum dE (bQ 0)))
 (aF (nK (tst (eqA W.u) zAI (aN 2) cU (bD _)) (aI (fU (zCL (eZ (aA (gK rfl C.NOUGHT) aL aH)) (aU aQ dU rfl B.len PySem.boot_len (bQ 0))))) cB)
 (aF (s_z 3 eU.nd (aG W c_over rfl (aA (aN 1) (aA (aG W c_whole rfl (bQ 2)) aL aK) aH)))
 (aI (fU (kM W eU.nd rfl (sc:=aD fW) rfl rfl (by decide +kernel) (lU (aN 0)) (fun C2 s2 H2 fp2 G W=>⟨pE,(aG W c_times rfl (aA (aN 3) (aA (aG W c_whole rfl (bQ 4)) aL aK) aH))⟩)))))))
theorem sD (F:Fn K mg "half_dealt" fO ["claims", "catch"] f fd) (B:Bt mg) (KT:Kt K) (C:Ct K mg) (R:Rt K mg) (ET:Et K mg) (c_times:CanM P w K mg base k "times" ["one", "two"] gT) (c_even_dealt:CanM P w K mg base k "even_dealt" ["weights", "claims", "catch"] bY) (c_plus:CanM P w K mg base k "plus" ["one", "two"] nL):CanM P w K mg base (k+1) "half_dealt" ["claims", "catch"] cV:=
  fV F gW fun W WR=>(aF (s_z 2 gW.nd (PEf.d (zCL (eZ (aA cU aL fS)) (aU aQ dU rfl B.len PySem.boot_len (bQ 0)))))
 (aI (fU (kM W gW.nd rfl (sc:=aD fO) rfl rfl (by decide +kernel) (lU (PEf.d (cD W c_even_dealt rfl (aA (aN 2) (aA (aN 0) (aA (aG W c_plus rfl (aA (aN 1) (bQ 1) aH)) aL aK) aH) aH)))) (fun C2 s2 H2 fp2 G W=>⟨pE,(aG W c_times rfl (aA (aN 3) (aA (gK rfl C.HALF) aL aH) aH))⟩)))))
theorem nO {r:Mir} (F:Fn K mg "rightly_dealt" cI ["way", "weights", "claims", "catch"] f fd) (B:Bt mg) (KT:Kt K) (C:Ct K mg) (R:Rt K mg) (ET:Et K mg) (c_whole:CanM P w K mg base k "whole" ["number"] bG) (c_row_dealt:CanM P w K mg base k "row_dealt" ["claims", "catch"] dR) (c_even_dealt:CanM P w K mg base k "even_dealt" ["weights", "claims", "catch"] bY) (c_part_dealt:CanM P w K mg base k "part_dealt" ["claims", "catch"] cY) (c_half_dealt:CanM P w K mg base k "half_dealt" ["claims", "catch"] cV) (c_minus:CanM P w K mg base k "minus" ["one", "two"] dQ) (c_less:CanM P w K mg base k "less" ["one", "two"] iP) (c_plus:CanM P w K mg base k "plus" ["one", "two"] nL) (c_rightly_dealt:CanM P w K mg base k "rightly_dealt" ["way", "weights", "claims", "catch"] r):CanM P w K mg base (k+1) "rightly_dealt" ["way", "weights", "claims", "catch"] (aM r):=
  fV F cP fun W WR=>(aF (s_z 4 cP.nd (aG W c_whole rfl (aA (aU (eR W.calm) kO rfl B.sum dE (bQ 2)) aL aK)))
 (aF (nK (tst (eqA W.u) zAI (aN 0) (qX iC fun _=>.str _) (bD _)) (aI (fU (cD W c_row_dealt rfl (aA (aN 2) (bQ 3) aH)))) cB)
 (aF (nK (tst (eqA W.u) zAI (aN 0) (qX iC fun _=>.str _) (bD _)) (aI (fU (cD W c_even_dealt rfl (aA (aN 1) (aA (aN 2) (bQ 3) aH) aH)))) cB)
 (aF (nK (tst (eqA W.u) zAI (aN 0) (qX iC fun _=>.str _) (bD _)) (aI (fU (cD W c_part_dealt rfl (aA (aN 2) (bQ 3) aH)))) cB)
 (aF (nK (PWd.pt (zHp (tst (eqA W.u) zAI (aN 0) (qX iC fun _=>.str _) (bD _)) (zFP (zJU (zCZ (aG W c_less rfl (aA (aN 4) (aA (aG W c_plus rfl (aA (aN 3) (bQ 3) aH)) aL aK) aH))))))) (aI (fU (cD W c_half_dealt rfl (aA (aN 2) (bQ 3) aH)))) cB)
 (aF (s_z 5 cP.nd (PEf.d (cD W c_rightly_dealt rfl (aA (zJx C.CONTRARY.choose_spec rfl (aN 0) (fun _ _=>rfl)) (aA (aN 1) (aA (aN 2) (aA (aG W c_minus rfl (aA (aN 4) (bQ 3) aH)) aL aK) aH) aH) bU))))
 (aI (fU (vU (N:=["way", "weights", "claims", "catch", "most", "lacking"]) W (by decide +kernel) rfl (sc:=aD cI) rfl rfl (by decide +kernel) (zEl rfl B.zip (aA (aN 2) (bQ 5) aH)) (fun C2 s2 H2 fp2 G W=>(aG W c_minus rfl (aA (aG W c_whole rfl (bQ 6)) (bQ 7) aK))))))))))))
theorem iH (F:Fn K mg "rightly_dealt" cI ["way", "weights", "claims", "catch"] f fd) (B:Bt mg) (KT:Kt K) (C:Ct K mg) (R:Rt K mg) (ET:Et K mg) (c_whole:CanM P w K mg base k "whole" ["number"] bG) (c_row_dealt:CanM P w K mg base k "row_dealt" ["claims", "catch"] dR) (c_even_dealt:CanM P w K mg base k "even_dealt" ["weights", "claims", "catch"] bY) (c_part_dealt:CanM P w K mg base k "part_dealt" ["claims", "catch"] cY) (c_half_dealt:CanM P w K mg base k "half_dealt" ["claims", "catch"] cV) (c_minus:CanM P w K mg base k "minus" ["one", "two"] dQ) (c_less:CanM P w K mg base k "less" ["one", "two"] iP) (c_plus:CanM P w K mg base k "plus" ["one", "two"] nL):∀ n:Nat,CanM P w K mg base (k+1+n) "rightly_dealt" ["way", "weights", "claims", "catch"] (aJ n)
 | 0=>oJ F cP fun cdv A outer s H E G W WR=>zEE
 | n+1=>nO (k:=k+1+n) F B KT C R ET (c_whole:=c_whole.mono (by omega)) (c_row_dealt:=c_row_dealt.mono (by omega)) (c_even_dealt:=c_even_dealt.mono (by omega)) (c_part_dealt:=c_part_dealt.mono (by omega)) (c_half_dealt:=c_half_dealt.mono (by omega)) (c_minus:=c_minus.mono (by omega)) (c_less:=c_less.mono (by omega)) (c_plus:=c_plus.mono (by omega)) (c_rightly_dealt:=iH F B KT C R ET (c_whole:=c_whole) (c_row_dealt:=c_row_dealt) (c_even_dealt:=c_even_dealt) (c_part_dealt:=c_part_dealt) (c_half_dealt:=c_half_dealt) (c_minus:=c_minus) (c_less:=c_less) (c_plus:=c_plus) n)
theorem zEK (F:Fn K mg "dealt" xC ["way", "weights", "claims", "catch"] f fd) (B:Bt mg) (KT:Kt K) (C:Ct K mg) (R:Rt K mg) (ET:Et K mg) (c_looked:CanM P w K mg base k "looked" ["way", "weights", "claims"] lN) (c_refuse_outside:CanM P w K mg base k "refuse_outside" ["amount", "most"] bF) (c_rightly_dealt:CanM P w K mg base k "rightly_dealt" ["way", "weights", "claims", "catch"] (aJ 2)) (c_whole:CanM P w K mg base k "whole" ["number"] bG):CanM P w K mg base (k+1) "dealt" ["way", "weights", "claims", "catch"] lY:=
  fV F zFm fun W WR=>(aF (nF (aG W c_looked rfl (aA (aN 0) (aA (aN 1) (bQ 2) aH) aH)))
 (aF (nF (aG W c_refuse_outside rfl (aA (aN 3) (aA (aG W c_whole rfl (aA (aU (eR W.calm) kO rfl B.sum dE (bQ 2)) aL aK)) aL aK) aH)))
 (aI (fU (cD W c_rightly_dealt rfl (aA (aN 0) (aA (aN 1) (aA (aN 2) (bQ 3) aH) aH) aH))))))
theorem uU {r:Mir} (F:Fn K mg "claims_of" hJ ["custom"] f fd) (B:Bt mg) (KT:Kt K) (C:Ct K mg) (R:Rt K mg) (ET:Et K mg) (c_is_boat:CanM P w K mg base k "is_boat" ["custom"] bV) (c_kids_of:CanM P w K mg base k "kids_of" ["custom"] bH) (c_claims_of:CanM P w K mg base k "claims_of" ["custom"] r):CanM P w K mg base (k+1) "claims_of" ["custom"] (gY r):=
  fV F fR fun W WR=>(aF (nK (zCZ (aG W c_is_boat rfl (bQ 0))) (aI (fU (eZ (aA (iF 0) aL bU)))) cB)
 (aF (uJ (i:=1) fR.nd rfl (Or.inl rfl) (eZ aL))
 (aF (mX W.own W.calm (lU (aG W c_kids_of rfl (bQ 0))) (g_z 2 fR.nd) bO (aI (zKC (i:=1) (pv 1) (cD W c_claims_of rfl (bQ 2)))))
 (aI (jG 1 (pv 1))))))
theorem nE (F:Fn K mg "claims_of" hJ ["custom"] f fd) (B:Bt mg) (KT:Kt K) (C:Ct K mg) (R:Rt K mg) (ET:Et K mg) (c_is_boat:CanM P w K mg base k "is_boat" ["custom"] bV) (c_kids_of:CanM P w K mg base k "kids_of" ["custom"] bH):∀ n:Nat,CanM P w K mg base (k+1+n) "claims_of" ["custom"] (cH n)
 | 0=>oJ F fR fun cdv A outer s H E G W WR=>zEE
 | n+1=>uU (k:=k+1+n) F B KT C R ET (c_is_boat:=c_is_boat.mono (by omega)) (c_kids_of:=c_kids_of.mono (by omega)) (c_claims_of:=nE F B KT C R ET (c_is_boat:=c_is_boat) (c_kids_of:=c_kids_of) n)
theorem zBb {r:Mir} (F:Fn K mg "deep_of" iO ["custom"] f fd) (B:Bt mg) (KT:Kt K) (C:Ct K mg) (R:Rt K mg) (ET:Et K mg) (c_kids_of:CanM P w K mg base k "kids_of" ["custom"] bH) (c_deep_of:CanM P w K mg base k "deep_of" ["custom"] r):CanM P w K mg base (k+1) "deep_of" ["custom"] (kN r):=
 fV F mC fun W WR=>(aI (cO (aW cT jZ cU (zGr W.calm rfl B.max (PEf.d (kM W mC.nd rfl (sc:=aD iO) rfl rfl (by decide +kernel) (lU (aG W c_kids_of rfl (bQ 0))) (fun C2 s2 H2 fp2 G W=>⟨pE,(aG W c_deep_of rfl (bQ 1))⟩))) cU))))
theorem qM (F:Fn K mg "deep_of" iO ["custom"] f fd) (B:Bt mg) (KT:Kt K) (C:Ct K mg) (R:Rt K mg) (ET:Et K mg) (c_kids_of:CanM P w K mg base k "kids_of" ["custom"] bH):∀ n:Nat,CanM P w K mg base (k+1+n) "deep_of" ["custom"] (fH n)
 | 0=>oJ F mC fun cdv A outer s H E G W WR=>zEE
 | n+1=>zBb (k:=k+1+n) F B KT C R ET (c_kids_of:=c_kids_of.mono (by omega)) (c_deep_of:=qM F B KT C R ET (c_kids_of:=c_kids_of) n)
theorem zHQ (F:Fn K mg "knot" zDq ["way", "weights", "kids"] f fd) (B:Bt mg) (KT:Kt K) (C:Ct K mg) (R:Rt K mg) (ET:Et K mg) (c_refuse_way:CanM P w K mg base k "refuse_way" ["way"] bR) (c_refuse_weights:CanM P w K mg base k "refuse_weights" ["way", "weights", "many"] aR) (c_deep_of:CanM P w K mg base k "deep_of" ["custom"] (fH 10)) (c_claims_of:CanM P w K mg base k "claims_of" ["custom"] (cH 10)):CanM P w K mg base (k+1) "knot" ["way", "weights", "kids"] qW:=
  fV F zBS fun W WR=>(aF (nF (aG W c_refuse_way rfl (bQ 0)))
 (aF (nF (aG W c_refuse_weights rfl (aA (aN 0) (aA (aN 1) (aA (aU aQ dU rfl B.len PySem.boot_len (bQ 2)) aL aK) aH) aH)))
 (aF (s_z 3 zBS.nd (rA (aA (aN 0) (aA (wG kY zFZ rfl B.tuple boot_tuple (bQ 1)) (aA (wG kY zFZ rfl B.tuple boot_tuple (bQ 2)) aL aK) aK) aH)))
 (aF (nK (PWd.pt (zET (tst (eqA W.u) zAI (aU aQ dU rfl B.len PySem.boot_len (bQ 2)) cU (bD _)) (zET (tst xR zHG (aU aQ dU rfl B.len PySem.boot_len (aA (PEf.d (cD W c_claims_of rfl (bQ 3))) aL aK)) (gK rfl C.MOST_BOATS) (bD _)) (zAz (tst xR zHG (aG W c_deep_of rfl (bQ 3)) (gK rfl C.DEEPEST) (bD _)))))) (aI (iB W WR R.TooMany rfl zDV)) cB)
 (aI (cO (aN 3)))))))
theorem wZ (F:Fn K mg "claim_of" mF ["custom"] f fd) (B:Bt mg) (KT:Kt K) (C:Ct K mg) (R:Rt K mg) (ET:Et K mg) (c_claims_of:CanM P w K mg base k "claims_of" ["custom"] (cH 10)):CanM P w K mg base (k+1) "claim_of" ["custom"] dO:=
 fV F xQ fun W WR=>(aI (cO (aU (eR W.calm) kO rfl B.sum dE (aA (PEf.d (cD W c_claims_of rfl (bQ 0))) aL aK))))
theorem rY (F:Fn K mg "kid_claims" fP ["custom"] f fd) (B:Bt mg) (KT:Kt K) (C:Ct K mg) (R:Rt K mg) (ET:Et K mg) (c_claim_of:CanM P w K mg base k "claim_of" ["custom"] dO) (c_kids_of:CanM P w K mg base k "kids_of" ["custom"] bH):CanM P w K mg base (k+1) "kid_claims" ["custom"] cZ:=
 fV F kU fun W WR=>(aI (fU (kM W kU.nd rfl (sc:=aD fP) rfl rfl (by decide +kernel) (lU (aG W c_kids_of rfl (bQ 0))) (fun C2 s2 H2 fp2 G W=>⟨pE,(aG W c_claim_of rfl (bQ 1))⟩))))
theorem wX (F:Fn K mg "_law_knot" jJ ["kids", "cell"] f fd) (B:Bt mg) (KT:Kt K) (C:Ct K mg) (R:Rt K mg) (ET:Et K mg) (c_knot:CanM P w K mg base k "knot" ["way", "weights", "kids"] qW):CanM P w K mg base (k+1) "_law_knot" ["kids", "cell"] eV:=
  fV F fE fun W WR=>(aF (s_z 2 fE.nd (zEv iN zKQ (PEf.d (eZ (aA (qX iC fun _=>.str _) (aA (qX iC fun _=>.str _) (aA (qX iC fun _=>.str _) (aA (qX iC fun _=>.str _) (aA (qX iC fun _=>.str _) zDV fS) fS) fS) fS) fS))) (aW dG lC (aN 1) cU) (fun _ _=>rfl)))
 (aF (s_z 3 fE.nd (PEf.d (eZ aL)))
 (aF (nK (PWd.pt (zET (tst (eqA W.u) zAI (aN 2) (qX iC fun _=>.str _) (bD _)) (zAz (tst (eqA W.u) zAI (aN 2) (qX iC fun _=>.str _) (bD _))))) (aI (zFO (i:=3) fE.nd rfl (Or.inl rfl) (PCf.d (zAd W fE.nd rfl (sc:=aD jJ) rfl rfl (by decide +kernel) (zAw rfl B.range (aA (aU aQ dU rfl B.len PySem.boot_len (bQ 0)) aL aK)) (fun C2 s2 H2 fp2 G W=>⟨pE,(aW cT jZ cU (aW dG lC (aW fZ sA (aN 1) (aW cT jZ cU (aW cC iJ cU (aN 4)))) cU))⟩))) rfl)) cB)
 (aI (cO (aG W c_knot rfl (aA (aN 2) (aA (aN 3) (bQ 0) aH) aH)))))))
theorem yM (F:Fn K mg "_law_tree" mK ["claims", "script", "at"] f fd) (B:Bt mg) (KT:Kt K) (C:Ct K mg) (R:Rt K mg) (ET:Et K mg) (c_law_knot:CanM P w K mg base k "_law_knot" ["kids", "cell"] eV) (c_boat:CanM P w K mg base k "boat" ["claim"] uZ) (c_law_cell_at:CanM P w K mg base k "_law_cell_at" ["script", "k"] bJ):CanM P w K mg base (k+1) "_law_tree" ["claims", "script", "at"] gF:=
  fV F cQ fun W WR=>(aF (uJ (i:=3) cQ.nd rfl (Or.inl rfl) (eZ aL))
 (aF (mX W.own W.calm (zIO rfl B.enumerate (aN 0)) (zGI W.calm (kG (g_z 4 cQ.nd) (kG (g_z 5 cQ.nd) zCi)) (jW (jW zDb))) (wW (iA bO (iA bO xL))) (aF (zFa (i:=3) (pv 3) (aG W c_boat rfl (bQ 5)))
 (aF (s_z 6 cQ.nd (aW dG lC (aG W c_law_cell_at rfl (aA (aN 1) (aA (aW cT jZ (aN 2) (aN 4)) aL aY) aH)) (aW mV zBd cU cU)))
 (aI (nK (tst (eqA W.u) zAI (aW dG lC (aN 6) cU) cU (bD _)) (aF (s_z 7 cQ.nd (PEd.frz (aW cT jZ cU (aW dG lC (aW fZ sA (aN 6) cU) (aU (zDN W.calm) zIQ rfl B.min boot_min (aA cU (aA (aU aQ dU rfl B.len PySem.boot_len (bQ 3)) aL aK) fS))))))
 (aI (uJ (i:=3) cQ.nd rfl (Or.inl rfl) (PEf.frz (zKB (PEf.d (oB (aN 3) yR (pA (zCt (aN 7))))) (PEf.d (eZ (aA (aG W c_law_knot rfl (aA (PEf.d (oB (aN 3) (pA (zCt (aN 7))) yR)) (aA (aW fZ sA (aN 6) cU) aL aY) bU)) aL aK)))))))) cB)))))
 (cN.frzAt 3 (aI (cO (aG W c_law_knot rfl (aA (aN 3) (aA (aW dG lC (aG W c_law_cell_at rfl (aA (aN 1) (aA (aW cT jZ (aN 2) (aU aQ dU rfl B.len PySem.boot_len (bQ 0))) aL aY) aH)) (aW mV zBd cU cU)) aL aY) aH)))))))
theorem yO {r:Mir} (F:Fn K mg "dealt_on" jE ["custom", "catch"] f fd) (B:Bt mg) (KT:Kt K) (C:Ct K mg) (R:Rt K mg) (ET:Et K mg) (c_is_boat:CanM P w K mg base k "is_boat" ["custom"] bV) (c_dealt:CanM P w K mg base k "dealt" ["way", "weights", "claims", "catch"] lY) (c_way_of:CanM P w K mg base k "way_of" ["custom"] jD) (c_weights_of:CanM P w K mg base k "weights_of" ["custom"] cX) (c_kid_claims:CanM P w K mg base k "kid_claims" ["custom"] cZ) (c_kids_of:CanM P w K mg base k "kids_of" ["custom"] bH) (c_dealt_on:CanM P w K mg base k "dealt_on" ["custom", "catch"] r):CanM P w K mg base (k+1) "dealt_on" ["custom", "catch"] (eY r):=
  fV F dM fun W WR=>(aF (nK (zCZ (aG W c_is_boat rfl (bQ 0))) (aI (fU (eZ (bQ 1)))) cB)
 (aF (s_z 2 dM.nd (PEf.d (cD W c_dealt rfl (aA (aG W c_way_of rfl (bQ 0)) (aA (aG W c_weights_of rfl (bQ 0)) (aA (PEf.d (cD W c_kid_claims rfl (bQ 0))) (bQ 1) aK) aK) aK))))
 (aF (uJ (i:=3) dM.nd rfl (Or.inl rfl) (eZ aL))
 (aF (mX W.own W.calm (zEl rfl B.zip (aA (aG W c_kids_of rfl (bQ 0)) (bQ 2) aK)) (zGI W.calm (kG (g_z 4 dM.nd) (kG (g_z 5 dM.nd) zCi)) (jW (jW zDb))) (wW (iA bO (iA bO xL))) (aI (zKC (i:=3) (pv 3) (cD W c_dealt_on rfl (aA (aN 4) (bQ 5) aH)))))
 (aI (jG 3 (pv 3)))))))
theorem oW (F:Fn K mg "dealt_on" jE ["custom", "catch"] f fd) (B:Bt mg) (KT:Kt K) (C:Ct K mg) (R:Rt K mg) (ET:Et K mg) (c_is_boat:CanM P w K mg base k "is_boat" ["custom"] bV) (c_dealt:CanM P w K mg base k "dealt" ["way", "weights", "claims", "catch"] lY) (c_way_of:CanM P w K mg base k "way_of" ["custom"] jD) (c_weights_of:CanM P w K mg base k "weights_of" ["custom"] cX) (c_kid_claims:CanM P w K mg base k "kid_claims" ["custom"] cZ) (c_kids_of:CanM P w K mg base k "kids_of" ["custom"] bH):∀ n:Nat,CanM P w K mg base (k+1+n) "dealt_on" ["custom", "catch"] (dB n)
 | 0=>oJ F dM fun cdv A outer s H E G W WR=>zEE
 | n+1=>yO (k:=k+1+n) F B KT C R ET (c_is_boat:=c_is_boat.mono (by omega)) (c_dealt:=c_dealt.mono (by omega)) (c_way_of:=c_way_of.mono (by omega)) (c_weights_of:=c_weights_of.mono (by omega)) (c_kid_claims:=c_kid_claims.mono (by omega)) (c_kids_of:=c_kids_of.mono (by omega)) (c_dealt_on:=oW F B KT C R ET (c_is_boat:=c_is_boat) (c_dealt:=c_dealt) (c_way_of:=c_way_of) (c_weights_of:=c_weights_of) (c_kid_claims:=c_kid_claims) (c_kids_of:=c_kids_of) n)
theorem zBC (F:Fn K mg "shares" sK ["custom", "catch"] f fd) (B:Bt mg) (KT:Kt K) (C:Ct K mg) (R:Rt K mg) (ET:Et K mg) (c_refuse_outside:CanM P w K mg base k "refuse_outside" ["amount", "most"] bF) (c_dealt_on:CanM P w K mg base k "dealt_on" ["custom", "catch"] (dB 10)) (c_whole:CanM P w K mg base k "whole" ["number"] bG) (c_claim_of:CanM P w K mg base k "claim_of" ["custom"] dO):CanM P w K mg base (k+1) "shares" ["custom", "catch"] dS:=
  fV F zDs fun W WR=>(aF (nF (aG W c_refuse_outside rfl (aA (aN 1) (aA (aG W c_whole rfl (aA (aG W c_claim_of rfl (bQ 0)) aL aK)) aL aK) aH)))
 (aI (fU (cD W c_dealt_on rfl (aA (aN 0) (bQ 1) aH)))))
theorem zGH (F:Fn K mg "fish" vD ["custom", "catch"] f fd) (B:Bt mg) (KT:Kt K) (C:Ct K mg) (R:Rt K mg) (ET:Et K mg) (c_shares:CanM P w K mg base k "shares" ["custom", "catch"] dS) (c_whole:CanM P w K mg base k "whole" ["number"] bG) (c_floor_of:CanM P w K mg base k "floor_of" ["one"] gH) (c_minus:CanM P w K mg base k "minus" ["one", "two"] dQ) (c_ranked:CanR P w K mg base k dF):CanM P w K mg base (k+1) "fish" ["custom", "catch"] qV:=
  fV F kB fun W WR=>(aF (s_z 2 kB.nd (PEf.d (cD W c_shares rfl (aA (aN 0) (aA (aG W c_whole rfl (bQ 1)) aL aK) aH))))
 (aF (zJS (i:=3) kB.nd rfl (Or.inl rfl) (zAd W kB.nd rfl (sc:=aD vD) rfl rfl (by decide +kernel) (lU (aN 2)) (fun C2 s2 H2 fp2 G W=>⟨pE,(aG W c_floor_of rfl (bQ 7))⟩)) rfl)
 (aF (zFO (i:=4) kB.nd rfl (Or.inl rfl) (PCf.d (PCf.frz (zBV (N:=["custom", "catch", "exact", "told", "broken", "left", "number"]) W (by decide +kernel) rfl (sc:=aD vD) rfl rfl (by decide +kernel) (zEl rfl B.zip (aA (aN 3) (bQ 2) aH)) (fun C2 s2 H2 fp2 G W=>(aG W c_minus rfl (aA (aG W c_whole rfl (bQ 7)) (bQ 8) aK)))))) rfl)
 (aF (s_z 5 kB.nd (PEd.frz (aW wD zDJ (aN 1) (aU (eR W.calm) kO rfl B.sum dE (bQ 3)))))
 (aF (mX W.own W.calm (lU (PEf.d (oB (PEf.d (zHD W c_ranked zIs zFK rfl (bQ 4))) yR (pA (aN 5))))) (g_z 6 kB.nd) bO (aI (zJX (i:=3) (pv 3) (aN 6) cU)))
 (aI (jG 3 (pv 3))))))))
theorem uM (F:Fn K mg "_law_right" kI ["custom", "claims", "catch"] f fd) (B:Bt mg) (KT:Kt K) (C:Ct K mg) (R:Rt K mg) (ET:Et K mg) (c_fish:CanM P w K mg base k "fish" ["custom", "catch"] qV) (c_shares:CanM P w K mg base k "shares" ["custom", "catch"] dS) (c_law_near:CanM P w K mg base k "_law_near" ["found", "share", "claim"] gI) (c_law_no_better:CanM P w K mg base k "_law_no_better" ["found", "told", "one", "other"] cJ):CanM P w K mg base (k+1) "_law_right" ["custom", "claims", "catch"] fJ:=
  fV F cA fun W WR=>(aF (s_z 3 cA.nd (PEf.d (cD W c_fish rfl (aA (aN 0) (bQ 2) aH))))
 (aF (s_z 4 cA.nd (PEf.d (cD W c_shares rfl (aA (aN 0) (aA (rA (aA (aN 2) (aA cU aL fS) aH)) aL zFp) aH))))
 (aF (nK (PWd.pt (zET (zJU (zCZ (zBu KT.list rfl B.isinstance (aN 3) (xG (v:=.ty "list") rfl B.list boot_list rfl)))) (zAz (tst (neA W.u) zJG (aU aQ dU rfl B.len PySem.boot_len (bQ 3)) (aU aQ dU rfl B.len PySem.boot_len (bQ 1)) (bD _))))) (aI (cO (qX zAL fun _=>.bl _))) cB)
 (aF (mX W.own W.calm (zKb rfl B.zip (aA (aN 3) (aA (aN 4) (bQ 1) aH) aH)) (zGI W.calm (kG (g_z 5 cA.nd) (kG (g_z 6 cA.nd) (kG (g_z 7 cA.nd) zCi))) (jW (jW (jW zDb)))) (wW (iA bO (iA bO (iA bO xL)))) (aI (nK (zJU (zCZ (aG W c_law_near rfl (aA (aN 5) (aA (aN 6) (bQ 7) aH) aH)))) (aI (cO (qX zAL fun _=>.bl _))) cB)))
 (aF (nK (tst (neA W.u) zJG (aU (eR W.calm) kO rfl B.sum dE (bQ 3)) (aN 2) (bD _)) (aI (cO (qX zAL fun _=>.bl _))) cB)
 (aF (mX W.own W.calm (zAw rfl B.range (aA (aU aQ dU rfl B.len PySem.boot_len (bQ 1)) aL aK)) (g_z 8 cA.nd) bO (aI (mX W.own W.calm (zAw rfl B.range (aA (aU aQ dU rfl B.len PySem.boot_len (bQ 1)) aL aK)) (g_z 9 cA.nd) bO (aI (nK (PWd.pt (zHp (tst (neA W.u) zJG (aN 8) (aN 9) (bD _)) (zHp (tst xR zHG (qZ (aN 3) 8) cU (bD _)) (zFP (tst pP zDU (qZ (aN 3) 9) (qZ (aN 1) 9) (bD _)))))) (aI (nK (zJU (zCZ (aG W c_law_no_better rfl (aA (aN 3) (aA (aN 4) (aA (aN 8) (bQ 9) aH) aH) aH)))) (aI (cO (qX zAL fun _=>.bl _))) cB)) cB)))))
 (aI (cO (qX zAL fun _=>.bl _)))))))))
theorem zIS (F:Fn K mg "law" nT ["script"] f fd) (B:Bt mg) (KT:Kt K) (C:Ct K mg) (R:Rt K mg) (ET:Et K mg) (c_law_claims:CanM P w K mg base k "_law_claims" ["script", "at", "most"] dW) (c_law_tree:CanM P w K mg base k "_law_tree" ["claims", "script", "at"] gF) (c_law_right:CanM P w K mg base k "_law_right" ["custom", "claims", "catch"] fJ):FnOk P w K mg base (CX1 P w) (k+1) f fd ["script"] (spM K mg 1 zGV):=
  zJZ F rE fun cdv A outer s H E G W WR=>(aF (s_z 1 rE.nd (PEf.d (cD W c_law_claims rfl (aA (aN 0) (aA cU (aA cU aL fS) fS) aH))))
 (aF (s_z 2 rE.nd (aG W c_law_tree rfl (aA (aN 1) (aA (aN 0) (aA cU aL fS) aH) aH)))
 (aF (uJ (i:=3) rE.nd rfl (Or.inl rfl) (eZ (aA cU (aA (aU (eR W.calm) kO rfl B.sum dE (bQ 1)) aL aK) fS)))
 (aF (mX W.own W.calm (lU (PEf.d (oB (aN 0) (pA cU) (pA cU)))) (g_z 4 rE.nd) bO (aI (zFa (i:=3) (pv 3) (aW dG lC (aN 4) (aW cT jZ (aU (eR W.calm) kO rfl B.sum dE (bQ 1)) cU)))))
 (aI (cO (aU (zEn W.calm) zKf rfl B.all zCd (aA (PEf.d (kM W rE.nd rfl (sc:=aD nT) rfl rfl (by decide +kernel) (lU (aN 3)) (fun C2 s2 H2 fp2 G W=>⟨pE,(aG W c_law_right rfl (aA (aN 2) (aA (aN 1) (bQ 5) aH) aH))⟩))) aL))))))))
end
end Lw
namespace Lw
open PySem PySem.Spec PyProof.Rows L2 L3
def FnK (K:PySem.W.Frag) (x:Str) (st:Stmt):Prop:=∃ f oc od sl kV dc pm an cd ct,PySem.W.nsIn K mainGlobals x=some (some (.ref f))/\K.lookup f=some ⟨oc,od,.func (PySem.W.fnOf x x (gA st) (cS st) (aD st) .none kV dc pm an cd ct),sl⟩/\PySem.W.codeIn K cd x=true/\PySem.W.keepIn K (.ref f)=true
theorem fk {K:PySem.W.Frag} {h:Heap} {mg:Str->Option Value} {x:Str} {st:Stmt} (X:K.In h) (G:h.Ns mainGlobals mg) (d:FnK K x st) (ps:List Str) (hb:∀ (kV doc pm:Value) (an:Option Addr) (cdv ct:Value) (us:List Value),us.length=ps.length->bindArgs (PySem.W.fnOf x x (gA st) (cS st) (aD st) .none kV doc pm an cdv ct) ⟨us,[]⟩=pure (ps.zip us)):∃ f fd,Fn K mg x st ps f fd:=by
 obtain ⟨f,oc,od,sl,kV,dc,pm,an,cd,ct,a,l,c,k⟩:=d
 exact ⟨f,_,qU (st:=st) l c k,(qU (st:=st) l c k).binds (ps:=ps) hb,k,PySem.W.mg_of X G a⟩
theorem fkm {K:PySem.W.Frag} {x:Str} {st:Stmt} {f:Addr} {oc:Value} {od an:Option Addr} {sl:Array (Option Value)} {kV dc pm cd ct:Value} (a:PySem.W.nsIn K mainGlobals x=some (some (.ref f))) (l:K.lookup f=some ⟨oc,od,.func (PySem.W.fnOf x x (gA st) (cS st) (aD st) .none kV dc pm an cd ct),sl⟩) (c:PySem.W.codeIn K cd x=true) (k:PySem.W.keepIn K (.ref f)=true):FnK K x st:=⟨f,oc,od,sl,kV,dc,pm,an,cd,ct,a,l,c,k⟩
theorem zKE {l:PySem.W.OpenLaw} {w:World} {K:PySem.W.Frag} {h:Heap} {mg:Str->Option Value} {fa f12 f45:Addr} (X:K.In h) (G:h.Ns mainGlobals mg) (hfa:mg "law" = some (.ref fa))
  {od12 an12:Option Addr} {sl12:Array (Option Value)} {oc12 kV12 dc12 pm12 ct12:Value}
  {od45 an45:Option Addr} {sl45:Array (Option Value)} {oc45 kV45 dc45 pm45 cd45 ct45:Value}
  (d0:FnK K "common_divisor" eJ)
  (d1:FnK K "made" zCl)
  (d2:FnK K "whole" xB)
  (d3:FnK K "plus" zCK)
  (d4:FnK K "minus" yI)
  (d5:FnK K "times" yE)
  (d6:FnK K "over" zDr)
  (d7:FnK K "less" zCj)
  (d8:FnK K "lesser" sC)
  (d9:FnK K "is_outside" jA)
  (d10:FnK K "refuse_outside" eG)
  (d11:FnK K "floor_of" lW)
  {cR T:Addr}
  (a12:PySem.W.nsIn K mainGlobals "ranked" = some (some (.ref f12))) (l12:K.lookup f12=some ⟨oc12,od12,.func (PySem.W.fnOf "ranked" "ranked" (gA eS) (cS eS) (aD eS) .none kV12 dc12 pm12 an12 (.ref cR) ct12),sl12⟩) (c12:PySem.W.codeIn K (.ref cR) "ranked" = true) (k12:PySem.W.keepIn K (.ref f12)=true)
  (tq:PySem.W.codeHdIn K cR T=true) (tn:K.lookup T=none)
  (d13:FnK K "looked" sP)
  (d14:FnK K "refuse_way" iR)
  (d15:FnK K "refuse_claims" fB)
  (d16:FnK K "refuse_weights" eI)
  (d17:FnK K "dealt" xC)
  (d18:FnK K "rightly_dealt" cI)
  (d19:FnK K "row_dealt" jY)
  (d20:FnK K "even_dealt" iX)
  (d21:FnK K "levels_of" gM)
  (d22:FnK K "part_dealt" fW)
  (d23:FnK K "half_dealt" fO)
  (d24:FnK K "boat" zBG)
  (d25:FnK K "knot" zDq)
  (d26:FnK K "is_boat" pC)
  (d27:FnK K "way_of" tL)
  (d28:FnK K "weights_of" iU)
  (d29:FnK K "kids_of" oI)
  (d30:FnK K "claims_of" hJ)
  (d31:FnK K "claim_of" mF)
  (d32:FnK K "kid_claims" fP)
  (d33:FnK K "deep_of" iO)
  (d34:FnK K "shares" sK)
  (d35:FnK K "dealt_on" jE)
  (d36:FnK K "fish" vD)
  (d37:FnK K "_law_cell_at" gZ)
  (d38:FnK K "_law_claims" iW)
  (d39:FnK K "_law_knot" jJ)
  (d40:FnK K "_law_tree" mK)
  (d41:FnK K "_law_far" pL)
  (d42:FnK K "_law_no_better" fK)
  (d43:FnK K "_law_near" mD)
  (d44:FnK K "_law_right" kI)
  (a45:PySem.W.nsIn K mainGlobals "law" = some (some (.ref f45))) (l45:K.lookup f45=some ⟨oc45,od45,.func (PySem.W.fnOf "law" "law" (gA nT) (cS nT) (aD nT) .none kV45 dc45 pm45 an45 cd45 ct45),sl45⟩) (c45:PySem.W.codeIn K cd45 "law" = true) (k45:PySem.W.keepIn K (.ref f45)=true)
  (z_abs:PySem.W.nsIn K mainGlobals "abs" = some none)
  (z_sorted:PySem.W.nsIn K mainGlobals "sorted" = some none)
  (z_range:PySem.W.nsIn K mainGlobals "range" = some none)
  (z_len:PySem.W.nsIn K mainGlobals "len" = some none)
  (z_sum:PySem.W.nsIn K mainGlobals "sum" = some none)
  (z_zip:PySem.W.nsIn K mainGlobals "zip" = some none)
  (z_tuple:PySem.W.nsIn K mainGlobals "tuple" = some none)
  (z_max:PySem.W.nsIn K mainGlobals "max" = some none)
  (z_enumerate:PySem.W.nsIn K mainGlobals "enumerate" = some none)
  (z_min:PySem.W.nsIn K mainGlobals "min" = some none)
  (z_isinstance:PySem.W.nsIn K mainGlobals "isinstance" = some none)
  (z_bool:PySem.W.nsIn K mainGlobals "bool" = some none)
  (z_int:PySem.W.nsIn K mainGlobals "int" = some none)
  (z_list:PySem.W.nsIn K mainGlobals "list" = some none)
  (z_all:PySem.W.nsIn K mainGlobals "all" = some none)
  (KT:Kt K) (CC:∀ (h:Heap) (mg:Str->Option Value),K.In h->h.Ns mainGlobals mg->Ct K mg) (RR:∀ (h:Heap) (mg:Str->Option Value),K.In h->h.Ns mainGlobals mg->Rt K mg) (EE:∀ (h:Heap) (mg:Str->Option Value),K.In h->h.Ns mainGlobals mg->Et K mg)
  : K.lookup T=none/\lL K mg T/\∃ fd:FuncData,(∀ (s:Shared) (v:Value),BindsTo s fd ⟨[v],[]⟩ [("script", v)])/\∀ base:Heap,K.In base->base.Ns mainGlobals mg->BMn base mg->FnOk l.prog w K mg base (CX1 l.prog w) 30 fa fd ["script"] (zJY K mg):=by
 have e:=hfa.symm.trans (PySem.W.mg_of X G a45)
 cases e
 have B:Bt mg:=⟨PySem.W.mg_none_of X G z_abs,PySem.W.mg_none_of X G z_sorted,PySem.W.mg_none_of X G z_range,PySem.W.mg_none_of X G z_len,PySem.W.mg_none_of X G z_sum,PySem.W.mg_none_of X G z_zip,PySem.W.mg_none_of X G z_tuple,PySem.W.mg_none_of X G z_max,PySem.W.mg_none_of X G z_enumerate,PySem.W.mg_none_of X G z_min,PySem.W.mg_none_of X G z_isinstance,PySem.W.mg_none_of X G z_bool,PySem.W.mg_none_of X G z_int,PySem.W.mg_none_of X G z_list,PySem.W.mg_none_of X G z_all⟩
 have C:Ct K mg:=CC h mg X G
 have R:Rt K mg:=RR h mg X G
 have ET:Et K mg:=EE h mg X G
 have hT:lL K mg T:=⟨f12,_,_,_,_,cR,PySem.W.mg_of X G a12,l12,rfl,fun h X=>PySem.W.codeHd_of_K X tq⟩
 refine ⟨tn,hT,?_⟩
 refine ⟨PySem.W.fnOf "law" "law" (gA nT) (cS nT) (aD nT) .none kV45 dc45 pm45 an45 cd45 ct45,fun s v=>.of_eq rfl,fun base _ _ hB=>?_⟩
 obtain ⟨_,_,F0⟩:=fk X G d0 ["one", "two"] fun _ _ _ _ _ _ us hl=>by obtain ⟨_,_,rfl⟩:=L3.ln2 hl;rfl
 have c_common_divisor:=mJ (P:=l.prog) (w:=w) (base:=base) (k:=0) F0 B KT C R ET
 obtain ⟨_,_,F2⟩:=fk X G d2 ["number"] fun _ _ _ _ _ _ us hl=>by obtain ⟨_,rfl⟩:=L3.ln1 hl;rfl
 have c_whole:=zFn (P:=l.prog) (w:=w) (base:=base) (k:=0) F2 B KT C R ET
 obtain ⟨_,_,F7⟩:=fk X G d7 ["one", "two"] fun _ _ _ _ _ _ us hl=>by obtain ⟨_,_,rfl⟩:=L3.ln2 hl;rfl
 have c_less:=zHC (P:=l.prog) (w:=w) (base:=base) (k:=0) F7 B KT C R ET
 obtain ⟨_,_,F11⟩:=fk X G d11 ["one"] fun _ _ _ _ _ _ us hl=>by obtain ⟨_,rfl⟩:=L3.ln1 hl;rfl
 have c_floor_of:=wU (P:=l.prog) (w:=w) (base:=base) (k:=0) F11 B KT C R ET
 have F12:Fn K mg "ranked" eS ["some"] _ _:=⟨qU (st:=eS) l12 c12 k12,(qU (st:=eS) l12 c12 k12).binds (ps:=["some"]) fun _ _ _ _ _ _ us hl=>by obtain ⟨_,rfl⟩:=L3.ln1 hl;rfl,k12,PySem.W.mg_of X G a12⟩
 have c_ranked:=zDI (P:=l.prog) (w:=w) (base:=base) (k:=0) F12 B KT C R ET hT hB
 obtain ⟨_,_,F14⟩:=fk X G d14 ["way"] fun _ _ _ _ _ _ us hl=>by obtain ⟨_,rfl⟩:=L3.ln1 hl;rfl
 have c_refuse_way:=sE (P:=l.prog) (w:=w) (base:=base) (k:=0) F14 B KT C R ET
 obtain ⟨_,_,F15⟩:=fk X G d15 ["claims"] fun _ _ _ _ _ _ us hl=>by obtain ⟨_,rfl⟩:=L3.ln1 hl;rfl
 have c_refuse_claims:=nR (P:=l.prog) (w:=w) (base:=base) (k:=0) F15 B KT C R ET
 obtain ⟨_,_,F16⟩:=fk X G d16 ["way", "weights", "many"] fun _ _ _ _ _ _ us hl=>by obtain ⟨_,_,_,rfl⟩:=L3.ln3 hl;rfl
 have c_refuse_weights:=mM (P:=l.prog) (w:=w) (base:=base) (k:=0) F16 B KT C R ET
 obtain ⟨_,_,F24⟩:=fk X G d24 ["claim"] fun _ _ _ _ _ _ us hl=>by obtain ⟨_,rfl⟩:=L3.ln1 hl;rfl
 have c_boat:=zIe (P:=l.prog) (w:=w) (base:=base) (k:=0) F24 B KT C R ET
 obtain ⟨_,_,F26⟩:=fk X G d26 ["custom"] fun _ _ _ _ _ _ us hl=>by obtain ⟨_,rfl⟩:=L3.ln1 hl;rfl
 have c_is_boat:=zAF (P:=l.prog) (w:=w) (base:=base) (k:=0) F26 B KT C R ET
 obtain ⟨_,_,F27⟩:=fk X G d27 ["custom"] fun _ _ _ _ _ _ us hl=>by obtain ⟨_,rfl⟩:=L3.ln1 hl;rfl
 have c_way_of:=zBk (P:=l.prog) (w:=w) (base:=base) (k:=0) F27 B KT C R ET
 obtain ⟨_,_,F28⟩:=fk X G d28 ["custom"] fun _ _ _ _ _ _ us hl=>by obtain ⟨_,rfl⟩:=L3.ln1 hl;rfl
 have c_weights_of:=rL (P:=l.prog) (w:=w) (base:=base) (k:=0) F28 B KT C R ET
 obtain ⟨_,_,F37⟩:=fk X G d37 ["script", "k"] fun _ _ _ _ _ _ us hl=>by obtain ⟨_,_,rfl⟩:=L3.ln2 hl;rfl
 have c_law_cell_at:=pY (P:=l.prog) (w:=w) (base:=base) (k:=0) F37 B KT C R ET
 obtain ⟨_,_,F41⟩:=fk X G d41 ["many", "share", "other_share"] fun _ _ _ _ _ _ us hl=>by obtain ⟨_,_,_,rfl⟩:=L3.ln3 hl;rfl
 have c_law_far:=zAT (P:=l.prog) (w:=w) (base:=base) (k:=0) F41 B KT C R ET
 obtain ⟨_,_,F43⟩:=fk X G d43 ["found", "share", "claim"] fun _ _ _ _ _ _ us hl=>by obtain ⟨_,_,_,rfl⟩:=L3.ln3 hl;rfl
 have c_law_near:=xE (P:=l.prog) (w:=w) (base:=base) (k:=0) F43 B KT C R ET
 obtain ⟨_,_,F1⟩:=fk X G d1 ["top", "bottom"] fun _ _ _ _ _ _ us hl=>by obtain ⟨_,_,rfl⟩:=L3.ln2 hl;rfl
 have c_made:=zHV (P:=l.prog) (w:=w) (base:=base) (k:=1) F1 B KT C R ET (c_common_divisor:=c_common_divisor.mono (by decide))
 obtain ⟨_,_,F8⟩:=fk X G d8 ["one", "two"] fun _ _ _ _ _ _ us hl=>by obtain ⟨_,_,rfl⟩:=L3.ln2 hl;rfl
 have c_lesser:=zBi (P:=l.prog) (w:=w) (base:=base) (k:=1) F8 B KT C R ET (c_less:=c_less.mono (by decide))
 obtain ⟨_,_,F9⟩:=fk X G d9 ["amount", "most"] fun _ _ _ _ _ _ us hl=>by obtain ⟨_,_,rfl⟩:=L3.ln2 hl;rfl
 have c_is_outside:=tP (P:=l.prog) (w:=w) (base:=base) (k:=1) F9 B KT C R ET (c_less:=c_less.mono (by decide))
 obtain ⟨_,_,F13⟩:=fk X G d13 ["way", "weights", "claims"] fun _ _ _ _ _ _ us hl=>by obtain ⟨_,_,_,rfl⟩:=L3.ln3 hl;rfl
 have c_looked:=zCI (P:=l.prog) (w:=w) (base:=base) (k:=1) F13 B KT C R ET (c_refuse_way:=c_refuse_way.mono (by decide)) (c_refuse_claims:=c_refuse_claims.mono (by decide)) (c_refuse_weights:=c_refuse_weights.mono (by decide))
 obtain ⟨_,_,F29⟩:=fk X G d29 ["custom"] fun _ _ _ _ _ _ us hl=>by obtain ⟨_,rfl⟩:=L3.ln1 hl;rfl
 have c_kids_of:=zAV (P:=l.prog) (w:=w) (base:=base) (k:=1) F29 B KT C R ET (c_is_boat:=c_is_boat.mono (by decide))
 obtain ⟨_,_,F38⟩:=fk X G d38 ["script", "at", "most"] fun _ _ _ _ _ _ us hl=>by obtain ⟨_,_,_,rfl⟩:=L3.ln3 hl;rfl
 have c_law_claims:=sJ (P:=l.prog) (w:=w) (base:=base) (k:=1) F38 B KT C R ET (c_law_cell_at:=c_law_cell_at.mono (by decide))
 obtain ⟨_,_,F42⟩:=fk X G d42 ["found", "told", "one", "other"] fun _ _ _ _ _ _ us hl=>by obtain ⟨_,_,_,_,rfl⟩:=L3.ln4 hl;rfl
 have c_law_no_better:=nS (P:=l.prog) (w:=w) (base:=base) (k:=1) F42 B KT C R ET (c_law_far:=c_law_far.mono (by decide))
 obtain ⟨_,_,F3⟩:=fk X G d3 ["one", "two"] fun _ _ _ _ _ _ us hl=>by obtain ⟨_,_,rfl⟩:=L3.ln2 hl;rfl
 have c_plus:=zHi (P:=l.prog) (w:=w) (base:=base) (k:=2) F3 B KT C R ET (c_made:=c_made.mono (by decide))
 obtain ⟨_,_,F4⟩:=fk X G d4 ["one", "two"] fun _ _ _ _ _ _ us hl=>by obtain ⟨_,_,rfl⟩:=L3.ln2 hl;rfl
 have c_minus:=zFe (P:=l.prog) (w:=w) (base:=base) (k:=2) F4 B KT C R ET (c_made:=c_made.mono (by decide))
 obtain ⟨_,_,F5⟩:=fk X G d5 ["one", "two"] fun _ _ _ _ _ _ us hl=>by obtain ⟨_,_,rfl⟩:=L3.ln2 hl;rfl
 have c_times:=zEA (P:=l.prog) (w:=w) (base:=base) (k:=2) F5 B KT C R ET (c_made:=c_made.mono (by decide))
 obtain ⟨_,_,F6⟩:=fk X G d6 ["one", "two"] fun _ _ _ _ _ _ us hl=>by obtain ⟨_,_,rfl⟩:=L3.ln2 hl;rfl
 have c_over:=zHR (P:=l.prog) (w:=w) (base:=base) (k:=2) F6 B KT C R ET (c_made:=c_made.mono (by decide))
 obtain ⟨_,_,F10⟩:=fk X G d10 ["amount", "most"] fun _ _ _ _ _ _ us hl=>by obtain ⟨_,_,rfl⟩:=L3.ln2 hl;rfl
 have c_refuse_outside:=mH (P:=l.prog) (w:=w) (base:=base) (k:=2) F10 B KT C R ET (c_is_outside:=c_is_outside.mono (by decide))
 obtain ⟨_,_,F21⟩:=fk X G d21 ["weights", "claims"] fun _ _ _ _ _ _ us hl=>by obtain ⟨_,_,rfl⟩:=L3.ln2 hl;rfl
 have c_levels_of:=vW (P:=l.prog) (w:=w) (base:=base) (k:=2) F21 B KT C R ET (c_made:=c_made.mono (by decide))
 obtain ⟨_,_,F19⟩:=fk X G d19 ["claims", "catch"] fun _ _ _ _ _ _ us hl=>by obtain ⟨_,_,rfl⟩:=L3.ln2 hl;rfl
 have c_row_dealt:=uX (P:=l.prog) (w:=w) (base:=base) (k:=3) F19 B KT C R ET (c_lesser:=c_lesser.mono (by decide)) (c_minus:=c_minus.mono (by decide)) (c_whole:=c_whole.mono (by decide))
 obtain ⟨_,_,F20⟩:=fk X G d20 ["weights", "claims", "catch"] fun _ _ _ _ _ _ us hl=>by obtain ⟨_,_,_,rfl⟩:=L3.ln3 hl;rfl
 have c_even_dealt:=tG (P:=l.prog) (w:=w) (base:=base) (k:=3) F20 B KT C R ET (c_ranked:=c_ranked.mono (by decide)) (c_levels_of:=c_levels_of.mono (by decide)) (c_over:=c_over.mono (by decide)) (c_lesser:=c_lesser.mono (by decide)) (c_minus:=c_minus.mono (by decide)) (c_times:=c_times.mono (by decide)) (c_whole:=c_whole.mono (by decide))
 obtain ⟨_,_,F22⟩:=fk X G d22 ["claims", "catch"] fun _ _ _ _ _ _ us hl=>by obtain ⟨_,_,rfl⟩:=L3.ln2 hl;rfl
 have c_part_dealt:=tQ (P:=l.prog) (w:=w) (base:=base) (k:=3) F22 B KT C R ET (c_over:=c_over.mono (by decide)) (c_whole:=c_whole.mono (by decide)) (c_times:=c_times.mono (by decide))
 obtain ⟨_,_,F23⟩:=fk X G d23 ["claims", "catch"] fun _ _ _ _ _ _ us hl=>by obtain ⟨_,_,rfl⟩:=L3.ln2 hl;rfl
 have c_half_dealt:=sD (P:=l.prog) (w:=w) (base:=base) (k:=4) F23 B KT C R ET (c_times:=c_times.mono (by decide)) (c_even_dealt:=c_even_dealt.mono (by decide)) (c_plus:=c_plus.mono (by decide))
 obtain ⟨_,_,F18⟩:=fk X G d18 ["way", "weights", "claims", "catch"] fun _ _ _ _ _ _ us hl=>by obtain ⟨_,_,_,_,rfl⟩:=L3.ln4 hl;rfl
 have c_rightly_dealt:=iH (P:=l.prog) (w:=w) (base:=base) (k:=5) F18 B KT C R ET (c_whole:=c_whole.mono (by decide)) (c_row_dealt:=c_row_dealt.mono (by decide)) (c_even_dealt:=c_even_dealt.mono (by decide)) (c_part_dealt:=c_part_dealt.mono (by decide)) (c_half_dealt:=c_half_dealt.mono (by decide)) (c_minus:=c_minus.mono (by decide)) (c_less:=c_less.mono (by decide)) (c_plus:=c_plus.mono (by decide)) 2
 obtain ⟨_,_,F17⟩:=fk X G d17 ["way", "weights", "claims", "catch"] fun _ _ _ _ _ _ us hl=>by obtain ⟨_,_,_,_,rfl⟩:=L3.ln4 hl;rfl
 have c_dealt:=zEK (P:=l.prog) (w:=w) (base:=base) (k:=8) F17 B KT C R ET (c_looked:=c_looked.mono (by decide)) (c_refuse_outside:=c_refuse_outside.mono (by decide)) (c_rightly_dealt:=c_rightly_dealt.mono (by decide)) (c_whole:=c_whole.mono (by decide))
 obtain ⟨_,_,F30⟩:=fk X G d30 ["custom"] fun _ _ _ _ _ _ us hl=>by obtain ⟨_,rfl⟩:=L3.ln1 hl;rfl
 have c_claims_of:=nE (P:=l.prog) (w:=w) (base:=base) (k:=2) F30 B KT C R ET (c_is_boat:=c_is_boat.mono (by decide)) (c_kids_of:=c_kids_of.mono (by decide)) 10
 obtain ⟨_,_,F33⟩:=fk X G d33 ["custom"] fun _ _ _ _ _ _ us hl=>by obtain ⟨_,rfl⟩:=L3.ln1 hl;rfl
 have c_deep_of:=qM (P:=l.prog) (w:=w) (base:=base) (k:=2) F33 B KT C R ET (c_kids_of:=c_kids_of.mono (by decide)) 10
 obtain ⟨_,_,F25⟩:=fk X G d25 ["way", "weights", "kids"] fun _ _ _ _ _ _ us hl=>by obtain ⟨_,_,_,rfl⟩:=L3.ln3 hl;rfl
 have c_knot:=zHQ (P:=l.prog) (w:=w) (base:=base) (k:=13) F25 B KT C R ET (c_refuse_way:=c_refuse_way.mono (by decide)) (c_refuse_weights:=c_refuse_weights.mono (by decide)) (c_deep_of:=c_deep_of.mono (by decide)) (c_claims_of:=c_claims_of.mono (by decide))
 obtain ⟨_,_,F31⟩:=fk X G d31 ["custom"] fun _ _ _ _ _ _ us hl=>by obtain ⟨_,rfl⟩:=L3.ln1 hl;rfl
 have c_claim_of:=wZ (P:=l.prog) (w:=w) (base:=base) (k:=13) F31 B KT C R ET (c_claims_of:=c_claims_of.mono (by decide))
 obtain ⟨_,_,F32⟩:=fk X G d32 ["custom"] fun _ _ _ _ _ _ us hl=>by obtain ⟨_,rfl⟩:=L3.ln1 hl;rfl
 have c_kid_claims:=rY (P:=l.prog) (w:=w) (base:=base) (k:=14) F32 B KT C R ET (c_claim_of:=c_claim_of.mono (by decide)) (c_kids_of:=c_kids_of.mono (by decide))
 obtain ⟨_,_,F39⟩:=fk X G d39 ["kids", "cell"] fun _ _ _ _ _ _ us hl=>by obtain ⟨_,_,rfl⟩:=L3.ln2 hl;rfl
 have c_law_knot:=wX (P:=l.prog) (w:=w) (base:=base) (k:=14) F39 B KT C R ET (c_knot:=c_knot.mono (by decide))
 obtain ⟨_,_,F40⟩:=fk X G d40 ["claims", "script", "at"] fun _ _ _ _ _ _ us hl=>by obtain ⟨_,_,_,rfl⟩:=L3.ln3 hl;rfl
 have c_law_tree:=yM (P:=l.prog) (w:=w) (base:=base) (k:=15) F40 B KT C R ET (c_law_knot:=c_law_knot.mono (by decide)) (c_boat:=c_boat.mono (by decide)) (c_law_cell_at:=c_law_cell_at.mono (by decide))
 obtain ⟨_,_,F35⟩:=fk X G d35 ["custom", "catch"] fun _ _ _ _ _ _ us hl=>by obtain ⟨_,_,rfl⟩:=L3.ln2 hl;rfl
 have c_dealt_on:=oW (P:=l.prog) (w:=w) (base:=base) (k:=15) F35 B KT C R ET (c_is_boat:=c_is_boat.mono (by decide)) (c_dealt:=c_dealt.mono (by decide)) (c_way_of:=c_way_of.mono (by decide)) (c_weights_of:=c_weights_of.mono (by decide)) (c_kid_claims:=c_kid_claims.mono (by decide)) (c_kids_of:=c_kids_of.mono (by decide)) 10
 obtain ⟨_,_,F34⟩:=fk X G d34 ["custom", "catch"] fun _ _ _ _ _ _ us hl=>by obtain ⟨_,_,rfl⟩:=L3.ln2 hl;rfl
 have c_shares:=zBC (P:=l.prog) (w:=w) (base:=base) (k:=26) F34 B KT C R ET (c_refuse_outside:=c_refuse_outside.mono (by decide)) (c_dealt_on:=c_dealt_on.mono (by decide)) (c_whole:=c_whole.mono (by decide)) (c_claim_of:=c_claim_of.mono (by decide))
 obtain ⟨_,_,F36⟩:=fk X G d36 ["custom", "catch"] fun _ _ _ _ _ _ us hl=>by obtain ⟨_,_,rfl⟩:=L3.ln2 hl;rfl
 have c_fish:=zGH (P:=l.prog) (w:=w) (base:=base) (k:=27) F36 B KT C R ET (c_shares:=c_shares.mono (by decide)) (c_whole:=c_whole.mono (by decide)) (c_floor_of:=c_floor_of.mono (by decide)) (c_minus:=c_minus.mono (by decide)) (c_ranked:=c_ranked.mono (by decide))
 obtain ⟨_,_,F44⟩:=fk X G d44 ["custom", "claims", "catch"] fun _ _ _ _ _ _ us hl=>by obtain ⟨_,_,_,rfl⟩:=L3.ln3 hl;rfl
 have c_law_right:=uM (P:=l.prog) (w:=w) (base:=base) (k:=28) F44 B KT C R ET (c_fish:=c_fish.mono (by decide)) (c_shares:=c_shares.mono (by decide)) (c_law_near:=c_law_near.mono (by decide)) (c_law_no_better:=c_law_no_better.mono (by decide))
 have F45:Fn K mg "law" nT ["script"] _ _:=⟨qU (st:=nT) l45 c45 k45,(qU (st:=nT) l45 c45 k45).binds (ps:=["script"]) fun _ _ _ _ _ _ us hl=>by obtain ⟨_,rfl⟩:=L3.ln1 hl;rfl,k45,PySem.W.mg_of X G a45⟩
 have c_law:=zIS (P:=l.prog) (w:=w) (base:=base) (k:=29) F45 B KT C R ET (c_law_claims:=c_law_claims.mono (by decide)) (c_law_tree:=c_law_tree.mono (by decide)) (c_law_right:=c_law_right.mono (by decide))
 exact zGZ c_law law_true
end Lw
open PySem PySem.W PyProof.Rows
local macro_rules | `(tactic| walk_at "fk")=>`(tactic| (refine' Lw.fkm ?a ?l ?c ?k;(case a=>k_is);(case l=>k_is);(case c=>k_is);(case k=>k_is)))
set_option maxRecDepth 100000 in
set_option maxHeartbeats 0 in
theorem PySem.Challenge.cw_catchhall_k54_whole_no_fish_better_elsew_holds : PySem.Challenge.rw_catchhall_k54_whole_no_fish_better_elsew.Holds := by
 w_on;o_law;k_head;(case hw=>w_witness2)
 k_fill
 refine L3.zLx (l:=PySem.Challenge.rw_catchhall_k54_whole_no_fish_better_elsew) (k:=30) rfl rfl ⟨rfl,by decide,by decide⟩ (fun w h Y=>PySem.W.km_in_of Y) (fun w h Y=>PySem.W.km_tabs_of Y _ (.head _)) ?F
 case F=>
  intro w mg fa h KX G hmg
  refine' Lw.zKE KX G hmg ?d0 ?d1 ?d2 ?d3 ?d4 ?d5 ?d6 ?d7 ?d8 ?d9 ?d10 ?d11 ?a12 ?l12 ?c12 ?k12 ?tq ?tn ?d13 ?d14 ?d15 ?d16 ?d17 ?d18 ?d19 ?d20 ?d21 ?d22 ?d23 ?d24 ?d25 ?d26 ?d27 ?d28 ?d29 ?d30 ?d31 ?d32 ?d33 ?d34 ?d35 ?d36 ?d37 ?d38 ?d39 ?d40 ?d41 ?d42 ?d43 ?d44 ?a45 ?l45 ?c45 ?k45 ?z_abs ?z_sorted ?z_range ?z_len ?z_sum ?z_zip ?z_tuple ?z_max ?z_enumerate ?z_min ?z_isinstance ?z_bool ?z_int ?z_list ?z_all ?KT ?CC ?RR ?EE
  (case a12=>k_is)
  (case l12=>k_is)
  (case c12=>k_is)
  (case k12=>k_is)
  (case tq=>first | k_is | kernel_rfl | kn_code | decide +kernel)
  (case tn=>first | k_is | kernel_rfl | kn_code | decide +kernel)
  (case a45=>k_is)
  (case l45=>k_is)
  (case c45=>k_is)
  (case k45=>k_is)
  (case d0=>walk_at "fk")
  (case d1=>walk_at "fk")
  (case d2=>walk_at "fk")
  (case d3=>walk_at "fk")
  (case d4=>walk_at "fk")
  (case d5=>walk_at "fk")
  (case d6=>walk_at "fk")
  (case d7=>walk_at "fk")
  (case d8=>walk_at "fk")
  (case d9=>walk_at "fk")
  (case d10=>walk_at "fk")
  (case d11=>walk_at "fk")
  (case d13=>walk_at "fk")
  (case d14=>walk_at "fk")
  (case d15=>walk_at "fk")
  (case d16=>walk_at "fk")
  (case d17=>walk_at "fk")
  (case d18=>walk_at "fk")
  (case d19=>walk_at "fk")
  (case d20=>walk_at "fk")
  (case d21=>walk_at "fk")
  (case d22=>walk_at "fk")
  (case d23=>walk_at "fk")
  (case d24=>walk_at "fk")
  (case d25=>walk_at "fk")
  (case d26=>walk_at "fk")
  (case d27=>walk_at "fk")
  (case d28=>walk_at "fk")
  (case d29=>walk_at "fk")
  (case d30=>walk_at "fk")
  (case d31=>walk_at "fk")
  (case d32=>walk_at "fk")
  (case d33=>walk_at "fk")
  (case d34=>walk_at "fk")
  (case d35=>walk_at "fk")
  (case d36=>walk_at "fk")
  (case d37=>walk_at "fk")
  (case d38=>walk_at "fk")
  (case d39=>walk_at "fk")
  (case d40=>walk_at "fk")
  (case d41=>walk_at "fk")
  (case d42=>walk_at "fk")
  (case d43=>walk_at "fk")
  (case d44=>walk_at "fk")
  (case z_abs=>k_is)
  (case z_sorted=>k_is)
  (case z_range=>k_is)
  (case z_len=>k_is)
  (case z_sum=>k_is)
  (case z_zip=>k_is)
  (case z_tuple=>k_is)
  (case z_max=>k_is)
  (case z_enumerate=>k_is)
  (case z_min=>k_is)
  (case z_isinstance=>k_is)
  (case z_bool=>k_is)
  (case z_int=>k_is)
  (case z_list=>k_is)
  (case z_all=>k_is)
  (case KT=>refine' ⟨⟨?t0_0,?t0_1,?t0_2,?t0_3,?t0_4,?t0_5⟩,⟨?t1_0,?t1_1,?t1_2,?t1_3,?t1_4,?t1_5⟩,⟨?t2_0,?t2_1,?t2_2,?t2_3,?t2_4,?t2_5⟩⟩<;>(first | kit_is | (show _=some true;kit_is) | (show _=some false;kit_is) | rfl | decide +kernel))
  (case CC=>
   intro h mg X G
   refine' Lw.zLE X G ?n_BOAT ?n_DEEPEST ?n_HALF ?pHALF0_l ?n_MOST_BOATS ?n_NOUGHT ?pNOUGHT1_l ?n_WEIGHTED ?pWEIGHTED2_l ?n_CONTRARY ?aT<;>try first | k_is | kit_is | k_exc | rfl | decide +kernel | kernel_rfl)
  (case RR=>
   intro h mg X G
   refine' Lw.zKV X G ?n_BadClaim ?x_BadClaim ?n_BadWay ?x_BadWay ?n_BadWeights ?x_BadWeights ?n_NoFraction ?x_NoFraction ?n_Outside ?x_Outside ?n_TooMany ?x_TooMany<;>try first | k_is | kit_is | k_exc | rfl | decide +kernel | kernel_rfl)
  (case EE=>
   intro h mg X G
   refine' Lw.zLe X G )
